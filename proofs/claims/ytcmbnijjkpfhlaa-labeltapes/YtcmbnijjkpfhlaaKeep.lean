/- Two laws on a row of bytes of the call's own: a byte set in it; and an append to it that leaves the row itself readable. -/
import Derived.Test.YtcmbnijjkpfhlaaMem
import Derived.ArgAppend
import Derived.Deep.DeepAppendRoom
namespace Go.Proofs.Ytcmbnijjkpfhlaa
open Go.RowKit

theorem Own.set {w : World} {base g n cap : Nat} {l : List Nat} (h : Own w base (.slice (some ⟨g, 0, none⟩) n cap) l) (hl : l.length = n) (j x : Nat) (hx : x < 256) :
    Own (w.setCell ⟨g, j, none⟩ (.int .u8 (x : Int))) base (.slice (some ⟨g, 0, none⟩) n cap) (l.set j x) := by
  obtain ⟨hb, h0, h1⟩ := h
  refine ⟨?_, ?_, ?_⟩
  · intro y hy
    rcases List.mem_or_eq_of_mem_set hy with hy | rfl
    · exact hb y hy
    · exact hx
  · simp [cB]
  · rcases h1 with ⟨hv, _⟩ | ⟨g', cap', cur, hv, hbg, hg, hnc, hcm, hcs, ht⟩
    · cases hv
    · injection hv with h2 h3 h4
      injection h2 with h2
      injection h2 with h2
      subst h2
      subst h4
      refine .inr ⟨g, cap, cur.setIfInBounds j (.int .u8 (x : Int)), by rw [List.length_set, hl], hbg, heap_setCell_same w g j cur 5 _ hg, by rw [List.length_set]; exact hnc, hcm, by rw [Array.size_setIfInBounds]; exact hcs, ?_⟩
      rw [List.length_set, Array.toList_setIfInBounds, List.take_set, ht]
      simp [cB, List.map_set]

/-- An append to a row of the call's own: the new value, and the row itself, still there. -/
theorem run_append_keep (w : World) (base g n cap : Nat) (l0 : List Nat) (ho : Own w base (.slice (some ⟨g, 0, none⟩) n cap) l0) (hn0 : l0.length = n) (hbase : base ≤ w.heap.size) (A : Option Addr) (m c : Nat) (l : List Nat) (hr : Rd w A m l) (hm : 0 < m) (hn : n + m ≤ 3000000) (ty : TypeId) :
    ∃ v' w', (Builtin.append_ #[25, 25] ty #[.slice (some ⟨g, 0, none⟩) n cap, .slice A m c]).run Try.prog w = .ok v' w' ∧ Own w' base v' (l0 ++ l) ∧ Rd w' (some ⟨g, 0, none⟩) n l0 ∧ w.grownBy w' (some g) := by
  obtain ⟨i0, hi0, hz0, hz1, hz2⟩ := info_parts info5
  obtain ⟨b, o, rfl, _⟩ := hr.2.2 hm
  have hby : ∀ y ∈ l0 ++ l, y < 256 := by
    intro y hy
    simp only [List.mem_append] at hy
    rcases hy with hy | hy
    · exact ho.1 y hy
    · exact hr.2.1 y hy
  by_cases hroom : n + m ≤ cap
  · obtain ⟨w', hrun, h1, h2⟩ := run_append_own_spare (P := Try.prog) w base 25 ty 5 i0 1 Try.underlying25 hi0 hz1 g n cap (cB l0) (by have := ho.2; rw [hn0] at this; exact this) ⟨b, o, none⟩ m c (cB l) (by rw [cB_length, hr.1]; omega) (rd_cells hr) (cB_one l) hroom
    have hO : Own w' base (.slice (some ⟨g, 0, none⟩) (n + m) cap) (l0 ++ l) := ⟨hby, by rw [cB_append, List.length_append, hn0, hr.1]; exact h1⟩
    refine ⟨_, w', hrun, hO, ?_, h2⟩
    have h3 := (hO.asSlice1 (by rw [List.length_append, hn0, hr.1])).first (k := n) (by omega)
    rw [List.take_left' hn0] at h3
    exact h3
  · have hR := ho.asSlice1 hn0
    obtain ⟨v', w', hrun, h1, h2⟩ := run_append_arg_grows (P := Try.prog) w 25 ty 5 i0 _ 1 1 Try.underlying25 hi0 hz0 hz1 hz2 rfl (by omega) ⟨g, 0, none⟩ n cap (cB l0) (by rw [cB_length, hn0]; omega) (rd_cells hR) ⟨b, o, none⟩ m c (cB l) (by rw [cB_length, hr.1]; omega) (rd_cells hr) (by omega) (by unfold maxLen; omega) (by omega)
    have hO : Own w' w.heap.size v' (l0 ++ l) := ⟨hby, by rw [cB_append, List.length_append, hn0, hr.1]; exact h1⟩
    have hB : Below w.heap.size w w' := (Below.refl _ _).grown h2 (Nat.le_refl _) (by simp)
    refine ⟨v', w', hrun, ⟨hO.1, hO.2.1, hO.2.2.imp id fun ⟨g, cap, cur, hv, hg, rest⟩ => ⟨g, cap, cur, hv, Nat.le_trans hbase hg, rest⟩⟩, hR.later hB, grownBy_of_below hB _⟩

theorem wpList_append_keep {w : World} {ops : Array Oper} {rest : List Oper} {o : Oper} {a : Act} {Q : Exit → Act → World → Prop} (hgd : o.guard = none) (s x : Operand)
    (hop : o.op = .call { callee := .builtin .append, args := #[s, x], argTypes := #[25, 25] }) (g n cap : Nat) (hs : a.eval s = .slice (some ⟨g, 0, none⟩) n cap) (A : Option Addr) (m c : Nat) (hx : a.eval x = .slice A m c)
    (base : Nat) (l0 : List Nat) (ho : Own w base (.slice (some ⟨g, 0, none⟩) n cap) l0) (hn0 : l0.length = n) (hbase : base ≤ w.heap.size) (l : List Nat) (hr : Rd w A m l) (hm : 0 < m) (hn : n + m ≤ 3000000)
    (h : ∀ v' w', Own w' base v' (l0 ++ l) → Rd w' (some ⟨g, 0, none⟩) n l0 → w.grownBy w' (some g) → wpList Try.prog ops Q rest (a.put o.dst v') w') :
    wpList Try.prog ops Q (o :: rest) a w := by
  refine wpList_plain hgd fun K hK => ?_
  obtain ⟨v', w', hrun, h1, h2, h3⟩ := run_append_keep w base g n cap l0 ho hn0 hbase A m c l hr hm hn o.type
  unfold Oper.wp execOp
  simp only [hop, resolve, invoke, builtin, Sem.run_bind, Sem.run_pure, Result.andThen_ok, List.map_toArray, List.map_cons, List.map_nil, hs, hx, hrun]
  exact hK _ _ (h v' w' h1 h2 h3)

end Go.Proofs.Ytcmbnijjkpfhlaa
