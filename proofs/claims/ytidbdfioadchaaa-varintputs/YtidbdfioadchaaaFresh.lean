/- 'append([]byte{}, b...)' whatever b is; Open once more, with where the new reader lies; over any world. -/
import Derived.Test.YtidbdfioadchaaaRefBytes
namespace Go.Proofs.Ytidbdfioadchaaa
open Go.RowKit

theorem Own.lies {w : World} {base : Nat} {v : Value} {l : List Nat} (h : Own w base v l) : ∃ a c, v = .slice a l.length c ∧ Rd w a l.length l ∧ l.length ≤ c ∧ ∀ b o, a = some ⟨b, o, none⟩ → base ≤ b := by
  obtain ⟨a, c, rfl, hr, hc⟩ := h.sl
  refine ⟨a, c, rfl, hr, hc, ?_⟩
  rintro b o rfl
  exact (h.2.lt b rfl).1

/-- An empty row of the call's own. -/
theorem own_empty {w : World} {g : Nat} (hg : w.heap[g]? = some (.cells #[] 5 (0, 0))) : Own w g (.slice (some ⟨g, 0, none⟩) 0 0) [] :=
  ⟨by simp, rfl, .inr ⟨g, 0, #[], rfl, Nat.le_refl _, hg, Nat.le_refl _, Nat.zero_le _, rfl, rfl⟩⟩

theorem rd_cells {w : World} {ad : Addr} {n : Nat} {l : List Nat} (h : Rd w (some ad) n l) : ∀ j u, (cB l)[j]? = some u → w.cell? (ad.add j) = some u := by
  intro j u hu
  have hj : j < l.length := by
    rcases Nat.lt_or_ge j l.length with h | h
    · exact h
    · rw [List.getElem?_eq_none (by rw [cB_length]; exact h)] at hu; cases hu
  have hl := h.1
  obtain ⟨b, o, he, hc'⟩ := h.2.2 (by omega)
  injection he with he
  subst he
  rw [add_plain, hc' j (by omega), ← hu]
  simp [cB, List.getD, hj]

/-- The run of such an append. -/
theorem run_fresh (w : World) (g0 : Nat) (hg : w.heap[g0]? = some (.cells #[] 5 (0, 0))) (A : Option Addr) (n c : Nat) (l : List Nat) (hr : Rd w A n l) (hn : n ≤ 1000000) (ty : TypeId) :
    ∃ g cap w', (Builtin.append_ #[22, 22] ty #[.slice (some ⟨g0, 0, none⟩) 0 0, .slice A n c]).run Try.prog w = .ok (.slice (some ⟨g, 0, none⟩) n cap) w' ∧ g0 ≤ g ∧ Own w' g0 (.slice (some ⟨g, 0, none⟩) n cap) l ∧ w.grownBy w' (some g0) := by
  obtain ⟨i0, hi0, hz0, hz1, hz2⟩ := info_parts info5
  have hlt : g0 < w.heap.size := by
    rcases Nat.lt_or_ge g0 w.heap.size with h | h
    · exact h
    · rw [Array.getElem?_eq_none h] at hg; cases hg
  have ho := own_empty hg
  rcases A with _ | ad
  · have h0 : n = 0 := by
      rcases Nat.eq_zero_or_pos n with h | h
      · exact h
      · obtain ⟨b, o, h, _⟩ := hr.2.2 h; cases h
    subst h0
    have : l = [] := List.eq_nil_of_length_eq_zero hr.1
    subst this
    refine ⟨g0, 0, w, ?_, Nat.le_refl _, ho, World.grownBy.refl _ _⟩
    simp [Builtin.append_, run_underlying Try.underlying22, sizeOf, typeInfo, hi0, Builtin.lenOf, Builtin.firstCells, storeCells]
  · obtain ⟨v', w', hrun, h1, h2, h3, h4⟩ := run_append_own_at (P := Try.prog) w g0 22 ty 5 i0 _ 1 1 Try.underlying22 hi0 hz0 hz1 hz2 rfl (by omega) (.slice (some ⟨g0, 0, none⟩) 0 0) 0 [] ho.2 ad n c (cB l) (by rw [cB_length, hr.1]; omega) (rd_cells hr) (cB_one l) (by unfold maxLen; omega) (by omega) (by omega)
    have hv : Own w' g0 v' l := ⟨hr.2.1, by simpa [hr.1] using h1⟩
    have hne : v' ≠ .slice none 0 0 := fun e => by have := (h3.1 e).1; cases this
    rcases h1.2 with ⟨h, _⟩ | ⟨g, cap, cur, rfl, hb, _⟩
    · exact absurd h hne
    · have e : 0 + n = n := by omega
      rw [e] at hrun hv
      exact ⟨g, cap, w', hrun, hb, hv, h2⟩

theorem wpList_fresh {w : World} {ops : Array Oper} {rest : List Oper} {o : Oper} {a : Act} {Q : Exit → Act → World → Prop} (hgd : o.guard = none) (s x : Operand)
    (ho : o.op = .call { callee := .builtin .append, args := #[s, x], argTypes := #[22, 22] }) (g0 : Nat) (hs : a.eval s = .slice (some ⟨g0, 0, none⟩) 0 0) (A : Option Addr) (n c : Nat) (hx : a.eval x = .slice A n c)
    (hg : w.heap[g0]? = some (.cells #[] 5 (0, 0))) (l : List Nat) (hr : Rd w A n l) (hn : n ≤ 1000000)
    (h : ∀ g cap w', g0 ≤ g → Own w' g0 (.slice (some ⟨g, 0, none⟩) n cap) l → w.grownBy w' (some g0) → wpList Try.prog ops Q rest (a.put o.dst (.slice (some ⟨g, 0, none⟩) n cap)) w') :
    wpList Try.prog ops Q (o :: rest) a w := by
  refine wpList_plain hgd fun K hK => ?_
  obtain ⟨g, cap, w', hrun, h1, h2, h3⟩ := run_fresh w g0 hg A n c l hr hn o.type
  unfold Oper.wp execOp
  simp only [ho, resolve, invoke, builtin, Sem.run_bind, Sem.run_pure, Result.andThen_ok, List.map_toArray, List.map_cons, List.map_nil, hs, hx, hrun]
  exact hK _ _ (h g cap w' h1 h2 h3)

/-! ### Where a reader lies -/
/-- A reader that lies, with its bytes, from block 'lo' on. -/
def RdrLo (w : World) (T g E : Nat) (l : List Nat) (lo : Nat) : Prop :=
  ∃ a n c, w.heap[g]? = some (.cells #[.slice a n c, .int .i64 (E : Int)] T (0, 0)) ∧ Rd w a n l ∧ n ≤ c ∧ n ≤ 1000000 ∧ lo ≤ g ∧ ∀ b o, a = some ⟨b, o, none⟩ → lo ≤ b

theorem lt_of_block {w : World} {g : Nat} {o : Obj} (h : w.heap[g]? = some o) : g < w.heap.size := by
  rcases Nat.lt_or_ge g w.heap.size with hlt | hge
  · exact hlt
  · rw [Array.getElem?_eq_none hge] at h; cases h

theorem RdrLo.keep {w w' : World} {T g E lo : Nat} {l : List Nat} (h : RdrLo w T g E l lo) (hk : ∀ k, lo ≤ k → k < w.heap.size → w'.heap[k]? = w.heap[k]?) : RdrLo w' T g E l lo := by
  obtain ⟨a, n, c, hg, hr, hc, hm, hlo, hb⟩ := h
  refine ⟨a, n, c, (hk g hlo (lt_of_block hg)).trans hg, ⟨hr.1, hr.2.1, fun hn => ?_⟩, hc, hm, hlo, hb⟩
  obtain ⟨b, o, rfl, hcell⟩ := hr.2.2 hn
  refine ⟨b, o, rfl, fun j hj => ?_⟩
  exact (World.cell?_of_block (w := w) (hk b (hb b o rfl) (World.block_lt_of_cell? w _ (hcell j hj)))).trans (hcell j hj)

theorem RdrLo.rdr {w : World} {T g E lo : Nat} {l : List Nat} (h : RdrLo w T g E l lo) : Rdr w T g E l := by
  obtain ⟨a, n, c, hg, hr, hc, hm, _⟩ := h
  exact ⟨a, n, c, hg, hr, hc, hm⟩

set_option maxHeartbeats 400000 in
theorem openLo_any (a : Option Addr) (n c : Nat) (l : List Nat) (w : World) (h : Rd w a n l) (hn : n ≤ 1000000) :
    Calls Try.prog 12 #[.slice a n c] w fun e w' => ∃ g, e = .returned (.pointer (some ⟨g, 0, none⟩)) ∧ RdrLo w' 52 g 0 l w.heap.size ∧ Below w.heap.size w w' := by
  have hcl : Calls Try.prog 21 #[.slice a n c] w fun e w' => ∃ a' c', e = .returned (.slice a' n c') ∧ Rd w' a' n l ∧ n ≤ c' ∧ Below w.heap.size w w' ∧ ∀ b o, a' = some ⟨b, o, none⟩ → w.heap.size ≤ b := by
    refine (clone_any a n c l w h hn).mono ?_
    rintro e w' ⟨v, rfl, ho, hb⟩
    obtain ⟨a', c', rfl, hr, hc, hlo⟩ := ho.lies
    rw [h.1] at hr hc ⊢
    exact ⟨a', c', rfl, hr, hc, hb, hlo⟩
  have HC := Lib.hid hcl
  clear h hcl
  go_enter Try.func12, Try.ntmps12
  go_wp2_with fail
  refine HC.out.mono ?_
  rintro e w1 ⟨a', c', rfl, hr, hc, hb, hlo⟩
  have HRd := Lib.hid hr
  have HLo := Lib.hid hlo
  clear hr hlo
  go_wp2
  go_ret
  exact ⟨_, rfl, ⟨a', n, c', heap_alloc_new w1 _, HRd.out.later (Below.alloc0 _ _), hc, hn, hb.size, HLo.out⟩, hb.alloc hb.size _⟩
end Go.Proofs.Ytidbdfioadchaaa
