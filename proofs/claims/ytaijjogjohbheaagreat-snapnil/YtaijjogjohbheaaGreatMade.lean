/- A row that 'make' has laid, with room, and an append that fills its head: what it holds, its spare room too. -/
import Derived.Test.YtaijjogjohbheaaGreatMemAll
import Derived.Laws.OwnMore
namespace Go.Proofs.YtaijjogjohbheaaGreat
open Go.RowKit
set_option maxRecDepth 100000

theorem mk0_toList (N : Nat) : (mk0 N).toList = cB (List.replicate N 0) := by
  unfold mk0
  rw [toList_madeCells_one]
  simp [cB]

theorem rd_row {w : World} {g : Nat} {cur : Array Value} {L : List Nat} (hg : w.heap[g]? = some (.cells cur 5 (0, 0))) (hc : cur.toList = cB L) (hb : ∀ x ∈ L, x < 256) : Rd w (some ⟨g, 0, none⟩) L.length L := by
  refine ⟨rfl, hb, fun _ => ⟨g, 0, rfl, fun j hj => ?_⟩⟩
  rw [Nat.zero_add, cell_of_row w g j cur 5 (0, 0) hg, ← Array.getElem?_toList, hc]
  simp [cB, List.getD, hj]

set_option maxRecDepth 100000 in
theorem run_append_made (w : World) (g N : Nat) (hg : w.heap[g]? = some (.cells (mk0 N) 5 (0, 0))) (A : Option Addr) (n c : Nat) (l : List Nat) (hr : Rd w A n l) (hn : n ≤ N) (ty : TypeId) :
    ∃ w', (Builtin.append_ #[40, 40] ty #[.slice (some ⟨g, 0, none⟩) 0 N, .slice A n c]).run Tryz.prog w = .ok (.slice (some ⟨g, 0, none⟩) n N) w' ∧ Rd w' (some ⟨g, 0, none⟩) N (l ++ List.replicate (N - n) 0) ∧ w.grownBy w' (some g) := by
  obtain ⟨i0, hi0, hz0, hz1, hz2⟩ := info_parts info5
  have hby : ∀ y ∈ l ++ List.replicate (N - n) 0, y < 256 := by
    intro y hy
    simp only [List.mem_append, List.mem_replicate] at hy
    rcases hy with hy | hy
    · exact hr.2.1 y hy
    · omega
  have hlen : (l ++ List.replicate (N - n) 0).length = N := by rw [List.length_append, List.length_replicate, hr.1]; omega
  rcases A with _ | ad
  · have h0 : n = 0 := by
      rcases Nat.eq_zero_or_pos n with h | h
      · exact h
      · obtain ⟨b, o, h, _⟩ := hr.2.2 h; cases h
    subst h0
    have : l = [] := List.eq_nil_of_length_eq_zero hr.1
    subst this
    refine ⟨w, ?_, ?_, World.grownBy.refl _ _⟩
    · simp [Builtin.append_, run_underlying Tryz.underlying40, sizeOf, typeInfo, hi0, Builtin.lenOf, Builtin.firstCells, storeCells]
    · have := rd_row hg (L := [] ++ List.replicate (N - 0) 0) (by rw [mk0_toList]; simp) hby
      rw [hlen] at this
      exact this
  · have hsz : (mk0 N).size = N := by unfold mk0; rw [size_madeCells]
    have hrun := run_append_room (P := Tryz.prog) w 40 ty 5 i0 Tryz.underlying40 hi0 g 0 N (mk0 N) hg ad n c (cB l) (by rw [cB_length, hr.1, hz1]; omega) (rd_cells hr) (cB_one l) (by omega) (by rw [cB_length, hr.1, hsz]; omega)
    rw [Nat.zero_add] at hrun
    refine ⟨_, hrun, ?_, ⟨rfl, rfl, rfl, by simp, fun k _ hk => setRow_other w g k _ (fun e => hk (by simp [e]))⟩⟩
    have hheap := setRow_heap w g (mk0 N) ((mk0 N).toList.take (0 * i0.size) ++ cB l ++ (mk0 N).toList.drop (0 * i0.size + (cB l).length)).toArray 5 (0, 0) hg
    have := rd_row hheap (L := l ++ List.replicate (N - n) 0) (by
      rw [mk0_toList, cB_append]
      simp only [Nat.zero_mul, List.take_zero, List.nil_append, Nat.zero_add, cB_length, hr.1]
      congr 1
      simp [cB]) hby
    rw [hlen] at this
    exact this

theorem wpList_append_made {w : World} {ops : Array Oper} {rest : List Oper} {o : Oper} {a : Act} {Q : Exit → Act → World → Prop} (hgd : o.guard = none) (s x : Operand)
    (hop : o.op = .call { callee := .builtin .append, args := #[s, x], argTypes := #[40, 40] }) (g N : Nat) (hs : a.eval s = .slice (some ⟨g, 0, none⟩) 0 N) (A : Option Addr) (n c : Nat) (hx : a.eval x = .slice A n c)
    (hg : w.heap[g]? = some (.cells (mk0 N) 5 (0, 0))) (l : List Nat) (hr : Rd w A n l) (hn : n ≤ N)
    (h : ∀ w', Rd w' (some ⟨g, 0, none⟩) N (l ++ List.replicate (N - n) 0) → w.grownBy w' (some g) → wpList Tryz.prog ops Q rest (a.put o.dst (.slice (some ⟨g, 0, none⟩) n N)) w') :
    wpList Tryz.prog ops Q (o :: rest) a w := by
  refine wpList_plain hgd fun K hK => ?_
  obtain ⟨w', hrun, h1, h2⟩ := run_append_made w g N hg A n c l hr hn o.type
  unfold Oper.wp execOp
  simp only [hop, resolve, invoke, builtin, Sem.run_bind, Sem.run_pure, Result.andThen_ok, List.map_toArray, List.map_cons, List.map_nil, hs, hx, hrun]
  exact hK _ _ (h w' h1 h2)

end Go.Proofs.YtaijjogjohbheaaGreat
