/- In a region that draws its order: an operation that calls a function of Go, by its contract alone (no simp over the region's rest); the load of an image; two images compared. -/
import Derived.Test.YtaijjogjohbheaaGreatGAppGToIEq
import Derived.Test.YtaijjogjohbheaaGreatOrders
namespace Go.Proofs.YtaijjogjohbheaaGreat
open Go.RowKit
set_option maxRecDepth 100000

theorem ready_call {P : Program} {o : Oper} {a : Act} {w : World} {K : Act → World → Prop} {Q : Exit → Act → World → Prop} {f : FuncId} {vs : Array Value} {c : Prop} [Decidable c]
    (hw : c) (hx : (execOp a.eval o).run P w = .ok (.enter f vs) w)
    (hc : Calls P f vs w fun e w' => ∃ v, e = .returned v ∧ K (a.put o.dst v) w') : if c then Oper.wp P o a w K Q else K (a.put o.dst undef) w := by
  rw [if_pos hw, Oper.wp, hx, Oper.upon_enter]
  refine hc.mono ?_
  rintro e w' ⟨v, rfl, hK⟩
  exact hK

/-- The same, for an operation that makes a value and leaves the world as it is. -/
theorem ready_val {P : Program} {o : Oper} {a : Act} {w : World} {K : Act → World → Prop} {Q : Exit → Act → World → Prop} {v : Value} {c : Prop} [Decidable c]
    (hw : c) (hx : (execOp a.eval o).run P w = .ok (.value v) w) (hc : K (a.put o.dst v) w) : if c then Oper.wp P o a w K Q else K (a.put o.dst undef) w := by
  rw [if_pos hw, Oper.wp, hx, Oper.upon_value]
  exact hc

theorem exec_load_img {w : World} {o : Oper} {a : Act} {p : Operand} {g : Nat} {F : List (List Nat)} (hop : o.op = Op.load 37 p) (hp : a.eval p = .pointer (some ⟨g, 0, none⟩)) (hg : w.heap[g]? = some (arrObj F)) (hl : F.length = 256) :
    (execOp a.eval o).run Tryz.prog w = .ok (.value (.agg (cS F).toArray)) w := by
  have h1 := run_load_img hg hl
  simp only [execOp, hop, hp, Sem.run_bind, h1, Result.andThen, Sem.run_pure]

end Go.Proofs.YtaijjogjohbheaaGreat

/- Bytes behind a row of the call's own, in a region that draws its order. -/
namespace Go.Proofs.YtaijjogjohbheaaGreat
open Go.RowKit
set_option maxRecDepth 100000
set_option linter.unusedSimpArgs false

theorem step_append_rdG {w : World} {ops : Array Oper} {o : Oper} {a : Act} {K : Act → World → Prop} {Q : Exit → Act → World → Prop} {E : Prop} (hgd : o.guard = none) (s x : Operand)
    (hop : o.op = .call { callee := .builtin .append, args := #[s, x], argTypes := #[40, 40] }) (v : Value) (hs : a.eval s = v) (A : Option Addr) (n c : Nat) (hx : a.eval x = .slice A n c)
    (base : Nat) (l0 : List Nat) (ho : Own w base v l0) (hbase : base ≤ w.heap.size) (l : List Nat) (hr : Rd w A n l) (hn : l0.length + n ≤ 3000000)
    (h : ∀ v' w', Own w' base v' (l0 ++ l) → w.grownBy w' v.ownBlock → K (a.put o.dst v') w') :
    if Region.wanted o (yielded ops a.tmps) = true then Oper.wp Tryz.prog o a w K Q else E := by
  have hw : Region.wanted o (yielded ops a.tmps) = true := by simp [Region.wanted, hgd]
  rw [if_pos hw]
  obtain ⟨v', w', hrun, h1, h2⟩ := run_append_rdG w base v l0 ho hbase A n c l hr hn o.type
  unfold Oper.wp execOp
  simp only [hop, resolve, invoke, builtin, Sem.run_bind, Sem.run_pure, Result.andThen_ok, List.map_toArray, List.map_cons, List.map_nil, hs, hx, hrun]
  exact h v' w' h1 h2

theorem run_append_rdL (w : World) (base : Nat) (v : Value) (l0 : List Nat) (ho : Own w base v l0) (hbase : base ≤ w.heap.size) (A : Option Addr) (n c : Nat) (l : List Nat) (hr : Rd w A n l) (hn : l0.length + n ≤ 3000000) (ty : TypeId) :
    ∃ v' w', (Builtin.append_ #[40, 40] ty #[v, .slice A n c]).run Tryz.prog w = .ok v' w' ∧ Own w' base v' (l0 ++ l) ∧ w.grownBy w' v.ownBlock ∧ (∀ g, v'.ownBlock = some g → v.ownBlock = some g ∨ w.heap.size ≤ g) := by
  obtain ⟨i0, hi0, hz0, hz1, hz2⟩ := info_parts info5
  rcases A with _ | ad
  · have h0 : n = 0 := by
      rcases Nat.eq_zero_or_pos n with h | h
      · exact h
      · obtain ⟨b, o, h, _⟩ := hr.2.2 h; cases h
    subst h0
    have : l = [] := List.eq_nil_of_length_eq_zero hr.1
    subst this
    refine ⟨v, w, ?_, by simpa using ho, World.grownBy.refl _ _, fun g hg => .inl hg⟩
    rcases ho.2.2 with ⟨rfl, _⟩ | ⟨g, cap, cur, rfl, _, _, hnc, _⟩
    · simp [Builtin.append_, run_underlying Tryz.underlying40, sizeOf, typeInfo, hi0, Builtin.lenOf, Builtin.firstCells]
    · simp [Builtin.append_, run_underlying Tryz.underlying40, sizeOf, typeInfo, hi0, Builtin.lenOf, Builtin.firstCells, hnc, storeCells]
  · obtain ⟨v', w', hrun, h1, h2, h3, h4⟩ := run_append_own_at (P := Tryz.prog) w base 40 ty 5 i0 _ 1 1 Tryz.underlying40 hi0 hz0 hz1 hz2 rfl (by omega) v l0.length (cB l0) ho.2 ad n c (cB l) (by rw [cB_length, hr.1]; omega) (rd_cells hr) (cB_one l) (by unfold maxLen; omega) (by omega) hbase
    refine ⟨v', w', hrun, ⟨?_, ?_⟩, h2, fun g hg => ?_⟩
    · intro y hy
      simp only [List.mem_append] at hy
      rcases hy with hy | hy
      · exact ho.1 y hy
      · exact hr.2.1 y hy
    · rw [cB_append, List.length_append, hr.1]; exact h1
    · rcases h4 with h4 | h4
      · exact .inl (h4 ▸ hg)
      · rw [h4] at hg
        injection hg with hg
        exact .inr (Nat.le_of_eq hg)

theorem wpList_append_rdL {w : World} {ops : Array Oper} {rest : List Oper} {o : Oper} {a : Act} {Q : Exit → Act → World → Prop} (hgd : o.guard = none) (s x : Operand)
    (hop : o.op = .call { callee := .builtin .append, args := #[s, x], argTypes := #[40, 40] }) (v : Value) (hs : a.eval s = v) (A : Option Addr) (n c : Nat) (hx : a.eval x = .slice A n c)
    (base : Nat) (l0 : List Nat) (ho : Own w base v l0) (hbase : base ≤ w.heap.size) (l : List Nat) (hr : Rd w A n l) (hn : l0.length + n ≤ 3000000)
    (h : ∀ v' w', Own w' base v' (l0 ++ l) → Below base w w' → (∀ k, k < w.heap.size → v.ownBlock ≠ some k → w'.heap[k]? = w.heap[k]?) → (∀ g, v'.ownBlock = some g → v.ownBlock = some g ∨ w.heap.size ≤ g) → wpList Tryz.prog ops Q rest (a.put o.dst v') w') :
    wpList Tryz.prog ops Q (o :: rest) a w := by
  refine wpList_plain hgd fun K hK => ?_
  obtain ⟨v', w', hrun, h1, h2, h3⟩ := run_append_rdL w base v l0 ho hbase A n c l hr hn o.type
  unfold Oper.wp execOp
  simp only [hop, resolve, invoke, builtin, Sem.run_bind, Sem.run_pure, Result.andThen_ok, List.map_toArray, List.map_cons, List.map_nil, hs, hx, hrun]
  exact hK _ _ (h v' w' h1 ((Below.refl _ _).grown h2 hbase (fun k hk => (ho.2.lt k hk).1)) (fun k hk hne => h2.block k hk (fun e => hne e.symm)) h3)

/-- What is read beside a row that is appended to stays. -/
theorem Rd.asideG {w w' : World} {A : Option Addr} {n : Nat} {l : List Nat} {row : Option Nat} (hr : Rd w A n l) (hg : w.grownBy w' row) (hX : 0 < n → ∀ b o, A = some ⟨b, o, none⟩ → row ≠ some b) : Rd w' A n l := by
  refine ⟨hr.1, hr.2.1, fun hn => ?_⟩
  obtain ⟨b, o, rfl, hc⟩ := hr.2.2 hn
  refine ⟨b, o, rfl, fun j hj => ?_⟩
  have hlt := World.block_lt_of_cell? w _ (hc j hj)
  have e : w'.heap[b]? = w.heap[b]? := hg.block b hlt (fun e => hX hn b o rfl e.symm)
  have hc' := hc j hj
  simp only [World.cell?] at hc' ⊢
  rw [e]
  exact hc'

end Go.Proofs.YtaijjogjohbheaaGreat
