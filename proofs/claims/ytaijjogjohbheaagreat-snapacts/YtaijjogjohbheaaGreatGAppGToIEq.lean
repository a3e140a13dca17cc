/- Bytes behind a row of the call's own: no other block is another one. -/
import Derived.Test.YtaijjogjohbheaaGreatGMemToKeep
import Derived.Test.YtaijjogjohbheaaGreatGZerosToINew
import Derived.DeepKeys
import Derived.Laws.StructEq
namespace Go.Proofs.YtaijjogjohbheaaGreat
open Go.RowKit
set_option maxRecDepth 100000
set_option linter.unusedSimpArgs false

theorem run_append_rdG (w : World) (base : Nat) (v : Value) (l0 : List Nat) (ho : Own w base v l0) (hbase : base ≤ w.heap.size) (A : Option Addr) (n c : Nat) (l : List Nat) (hr : Rd w A n l) (hn : l0.length + n ≤ 3000000) (ty : TypeId) :
    ∃ v' w', (Builtin.append_ #[40, 40] ty #[v, .slice A n c]).run Tryz.prog w = .ok v' w' ∧ Own w' base v' (l0 ++ l) ∧ w.grownBy w' v.ownBlock := by
  obtain ⟨i0, hi0, hz0, hz1, hz2⟩ := info_parts info5
  rcases A with _ | ad
  · have h0 : n = 0 := by
      rcases Nat.eq_zero_or_pos n with h | h
      · exact h
      · obtain ⟨b, o, h, _⟩ := hr.2.2 h; cases h
    subst h0
    have : l = [] := List.eq_nil_of_length_eq_zero hr.1
    subst this
    refine ⟨v, w, ?_, by simpa using ho, World.grownBy.refl _ _⟩
    rcases ho.2.2 with ⟨rfl, _⟩ | ⟨g, cap, cur, rfl, _, _, hnc, _⟩
    · simp [Builtin.append_, run_underlying Tryz.underlying40, sizeOf, typeInfo, hi0, Builtin.lenOf, Builtin.firstCells]
    · simp [Builtin.append_, run_underlying Tryz.underlying40, sizeOf, typeInfo, hi0, Builtin.lenOf, Builtin.firstCells, hnc, storeCells]
  · obtain ⟨v', w', hrun, h1, h2, h3, h4⟩ := run_append_own_at (P := Tryz.prog) w base 40 ty 5 i0 _ 1 1 Tryz.underlying40 hi0 hz0 hz1 hz2 rfl (by omega) v l0.length (cB l0) ho.2 ad n c (cB l) (by rw [cB_length, hr.1]; omega) (rd_cells hr) (cB_one l) (by unfold maxLen; omega) (by omega) hbase
    refine ⟨v', w', hrun, ⟨?_, ?_⟩, h2⟩
    · intro y hy
      simp only [List.mem_append] at hy
      rcases hy with hy | hy
      · exact ho.1 y hy
      · exact hr.2.1 y hy
    · rw [cB_append, List.length_append, hr.1]; exact h1

theorem wpList_append_rdG {w : World} {ops : Array Oper} {rest : List Oper} {o : Oper} {a : Act} {Q : Exit → Act → World → Prop} (hgd : o.guard = none) (s x : Operand)
    (hop : o.op = .call { callee := .builtin .append, args := #[s, x], argTypes := #[40, 40] }) (v : Value) (hs : a.eval s = v) (A : Option Addr) (n c : Nat) (hx : a.eval x = .slice A n c)
    (base : Nat) (l0 : List Nat) (ho : Own w base v l0) (hbase : base ≤ w.heap.size) (l : List Nat) (hr : Rd w A n l) (hn : l0.length + n ≤ 3000000)
    (h : ∀ v' w', Own w' base v' (l0 ++ l) → Below base w w' → (∀ k, k < w.heap.size → v.ownBlock ≠ some k → w'.heap[k]? = w.heap[k]?) → wpList Tryz.prog ops Q rest (a.put o.dst v') w') :
    wpList Tryz.prog ops Q (o :: rest) a w := by
  refine wpList_plain hgd fun K hK => ?_
  obtain ⟨v', w', hrun, h1, h2⟩ := run_append_rdG w base v l0 ho hbase A n c l hr hn o.type
  unfold Oper.wp execOp
  simp only [hop, resolve, invoke, builtin, Sem.run_bind, Sem.run_pure, Result.andThen_ok, List.map_toArray, List.map_cons, List.map_nil, hs, hx, hrun]
  exact hK _ _ (h v' w' h1 ((Below.refl _ _).grown h2 hbase (fun k hk => (ho.2.lt k hk).1)) (fun k hk hne => h2.block k hk (fun e => hne e.symm)))

end Go.Proofs.YtaijjogjohbheaaGreat

/- Arrays compared: blocks of 32 bytes, the document's images. -/
namespace Go.Proofs.YtaijjogjohbheaaGreat
open Go.RowKit
set_option maxRecDepth 100000
set_option linter.unusedSimpArgs false

theorem eqItems_any {P : Program} (w : World) (d : Nat) (e : TypeId) (hagg : (isAgg e).run P w = .ok false w) (xs ys : Array Value) (f : Nat → Bool) : ∀ (is : List Nat),
    (∀ i ∈ is, ∃ a b, xs[i]? = some a ∧ ys[i]? = some b ∧ (Op.equalIn d e a b).run P w = .ok (f i) w) → (Op.eqItems d e 1 xs ys is).run P w = .ok (is.all f) w
  | [], _ => by simp [Op.eqItems]
  | i :: is, h => by
    obtain ⟨a, b, h1, h2, h3⟩ := h i (by simp)
    have ih := eqItems_any w d e hagg xs ys f is fun j hj => h j (by simp [hj])
    have p1 : (part e xs (i * 1)).run P w = .ok a w := by simp [part, hagg, Nat.mul_one, h1]
    have p2 : (part e ys (i * 1)).run P w = .ok b w := by simp [part, hagg, Nat.mul_one, h2]
    simp only [Op.eqItems, Sem.run_bind, p1, p2, h3, Result.andThen_ok, List.all_cons]
    cases f i
    · simp
    · simpa using ih

theorem all_eq {α : Type} [DecidableEq α] {A B : List α} {n : Nat} (d : α) (hA : A.length = n) (hB : B.length = n) : (List.range n).all (fun i => decide (A.getD i d = B.getD i d)) = decide (A = B) := by
  by_cases h : A = B
  · subst h; simp
  · have : ¬ ∀ i, i < n → A.getD i d = B.getD i d := fun hall => h (by
      apply List.ext_getElem (by omega)
      intro i h1 h2
      have := hall i (by omega)
      simpa [List.getD, h1, h2] using this)
    rw [decide_eq_false h, Bool.eq_false_iff]
    intro ht
    rw [List.all_eq_true] at ht
    exact this fun i hi => by simpa using ht i (by simpa using hi)

theorem equalIn_blk (l m : List Nat) (hl : l.length = 32) (hm : m.length = 32) (w : World) (d : Nat) : (Op.equalIn (d + 1 + 1) 135 (.agg (cB l).toArray) (.agg (cB m).toArray)).run Tryz.prog w = .ok (decide (l = m)) w := by
  obtain ⟨i0, hi0, hz0, hz1, hz2⟩ := info_parts info5
  rw [run_equalIn_array w (d + 1) _ _ Tryz.underlying135 hi0]
  rw [show Tryz.prog.cellsOf 5 = 1 by kernel_rfl]
  rw [eqItems_any w (d + 1) 5 (Tryz.isAgg5 w) _ _ (fun i => decide (l.getD i 0 = m.getD i 0)) (List.range 32) (fun i hi => by
    have hi' : i < 32 := by simpa using hi
    refine ⟨.int .u8 ((l.getD i 0 : Nat) : Int), .int .u8 ((m.getD i 0 : Nat) : Int), ?_, ?_, ?_⟩
    · simp [cB, List.getD, show i < l.length by omega]
    · simp [cB, List.getD, show i < m.length by omega]
    · rw [run_equalIn_int w d 5 .u8 .u8 _ _ Tryz.underlying5]
      refine congrArg (fun b => Result.ok b w) ?_
      by_cases h : l.getD i 0 = m.getD i 0
      · rw [h]; simp
      · rw [decide_eq_false h]
        simp only [beq_eq_false_iff_ne, ne_eq]
        omega)]
  rw [all_eq 0 hl hm]

theorem eql_blk (l m : List Nat) (hl : l.length = 32) (hm : m.length = 32) (w : World) : (binOp .eql 135 (.agg (cB l).toArray) (.agg (cB m).toArray)).run Tryz.prog w = .ok (.bool (decide (l = m))) w := by
  rw [run_eql_struct, show (10000 : Nat) = 9998 + 1 + 1 from rfl, equalIn_blk l m hl hm w 9998]
  rfl

theorem neq_blk (l m : List Nat) (hl : l.length = 32) (hm : m.length = 32) (w : World) : (binOp .neq 135 (.agg (cB l).toArray) (.agg (cB m).toArray)).run Tryz.prog w = .ok (.bool !(decide (l = m))) w := by
  rw [run_neq_struct, show (10000 : Nat) = 9998 + 1 + 1 from rfl, equalIn_blk l m hl hm w 9998]
  rfl

theorem strB_same {A B : List Nat} (hA : ∀ x ∈ A, x < 256) (hB : ∀ x ∈ B, x < 256) : ((strB A).toList == (strB B).toList) = decide (A = B) := by
  rw [ByteArray.toList_eq, ByteArray.toList_eq]
  by_cases h : A = B
  · subst h; simp
  · have hne : ¬ (strB A).data = (strB B).data := fun e => h (strB_inj hA hB (ByteArray.ext e))
    rw [decide_eq_false h]
    simp only [beq_eq_false_iff_ne, ne_eq]
    exact fun e => hne (Array.ext' e)

theorem okF.byte {F : List (List Nat)} (h : okF F) : ∀ l ∈ F, ∀ x ∈ l, x < 256 := fun l hl x hx => by
  rcases h.2 l hl with rfl | h1
  · cases hx
  · exact h1.2 x hx

theorem eql_img (F G : List (List Nat)) (hF : okF F) (hG : okF G) (w : World) : (binOp .eql 37 (.agg (cS F).toArray) (.agg (cS G).toArray)).run Tryz.prog w = .ok (.bool (decide (F = G))) w := by
  have info9 : (Tryz.prog.info? 9).map (fun i => (i.zero, i.size, i.bytes)) = some (some (.string { data := #[] }), 1, 16) := by kernel_rfl
  obtain ⟨i0, hi0, hz0, hz1, hz2⟩ := info_parts info9
  rw [run_eql_struct, show (10000 : Nat) = 9998 + 1 + 1 from rfl, run_equalIn_array w (9998 + 1) _ _ Tryz.underlying37 hi0]
  rw [show Tryz.prog.cellsOf 9 = 1 by kernel_rfl]
  rw [eqItems_any w (9998 + 1) 9 (Tryz.isAgg9 w) _ _ (fun i => decide (F.getD i [] = G.getD i [])) (List.range 256) (fun i hi => by
    have hi' : i < 256 := by simpa using hi
    have hF1 : i < F.length := by rw [hF.1]; exact hi'
    have hG1 : i < G.length := by rw [hG.1]; exact hi'
    refine ⟨.string (strB (F.getD i [])), .string (strB (G.getD i [])), ?_, ?_, ?_⟩
    · simp [cS, List.getD, hF1]
    · simp [cS, List.getD, hG1]
    · rw [run_equalIn_string w 9998 9 _ _ Tryz.underlying9, strB_same (hF.byte _ (by simp [List.getD, hF1])) (hG.byte _ (by simp [List.getD, hG1]))])]
  rw [all_eq [] hF.1 hG.1]
  rfl

end Go.Proofs.YtaijjogjohbheaaGreat
