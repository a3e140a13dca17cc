/- Arrays compared: blocks of 32 bytes, the document's images. -/
import Derived.Test.YtlmieegemckodaaIArr
import Derived.DeepKeys
import Derived.Laws.StructEq
import Derived.Deep.RegionHeld3
namespace Go.Proofs.Ytlmieegemckodaa
open Go.RowKit
set_option linter.unusedSimpArgs false

theorem eqItems_any {P : Program} (w : World) (d : Nat) (e : TypeId) (hagg : (isAgg e).run P w = .ok false w) (xs ys : Array Value) (f : Nat → Bool) : ∀ (is : List Nat),
    (∀ i ∈ is, ∃ a b, xs[i]? = some a ∧ ys[i]? = some b ∧ (Op.equalIn d e a b).run P w = .ok (f i) w) → (Op.eqItems d e 1 xs ys is).run P w = .ok (is.all f) w
  | [], _ => by simp [Op.eqItems]
  | i :: is, h => by
    obtain ⟨a, b, h1, h2, h3⟩ := h i (by simp)
    have ih := eqItems_any w d e hagg xs ys f is fun j hj => h j (by simp [hj])
    have p1 : (part e xs (i * 1)).run P w = .ok a w := by simp [part, hagg, Nat.mul_one, h1]
    have p2 : (part e ys (i * 1)).run P w = .ok b w := by simp [part, hagg, Nat.mul_one, h2]
    simp only [Op.eqItems, Sem.run_bind, p1, p2, h3, Result.andThen_ok, List.all_cons]
    cases f i
    · simp
    · simpa using ih

theorem all_eq {α : Type} [DecidableEq α] {A B : List α} {n : Nat} (d : α) (hA : A.length = n) (hB : B.length = n) : (List.range n).all (fun i => decide (A.getD i d = B.getD i d)) = decide (A = B) := by
  by_cases h : A = B
  · subst h; simp
  · have : ¬ ∀ i, i < n → A.getD i d = B.getD i d := fun hall => h (by
      apply List.ext_getElem (by omega)
      intro i h1 h2
      have := hall i (by omega)
      simpa [List.getD, h1, h2] using this)
    rw [decide_eq_false h, Bool.eq_false_iff]
    intro ht
    rw [List.all_eq_true] at ht
    exact this fun i hi => by simpa using ht i (by simpa using hi)

theorem equalIn_blk (l m : List Nat) (hl : l.length = 32) (hm : m.length = 32) (w : World) (d : Nat) : (Op.equalIn (d + 1 + 1) 80 (.agg (cB l).toArray) (.agg (cB m).toArray)).run Try.prog w = .ok (decide (l = m)) w := by
  obtain ⟨i0, hi0, hz0, hz1, hz2⟩ := info_parts info5
  rw [run_equalIn_array w (d + 1) _ _ Try.underlying80 hi0]
  rw [show Try.prog.cellsOf 5 = 1 by kernel_rfl]
  rw [eqItems_any w (d + 1) 5 (Try.isAgg5 w) _ _ (fun i => decide (l.getD i 0 = m.getD i 0)) (List.range 32) (fun i hi => by
    have hi' : i < 32 := by simpa using hi
    refine ⟨.int .u8 ((l.getD i 0 : Nat) : Int), .int .u8 ((m.getD i 0 : Nat) : Int), ?_, ?_, ?_⟩
    · simp [cB, List.getD, show i < l.length by omega]
    · simp [cB, List.getD, show i < m.length by omega]
    · rw [run_equalIn_int w d 5 .u8 .u8 _ _ Try.underlying5]
      refine congrArg (fun b => Result.ok b w) ?_
      by_cases h : l.getD i 0 = m.getD i 0
      · rw [h]; simp
      · rw [decide_eq_false h]
        simp only [beq_eq_false_iff_ne, ne_eq]
        omega)]
  rw [all_eq 0 hl hm]

theorem eql_blk (l m : List Nat) (hl : l.length = 32) (hm : m.length = 32) (w : World) : (binOp .eql 80 (.agg (cB l).toArray) (.agg (cB m).toArray)).run Try.prog w = .ok (.bool (decide (l = m))) w := by
  rw [run_eql_struct, show (10000 : Nat) = 9998 + 1 + 1 from rfl, equalIn_blk l m hl hm w 9998]
  rfl

theorem neq_blk (l m : List Nat) (hl : l.length = 32) (hm : m.length = 32) (w : World) : (binOp .neq 80 (.agg (cB l).toArray) (.agg (cB m).toArray)).run Try.prog w = .ok (.bool !(decide (l = m))) w := by
  rw [run_neq_struct, show (10000 : Nat) = 9998 + 1 + 1 from rfl, equalIn_blk l m hl hm w 9998]
  rfl

theorem strB_same {A B : List Nat} (hA : ∀ x ∈ A, x < 256) (hB : ∀ x ∈ B, x < 256) : ((strB A).toList == (strB B).toList) = decide (A = B) := by
  rw [ByteArray.toList_eq, ByteArray.toList_eq]
  by_cases h : A = B
  · subst h; simp
  · have hne : ¬ (strB A).data = (strB B).data := fun e => h (strB_inj hA hB (ByteArray.ext e))
    rw [decide_eq_false h]
    simp only [beq_eq_false_iff_ne, ne_eq]
    exact fun e => hne (Array.ext' e)

theorem okF.byte {F : List (List Nat)} (h : okF F) : ∀ l ∈ F, ∀ x ∈ l, x < 256 := fun l hl x hx => by
  rcases h.2 l hl with rfl | h1
  · cases hx
  · exact h1.2 x hx

theorem eql_img (F G : List (List Nat)) (hF : okF F) (hG : okF G) (w : World) : (binOp .eql 29 (.agg (cS F).toArray) (.agg (cS G).toArray)).run Try.prog w = .ok (.bool (decide (F = G))) w := by
  have info9 : (Try.prog.info? 9).map (fun i => (i.zero, i.size, i.bytes)) = some (some (.string { data := #[] }), 1, 16) := by kernel_rfl
  obtain ⟨i0, hi0, hz0, hz1, hz2⟩ := info_parts info9
  rw [run_eql_struct, show (10000 : Nat) = 9998 + 1 + 1 from rfl, run_equalIn_array w (9998 + 1) _ _ Try.underlying29 hi0]
  rw [show Try.prog.cellsOf 9 = 1 by kernel_rfl]
  rw [eqItems_any w (9998 + 1) 9 (Try.isAgg9 w) _ _ (fun i => decide (F.getD i [] = G.getD i [])) (List.range 256) (fun i hi => by
    have hi' : i < 256 := by simpa using hi
    have hF1 : i < F.length := by rw [hF.1]; exact hi'
    have hG1 : i < G.length := by rw [hG.1]; exact hi'
    refine ⟨.string (strB (F.getD i [])), .string (strB (G.getD i [])), ?_, ?_, ?_⟩
    · simp [cS, List.getD, hF1]
    · simp [cS, List.getD, hG1]
    · rw [run_equalIn_string w 9998 9 _ _ Try.underlying9, strB_same (hF.byte _ (by simp [List.getD, hF1])) (hG.byte _ (by simp [List.getD, hG1]))])]
  rw [all_eq [] hF.1 hG.1]
  rfl

end Go.Proofs.Ytlmieegemckodaa

/- In the midst of a region that draws its order, the condition that is held may be replaced by a stronger one: what was learnt behind a call. -/
namespace Go.Proofs.Ytlmieegemckodaa

theorem wpAnyH_strong {P : Program} {md : Region.Mode} {ops : Array Oper} {Q : Exit → Act → World → Prop} {S0 S1 : World → Prop} (h : ∀ w, S1 w → S0 w) :
    ∀ {fuel : Nat} {listed : Array Bool} {a : Act} {w : World}, wpAnyH P md ops Q S1 fuel listed a w → wpAnyH P md ops Q S0 fuel listed a w
  | 0, _, _, _, k => k
  | _ + 1, _, _, _, k => ⟨k.1, fun i hi => wpOp_mono (fun _ w' kk => ⟨h w' kk.1, wpAnyH_strong h kk.2⟩) (k.2 i hi)⟩
end Go.Proofs.Ytlmieegemckodaa

/- In a region that draws its order: an operation that calls a function of Go, by its contract alone (no simp over the region's rest); the load of an image; two images compared. -/
namespace Go.Proofs.Ytlmieegemckodaa
open Go.RowKit

theorem ready_call {P : Program} {o : Oper} {a : Act} {w : World} {K : Act → World → Prop} {Q : Exit → Act → World → Prop} {f : FuncId} {vs : Array Value} {c : Prop} [Decidable c]
    (hw : c) (hx : (execOp a.eval o).run P w = .ok (.enter f vs) w)
    (hc : Calls P f vs w fun e w' => ∃ v, e = .returned v ∧ K (a.put o.dst v) w') : if c then Oper.wp P o a w K Q else K (a.put o.dst undef) w := by
  rw [if_pos hw, Oper.wp, hx, Oper.upon_enter]
  refine hc.mono ?_
  rintro e w' ⟨v, rfl, hK⟩
  exact hK

/-- The same, for an operation that makes a value and leaves the world as it is. -/
theorem ready_val {P : Program} {o : Oper} {a : Act} {w : World} {K : Act → World → Prop} {Q : Exit → Act → World → Prop} {v : Value} {c : Prop} [Decidable c]
    (hw : c) (hx : (execOp a.eval o).run P w = .ok (.value v) w) (hc : K (a.put o.dst v) w) : if c then Oper.wp P o a w K Q else K (a.put o.dst undef) w := by
  rw [if_pos hw, Oper.wp, hx, Oper.upon_value]
  exact hc

theorem exec_load_img {w : World} {o : Oper} {a : Act} {p : Operand} {g : Nat} {F : List (List Nat)} (hop : o.op = Op.load 29 p) (hp : a.eval p = .pointer (some ⟨g, 0, none⟩)) (hg : w.heap[g]? = some (arrObj F)) (hl : F.length = 256) :
    (execOp a.eval o).run Try.prog w = .ok (.value (.agg (cS F).toArray)) w := by
  have h1 := run_load_img hg hl
  simp only [execOp, hop, hp, Sem.run_bind, h1, Result.andThen, Sem.run_pure]

end Go.Proofs.Ytlmieegemckodaa
