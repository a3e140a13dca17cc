/- In a region that draws its order: an operation that calls a function of Go, by its contract alone (no simp over the region's rest); the load of an image; two images compared. -/
import Derived.Test.YtlmieegemckodaaIEq
import Derived.Test.YtlmieegemckodaaOrders
namespace Go.Proofs.Ytlmieegemckodaa
open Go.RowKit

theorem ready_call {P : Program} {o : Oper} {a : Act} {w : World} {K : Act → World → Prop} {Q : Exit → Act → World → Prop} {f : FuncId} {vs : Array Value} {c : Prop} [Decidable c]
    (hw : c) (hx : (execOp a.eval o).run P w = .ok (.enter f vs) w)
    (hc : Calls P f vs w fun e w' => ∃ v, e = .returned v ∧ K (a.put o.dst v) w') : if c then Oper.wp P o a w K Q else K (a.put o.dst undef) w := by
  rw [if_pos hw, Oper.wp, hx, Oper.upon_enter]
  refine hc.mono ?_
  rintro e w' ⟨v, rfl, hK⟩
  exact hK

/-- The same, for an operation that makes a value and leaves the world as it is. -/
theorem ready_val {P : Program} {o : Oper} {a : Act} {w : World} {K : Act → World → Prop} {Q : Exit → Act → World → Prop} {v : Value} {c : Prop} [Decidable c]
    (hw : c) (hx : (execOp a.eval o).run P w = .ok (.value v) w) (hc : K (a.put o.dst v) w) : if c then Oper.wp P o a w K Q else K (a.put o.dst undef) w := by
  rw [if_pos hw, Oper.wp, hx, Oper.upon_value]
  exact hc

theorem exec_load_img {w : World} {o : Oper} {a : Act} {p : Operand} {g : Nat} {F : List (List Nat)} (hop : o.op = Op.load 29 p) (hp : a.eval p = .pointer (some ⟨g, 0, none⟩)) (hg : w.heap[g]? = some (arrObj F)) (hl : F.length = 256) :
    (execOp a.eval o).run Try.prog w = .ok (.value (.agg (cS F).toArray)) w := by
  have h1 := run_load_img hg hl
  simp only [execOp, hop, hp, Sem.run_bind, h1, Result.andThen, Sem.run_pure]

end Go.Proofs.Ytlmieegemckodaa
