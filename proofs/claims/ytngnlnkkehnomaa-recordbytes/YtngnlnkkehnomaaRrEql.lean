/- The document's own Right: may a record be? Over any world. -/
import Derived.Test.YtngnlnkkehnomaaRcValid
namespace Go.Proofs.Ytngnlnkkehnomaa
open Go.RowKit
set_option linter.unusedSimpArgs false

/-- Two records of the document compared. -/
theorem wpList_eql_rec {w : World} {ops : Array Oper} {rest : List Oper} {o : Oper} {a : Act} {Q : Exit → Act → World → Prop} (hgd : o.guard = none) (s x : Operand) (ty : TypeId)
    (hop : o.op = .binOp .eql 33 s x ty) (X Y : Rec) (hs : a.eval s = pcV X) (hx : a.eval x = pcV Y) (hX : ∀ z ∈ X.l, z < 256) (hY : ∀ z ∈ Y.l, z < 256) (E : Bool) (hE : X.eq Y = E)
    (h : wpList Try.prog ops Q rest (a.put o.dst (.bool E)) w) : wpList Try.prog ops Q (o :: rest) a w := by
  refine wpList_plain hgd fun K hK => ?_
  have hr := eql_rec X Y hX hY w
  have hg : (eqGuard .eql 33 s x (pcV X) (pcV Y)).run Try.prog w = .ok () w := run_eqGuard_agg w .eql _ s x _ _ (by kernel_rfl)
  rw [hE] at hr
  unfold Oper.wp execOp
  simp only [hop, hs, hx, Sem.run_bind, hg, hr, Result.andThen_ok, Sem.run_pure]
  exact hK _ _ h

/-- A number below a great one. -/
theorem wpList_lss {w : World} {ops : Array Oper} {rest : List Oper} {o : Oper} {a : Act} {Q : Exit → Act → World → Prop} (s x : Operand) (ty ty2 : TypeId) (u v : Int)
    (hop : o.op = .binOp .lss ty s x ty2) (hw : Region.wanted o (yielded ops a.tmps) = true) (hs : a.eval s = .int .u64 u) (hx : a.eval x = .int .u64 v) (B : Bool) (hB : decide (u < v) = B)
    (h : wpList Try.prog ops Q rest (a.put o.dst (.bool B)) w) : wpList Try.prog ops Q (o :: rest) a w := by
  refine wpList_step fun K hK => ?_
  rw [if_pos hw]
  unfold Oper.wp execOp
  simp only [hop, hs, hx]
  go_simp
  exact hK _ _ h

end Go.Proofs.Ytngnlnkkehnomaa
