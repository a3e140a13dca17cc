/-
  No cell of these rows narrows 'for every input' (looked for: loops, veiled, ifaces, maps, wideKeys, modest, calm, conditions, laid).
  DERIVED. THE GIVEN ROWS OF THIS SEAT. 3 by the template 'for every input the law returns true; each argument reads behind the call as it read before'; 0 by the template 'total and deterministic' (their statements: YtpdpnlgiaehegaaTotals.lean).
  GIVEN WITH THE SEED: the statements are not yours to turn. If you find one false, say at which input.
  Laid BY PROGRAM, IN A SANDBOX (cutbox-rows.mjs): the forced cells as the released guide's own fill.sh prints them over the translation 9ae288c60e6f878a… (all of the seat's roots in one cut). By AI agents, Wed Nov 11 2026. No macro, syntax, notation, axiom, sorry.
-/
import Derived.Test.YtpdpnlgiaehegaaChecked
import GoSem.Claim
import GoSem.ClaimJoined
import GoSem.ClaimMapViews
import Derived.JoinedTies
import Derived.KernelRfl
namespace Go.Proofs.Ytpdpnlgiaehegaa
/- THE CELL 'sum', in the pinned program and in every row, IS THE sha256 OF THE DUMP (.gsa) THAT YtpdpnlgiaehegaaProg.lean LOADS. Nothing in Lean hashes anything: it is a label: what it is worth is what the hold of that sum in a sandbox is worth. -/
noncomputable def Try.pinned : Pinned := { name := "ytpdpnlgiaehegaa", sum := "9ae288c60e6f878a424dc48014f2fdbb6f2df049c5d0db132348264c5063fe3e", checked := Try.checked }
namespace Rows
def none {H : Type} : Left H := { results := [], args := [] }

/-- 'revenantlaw10.RootBytes': WHATEVER THE INPUT: true; the input reads as it did. -/
def rootBytesSpec : ChangeSpec := { name := "rootBytes", fn := fun _ => fun
  | [d1, d2] => { results := [.lit (.bool true)], args := [d1, d2] }
  | _ => none }
def rootBytesRow : OpenClaim := { program := "ytpdpnlgiaehegaa", sum := "9ae288c60e6f878a424dc48014f2fdbb6f2df049c5d0db132348264c5063fe3e", func := "revenant/revenantlaw10.RootBytes", spec := "rootBytes", recurses := true, apart := false }
def RootBytesSaid : Prop := rootBytesRow.holds Try.pinned (OpenSpec.ofChange rootBytesSpec)

/-- ITS FALSE NEIGHBOUR: 'it returns false'. Refute it at one input. -/
def rootBytesWrong : ChangeSpec := { name := "rootBytes", fn := fun _ => fun
  | [d1, d2] => { results := [.lit (.bool false)], args := [d1, d2] }
  | _ => none }
def RootBytesWrongFalsely : Prop := rootBytesRow.holds Try.pinned (OpenSpec.ofChange rootBytesWrong)

/-- 'revenantlaw10.RootCrash': WHATEVER THE INPUT: true; the input reads as it did. -/
def rootCrashSpec : ChangeSpec := { name := "rootCrash", fn := fun _ => fun
  | [d1, d2] => { results := [.lit (.bool true)], args := [d1, d2] }
  | _ => none }
def rootCrashRow : OpenClaim := { program := "ytpdpnlgiaehegaa", sum := "9ae288c60e6f878a424dc48014f2fdbb6f2df049c5d0db132348264c5063fe3e", func := "revenant/revenantlaw10.RootCrash", spec := "rootCrash", apart := false }
def RootCrashSaid : Prop := rootCrashRow.holds Try.pinned (OpenSpec.ofChange rootCrashSpec)

/-- ITS FALSE NEIGHBOUR: 'it returns false'. Refute it at one input. -/
def rootCrashWrong : ChangeSpec := { name := "rootCrash", fn := fun _ => fun
  | [d1, d2] => { results := [.lit (.bool false)], args := [d1, d2] }
  | _ => none }
def RootCrashWrongFalsely : Prop := rootCrashRow.holds Try.pinned (OpenSpec.ofChange rootCrashWrong)

/-- 'revenantlaw10.RootArgs': WHATEVER THE INPUT: true; the input reads as it did. -/
def rootArgsSpec : ChangeSpec := { name := "rootArgs", fn := fun _ => fun
  | [d] => { results := [.lit (.bool true)], args := [d] }
  | _ => none }
def rootArgsRow : OpenClaim := { program := "ytpdpnlgiaehegaa", sum := "9ae288c60e6f878a424dc48014f2fdbb6f2df049c5d0db132348264c5063fe3e", func := "revenant/revenantlaw10.RootArgs", spec := "rootArgs", apart := false }
def RootArgsSaid : Prop := rootArgsRow.holds Try.pinned (OpenSpec.ofChange rootArgsSpec)

/-- ITS FALSE NEIGHBOUR: 'it returns false'. Refute it at one input. -/
def rootArgsWrong : ChangeSpec := { name := "rootArgs", fn := fun _ => fun
  | [d] => { results := [.lit (.bool false)], args := [d] }
  | _ => none }
def RootArgsWrongFalsely : Prop := rootArgsRow.holds Try.pinned (OpenSpec.ofChange rootArgsWrong)

/- THE SECOND FORM. 'bulk': how many values and letters a reading holds, each counted each time it is reached (what is shared counts as often as it is met; a slice's spare places count too). A statement '..UptoSaid' is the law's where the arguments, and the package variables that the reading takes, are together of bulk at most 1048576: NARROWER than '..Said'. Prove '..Said' where nothing that the law and all that it calls make is longer than what came in: it says more and counts as full. Else prove '..UptoSaid'. A law counts once. -/
mutual
def uptoBulk {H : Type} : DataW H → Nat
  | .lit (.string bytes) => bytes.length + 1
  | .lit _ => 1
  | .nil => 1
  | .ptr d => uptoBulk d + 1
  | .slice elems spare => uptoBulkAll elems + uptoBulkAll spare + 1
  | .agg parts => uptoBulkAll parts + 1
  | .iface _ d => uptoBulk d + 1
  | .map entries => uptoBulkEntries entries + 1
  | .held _ => 1
def uptoBulkAll {H : Type} : List (DataW H) → Nat
  | [] => 0
  | d :: r => uptoBulk d + uptoBulkAll r
def uptoBulkEntries {H : Type} : List (Lit × DataW H) → Nat
  | [] => 0
  | x :: r => uptoBulkEntry x + uptoBulkEntries r
def uptoBulkEntry {H : Type} : Lit × DataW H → Nat
  | (.string bytes, d) => bytes.length + uptoBulk d + 1
  | (_, d) => uptoBulk d + 1
 end
def uptoSmall : (H : Type) → List (DataW H) → Bool := fun _ ds => decide (uptoBulkAll ds ≤ 1048576)
def OpenSpec.upto (s : _root_.Go.ChangeSpec) : _root_.Go.OpenSpec := { _root_.Go.OpenSpec.ofChange s with cond := some uptoSmall }

/-- 'revenantlaw10.RootBytes', WHERE WHAT IT READS IS OF BULK AT MOST 1048576: true; the input reads as it did. -/
def rootBytesUptoRow : OpenClaim := { program := "ytpdpnlgiaehegaa", sum := "9ae288c60e6f878a424dc48014f2fdbb6f2df049c5d0db132348264c5063fe3e", func := "revenant/revenantlaw10.RootBytes", spec := "rootBytes", recurses := true, apart := false, narrowed := true }
def RootBytesUptoSaid : Prop := rootBytesUptoRow.holds Try.pinned (OpenSpec.upto rootBytesSpec)

/-- 'revenantlaw10.RootCrash', WHERE WHAT IT READS IS OF BULK AT MOST 1048576: true; the input reads as it did. -/
def rootCrashUptoRow : OpenClaim := { program := "ytpdpnlgiaehegaa", sum := "9ae288c60e6f878a424dc48014f2fdbb6f2df049c5d0db132348264c5063fe3e", func := "revenant/revenantlaw10.RootCrash", spec := "rootCrash", apart := false, narrowed := true }
def RootCrashUptoSaid : Prop := rootCrashUptoRow.holds Try.pinned (OpenSpec.upto rootCrashSpec)

/-- 'revenantlaw10.RootArgs', WHERE WHAT IT READS IS OF BULK AT MOST 1048576: true; the input reads as it did. -/
def rootArgsUptoRow : OpenClaim := { program := "ytpdpnlgiaehegaa", sum := "9ae288c60e6f878a424dc48014f2fdbb6f2df049c5d0db132348264c5063fe3e", func := "revenant/revenantlaw10.RootArgs", spec := "rootArgs", apart := false, narrowed := true }
def RootArgsUptoSaid : Prop := rootArgsUptoRow.holds Try.pinned (OpenSpec.upto rootArgsSpec)

end Rows
end Go.Proofs.Ytpdpnlgiaehegaa
