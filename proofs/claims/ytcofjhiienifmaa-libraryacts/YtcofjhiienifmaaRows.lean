/-
  No cell of these rows narrows 'for every input' (looked for: loops, veiled, ifaces, maps, wideKeys, modest, calm, conditions, laid).
  DERIVED. THE GIVEN ROWS OF THIS SEAT. 2 by the template 'for every input the law returns true; each argument reads behind the call as it read before'; 0 by the template 'total and deterministic' (their statements: YtcofjhiienifmaaTotals.lean).
  GIVEN WITH THE SEED: the statements are not yours to turn. If you find one false, say at which input.
  Laid BY PROGRAM, IN A SANDBOX (cutbox-rows.mjs): the forced cells as the released guide's own fill.sh prints them over the translation 2d822014921b1c3f… (all of the seat's roots in one cut). By AI agents, Wed Nov 11 2026. No macro, syntax, notation, axiom, sorry.
-/
import Derived.Test.YtcofjhiienifmaaChecked
import GoSem.Claim
import GoSem.ClaimJoined
import GoSem.ClaimMapViews
import Derived.JoinedTies
import Derived.KernelRfl
namespace Go.Proofs.Ytcofjhiienifmaa
/- THE CELL 'sum', in the pinned program and in every row, IS THE sha256 OF THE DUMP (.gsa) THAT YtcofjhiienifmaaProg.lean LOADS. Nothing in Lean hashes anything: it is a label: what it is worth is what the hold of that sum in a sandbox is worth. -/
noncomputable def Try.pinned : Pinned := { name := "ytcofjhiienifmaa", sum := "2d822014921b1c3f3c18a7fbc80b8576292aef635814fdc6f293029659e96146", checked := Try.checked }
namespace Rows
def none {H : Type} : Left H := { results := [], args := [] }

/-- 'revenantlaw07.LibraryActs': WHATEVER THE INPUT: true; the input reads as it did. -/
def libraryActsSpec : ChangeSpec := { name := "libraryActs", fn := fun _ => fun
  | [d] => { results := [.lit (.bool true)], args := [d] }
  | _ => none }
def libraryActsRow : OpenClaim := { program := "ytcofjhiienifmaa", sum := "2d822014921b1c3f3c18a7fbc80b8576292aef635814fdc6f293029659e96146", func := "revenant/revenantlaw07.LibraryActs", spec := "libraryActs", apart := false }
def LibraryActsSaid : Prop := libraryActsRow.holds Try.pinned (OpenSpec.ofChange libraryActsSpec)

/-- ITS FALSE NEIGHBOUR: 'it returns false'. Refute it at one input. -/
def libraryActsWrong : ChangeSpec := { name := "libraryActs", fn := fun _ => fun
  | [d] => { results := [.lit (.bool false)], args := [d] }
  | _ => none }
def LibraryActsWrongFalsely : Prop := libraryActsRow.holds Try.pinned (OpenSpec.ofChange libraryActsWrong)

/-- 'revenantlaw07.LibraryNil': WHATEVER THE INPUT: true; the input reads as it did. -/
def libraryNilSpec : ChangeSpec := { name := "libraryNil", fn := fun _ => fun
  | [d] => { results := [.lit (.bool true)], args := [d] }
  | _ => none }
def libraryNilRow : OpenClaim := { program := "ytcofjhiienifmaa", sum := "2d822014921b1c3f3c18a7fbc80b8576292aef635814fdc6f293029659e96146", func := "revenant/revenantlaw07.LibraryNil", spec := "libraryNil", apart := false }
def LibraryNilSaid : Prop := libraryNilRow.holds Try.pinned (OpenSpec.ofChange libraryNilSpec)

/-- ITS FALSE NEIGHBOUR: 'it returns false'. Refute it at one input. -/
def libraryNilWrong : ChangeSpec := { name := "libraryNil", fn := fun _ => fun
  | [d] => { results := [.lit (.bool false)], args := [d] }
  | _ => none }
def LibraryNilWrongFalsely : Prop := libraryNilRow.holds Try.pinned (OpenSpec.ofChange libraryNilWrong)

/- THE SECOND FORM. 'bulk': how many values and letters a reading holds, each counted each time it is reached (what is shared counts as often as it is met; a slice's spare places count too). A statement '..UptoSaid' is the law's where the arguments, and the package variables that the reading takes, are together of bulk at most 1048576: NARROWER than '..Said'. Prove '..Said' where nothing that the law and all that it calls make is longer than what came in: it says more and counts as full. Else prove '..UptoSaid'. A law counts once. -/
mutual
def uptoBulk {H : Type} : DataW H → Nat
  | .lit (.string bytes) => bytes.length + 1
  | .lit _ => 1
  | .nil => 1
  | .ptr d => uptoBulk d + 1
  | .slice elems spare => uptoBulkAll elems + uptoBulkAll spare + 1
  | .agg parts => uptoBulkAll parts + 1
  | .iface _ d => uptoBulk d + 1
  | .map entries => uptoBulkEntries entries + 1
  | .held _ => 1
def uptoBulkAll {H : Type} : List (DataW H) → Nat
  | [] => 0
  | d :: r => uptoBulk d + uptoBulkAll r
def uptoBulkEntries {H : Type} : List (Lit × DataW H) → Nat
  | [] => 0
  | x :: r => uptoBulkEntry x + uptoBulkEntries r
def uptoBulkEntry {H : Type} : Lit × DataW H → Nat
  | (.string bytes, d) => bytes.length + uptoBulk d + 1
  | (_, d) => uptoBulk d + 1
 end
def uptoSmall : (H : Type) → List (DataW H) → Bool := fun _ ds => decide (uptoBulkAll ds ≤ 1048576)
def OpenSpec.upto (s : _root_.Go.ChangeSpec) : _root_.Go.OpenSpec := { _root_.Go.OpenSpec.ofChange s with cond := some uptoSmall }

/-- 'revenantlaw07.LibraryActs', WHERE WHAT IT READS IS OF BULK AT MOST 1048576: true; the input reads as it did. -/
def libraryActsUptoRow : OpenClaim := { program := "ytcofjhiienifmaa", sum := "2d822014921b1c3f3c18a7fbc80b8576292aef635814fdc6f293029659e96146", func := "revenant/revenantlaw07.LibraryActs", spec := "libraryActs", apart := false, narrowed := true }
def LibraryActsUptoSaid : Prop := libraryActsUptoRow.holds Try.pinned (OpenSpec.upto libraryActsSpec)

/-- 'revenantlaw07.LibraryNil', WHERE WHAT IT READS IS OF BULK AT MOST 1048576: true; the input reads as it did. -/
def libraryNilUptoRow : OpenClaim := { program := "ytcofjhiienifmaa", sum := "2d822014921b1c3f3c18a7fbc80b8576292aef635814fdc6f293029659e96146", func := "revenant/revenantlaw07.LibraryNil", spec := "libraryNil", apart := false, narrowed := true }
def LibraryNilUptoSaid : Prop := libraryNilUptoRow.holds Try.pinned (OpenSpec.upto libraryNilSpec)

end Rows
end Go.Proofs.Ytcofjhiienifmaa
