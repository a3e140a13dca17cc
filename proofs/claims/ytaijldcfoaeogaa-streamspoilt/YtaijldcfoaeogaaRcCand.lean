/- What sealed bytes come to: the record that they would be, and whether they are one. Plain mathematics. -/
import Derived.Test.YtaijldcfoaeogaaGRcMathToRcBytes
import Derived.Test.YtaijldcfoaeogaaGRefNextToRefRdrBytes
namespace Go.Proofs.Ytaijldcfoaeogaa
open Go.RowKit
set_option linter.unusedSimpArgs false

/-- No record. -/
def rec0 (k : Nat) : Rec := ⟨k, 0, 0, 0, 0, [], 0, 0, 0⟩

/-- The Data record of its fields; and whether its run's number can be read. -/
def candD (r : List Nat) : Rec × Bool :=
  if vErr r = 0 ∧ vNum r < 256 then (⟨2, 0, 0, (vNum r : Nat), ((vNum r + (r.length - vLen r) / 32 : Nat) : Int), r.drop (vLen r), 0, 0, 0⟩, true) else (rec0 0, false)

/-- The others: the numbers that are read. -/
def candH (r : List Nat) : Rec × Bool :=
  (⟨1, ((rNum 0 r 1099511627776).1 : Nat), ((rNum (rNum 0 r 1099511627776).2.1 (rNum 0 r 1099511627776).2.2 1099511627776).1 : Nat), 0, 0, [], 0, 0, 0⟩,
   decide (rEnd (rNum (rNum 0 r 1099511627776).2.1 (rNum 0 r 1099511627776).2.2 1099511627776).2.1 (rNum (rNum 0 r 1099511627776).2.1 (rNum 0 r 1099511627776).2.2 1099511627776).2.2 = 0))

def candO (r : List Nat) : Rec × Bool :=
  (⟨3, 0, 0, ((rNum 0 r 1099511627776).1 : Nat), ((rNum (rNum 0 r 1099511627776).2.1 (rNum 0 r 1099511627776).2.2 1099511627776).1 : Nat), [], 0, 0, 0⟩,
   decide (rEnd (rNum (rNum 0 r 1099511627776).2.1 (rNum 0 r 1099511627776).2.2 1099511627776).2.1 (rNum (rNum 0 r 1099511627776).2.1 (rNum 0 r 1099511627776).2.2 1099511627776).2.2 = 0))

/-- Three numbers, one behind the other. -/
def threeN (r : List Nat) (m1 m2 m3 : Nat) : (Nat × Nat × Nat) × (Nat × List Nat) :=
  let A := rNum 0 r m1
  let B := rNum A.2.1 A.2.2 m2
  let C := rNum B.2.1 B.2.2 m3
  ((A.1, B.1, C.1), (C.2.1, C.2.2))

def candT (r : List Nat) : Rec × Bool :=
  (⟨4, 0, 0, 0, 0, [], ((threeN r 1099511627776 1099511627776 2305843009213693950).1.1 : Nat), (threeN r 1099511627776 1099511627776 2305843009213693950).1.2.1, (threeN r 1099511627776 1099511627776 2305843009213693950).1.2.2⟩,
   decide (rEnd (threeN r 1099511627776 1099511627776 2305843009213693950).2.1 (threeN r 1099511627776 1099511627776 2305843009213693950).2.2 = 0))

/-- The record that bytes would be. -/
def cand (l : List Nat) : Rec × Bool :=
  match l with
  | [] => (rec0 0, false)
  | k :: r => if k = 2 then candD r else if k = 1 then candH r else if k = 3 then candO r else if k = 4 then candT r else (rec0 k, decide (rEnd 0 r = 0))

/-- The record that bytes are. -/
def pars (l : List Nat) : Option Rec := if (cand l).2 = true ∧ (cand l).1.ok = true then some (cand l).1 else none

end Go.Proofs.Ytaijldcfoaeogaa
