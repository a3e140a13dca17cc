/- What LibraryActs begins with: the calls that came in. -/
import Derived.Test.YtcofjhiienifmaaLInv
import Derived.SizedLaws
namespace Go.Proofs.Ytcofjhiienifmaa
open Go.RowKit
set_option linter.unusedSimpArgs false

/-- A call: its kind, its number, its plan, and the tape's call: kind, two numbers, bytes. -/
structure Cl where
  K : Nat
  N : Int
  R : Int
  Y : Int
  aW : Option Addr
  nW : Nat
  cW : Nat
  LW : List Int
  aR : Option Addr
  nR : Nat
  cR : Nat
  LR : List Int
  k : Nat
  I : Int
  Z : Int
  a : Option Addr
  n : Nat
  c : Nat
  b : List Nat

def Cl.none : Cl := ⟨0, 0, 0, 0, .none, 0, 0, [], .none, 0, 0, [], 0, 0, 0, .none, 0, 0, []⟩

/-- A call as it may come in. -/
structure Cl.fits (w : World) (x : Cl) : Prop where
  rw_ : RdI w x.aW x.nW x.LW
  rr : RdI w x.aR x.nR x.LR
  sw : x.nW ≤ reachBytes
  sr : x.nR ≤ reachBytes
  I : x.I < 9223372036854775808
  rd : Rd w x.a x.n x.b

def clV (x : Cl) : List Value := [.int .u8 (x.K : Int), .int .i64 x.N, .int .i64 x.R, .int .i64 x.Y, .slice x.aW x.nW x.cW, .slice x.aR x.nR x.cR, .int .u8 (x.k : Int), .int .i64 x.I, .int .i64 x.Z, .slice x.a x.n x.c]

/-- The slice '.slice a n _' reads as the calls X. -/
def RdL (w : World) (a : Option Addr) (n : Nat) (X : List Cl) : Prop :=
  X.length = n ∧ (∀ x ∈ X, x.fits w) ∧ (0 < n → ∃ b o, a = some ⟨b, o, none⟩ ∧ ∀ j, j < n → ∀ i u, (clV (X.getD j Cl.none))[i]? = some u → w.cell? ⟨b, o + j * 10 + i, none⟩ = some u)

theorem Cl.fits.later {w w' : World} {x : Cl} (h : x.fits w) (hb : Below w.heap.size w w') : x.fits w' :=
  ⟨h.rw_.later hb, h.rr.later hb, h.sw, h.sr, h.I, h.rd.later hb⟩

theorem RdL.later {w w' : World} {a : Option Addr} {n : Nat} {X : List Cl} (h : RdL w a n X) (hb : Below w.heap.size w w') : RdL w' a n X := by
  refine ⟨h.1, fun x hx => (h.2.1 x hx).later hb, fun hn => ?_⟩
  obtain ⟨b, o, rfl, hc⟩ := h.2.2 hn
  refine ⟨b, o, rfl, fun j hj i u hu => ?_⟩
  have h1 := hc j hj i u hu
  exact (hb.cell (p := ⟨b, o + j * 10 + i, none⟩) (World.block_lt_of_cell? w _ h1)).trans h1

/-- The box of a call. -/
def clObj (x : Cl) : Obj := .cells #[.int .u8 (x.K : Int), .int .i64 x.N, .int .i64 x.R, .int .i64 x.Y, .slice x.aW x.nW x.cW, .slice x.aR x.nR x.cR, .int .u8 (x.k : Int), .int .i64 x.I, .int .i64 x.Z, .slice x.a x.n x.c] 41

theorem cl_cells {W : World} {gx : Nat} {x : Cl} (h : W.heap[gx]? = some (clObj x)) : ∀ i u, (clV x)[i]? = some u → W.cell? ⟨gx, i, none⟩ = some u := by
  intro i u hu
  rw [cell_of_row W gx _ _ 41 (0, 0) h, ← hu, ← Array.getElem?_toList]
  rfl

end Go.Proofs.Ytcofjhiienifmaa
