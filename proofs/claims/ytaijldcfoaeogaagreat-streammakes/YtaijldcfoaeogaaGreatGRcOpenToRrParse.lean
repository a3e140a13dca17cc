/- A record that came in: what the form tells of it. -/
import Derived.Test.YtaijldcfoaeogaaGreatGMemToRcEq
import Derived.Test.YtaijldcfoaeogaaGreatMemOpen
import Derived.Test.YtaijldcfoaeogaaGreatStructs
import Derived.Test.YtaijldcfoaeogaaGreatGRrRowToRrHead
import Derived.Test.YtaijldcfoaeogaaGreatRrTail
import Derived.Test.YtaijldcfoaeogaaGreatRrData
import Derived.Test.YtaijldcfoaeogaaGreatGRcParseToSmAdd
import Derived.Test.YtaijldcfoaeogaaGreatGRcCandToVRdrNe
import Derived.Test.YtaijldcfoaeogaaGreatGRefNextToRefRdrBytes
import Derived.Handy
import Derived.BigRegion
import Derived.Deep.DeepCutAuto
import Derived.Deep.CutBlock
namespace Go.Proofs.YtaijldcfoaeogaaGreat
open Go.ChangeShapes Go.WideShapes Go.ChangeAt Go.RowKit Go.Deep

/-- A slice of bytes that came in. -/
theorem rdB_open {H : Type} {enc : TypeId × Value → H} {W : World} {b0 : Nat} {held : Bool} {v : Value} {m : Nat} {x : DataW H × List MemPlace}
    (h : DataW.trod enc Tryz.prog W b0 (fun _ => true) held m 31 [v] = some x) : ∃ a n c l, v = .slice a n c ∧ Rd W a n l := by
  rcases open_ints Tryz.underlying31 Tryz.underlying5 (by kernel_rfl) h with ⟨hcs, _⟩ | ⟨x, l, c', zs, hcs, _, hl, hm, hz, _, hcell, hwz⟩
  · simp only [List.cons.injEq, and_true] at hcs
    subst hcs
    exact ⟨none, 0, 0, [], rfl, rfl, by simp, by simp⟩
  · simp only [List.cons.injEq, and_true] at hcs
    subst hcs
    exact ⟨some x, l, c', (zs.take l).map Int.toNat, rfl, (nums_of (k := .u8) (fun z hz => (bounds_u8 hz).1) hl (by simpa using hz) hcell hwz).rd⟩

theorem list2 {α : Type} {l : List α} (h : l.length = 2) : ∃ a b, l = [a, b] := by
  match l, h with
  | [a, b], _ => exact ⟨a, b, rfl⟩

theorem list7 {α : Type} {l : List α} (h : l.length = 7) : ∃ a b c d e f g, l = [a, b, c, d, e, f, g] := by
  match l, h with
  | [a, b, c, d, e, f, g], _ => exact ⟨a, b, c, d, e, f, g, rfl⟩

theorem list9 {α : Type} {l : List α} (h : l.length = 9) : ∃ c0 c1 c2 c3 c4 c5 c6 c7 c8, l = [c0, c1, c2, c3, c4, c5, c6, c7, c8] := by
  match l, h with
  | [c0, c1, c2, c3, c4, c5, c6, c7, c8], _ => exact ⟨c0, c1, c2, c3, c4, c5, c6, c7, c8, rfl⟩

theorem cells1 : Tryz.prog.cellsOf 51 = 1 ∧ Tryz.prog.cellsOf 3 = 1 ∧ Tryz.prog.cellsOf 48 = 1 ∧ Tryz.prog.cellsOf 31 = 1 ∧ Tryz.prog.cellsOf 53 = 2 ∧ Tryz.prog.cellsOf 55 = 2 ∧ Tryz.prog.cellsOf 57 = 9 := by
  refine ⟨?_, ?_, ?_, ?_, ?_, ?_, ?_⟩ <;> kernel_rfl

/-- A record's numbers are those of their kinds. -/
def Rec.fits (x : Rec) : Prop := x.k < 256 ∧ (-9223372036854775808 ≤ x.t ∧ x.t ≤ 9223372036854775807) ∧ x.n < 18446744073709551616 ∧ x.s < 18446744073709551616

/-- A record that came in. -/
theorem rec_open {H : Type} {enc : TypeId × Value → H} {W : World} {b0 : Nat} {held : Bool} {m : Nat} {cs : List Value} {D : DataW H} {Pl : List MemPlace}
    (h : DataW.trod enc Tryz.prog W b0 (fun _ => true) held m 57 cs = some (D, Pl)) : ∃ (x : Rec) (a : Option Addr) (n cap : Nat), Value.agg cs.toArray = rcV x a n cap ∧ Rd W a n x.l ∧ x.fits := by
  obtain ⟨q1, q2, q3, q4, q5, q6, q7⟩ := cells1
  obtain ⟨ys, k, _, hD, hcl, hyl, hg⟩ := DataW.trod_struct Tryz.underlying57 h
  rw [q7] at hcl
  obtain ⟨c0, c1, c2, c3, c4, c5, c6, c7, c8, rfl⟩ := list9 hcl
  obtain ⟨y0, y1, y2, y3, y4, y5, y6, rfl⟩ := list7 hyl
  have f0 : DataW.trod enc Tryz.prog W b0 (fun _ => true) held k 51 [c0] = some y0 := by
    have h0 : DataW.trod enc Tryz.prog W b0 (fun _ => true) held k 51 (([c0, c1, c2, c3, c4, c5, c6, c7, c8].drop 0).take (Tryz.prog.cellsOf 51)) = some y0 := hg 0 _ rfl
    rw [q1] at h0
    exact h0
  have f1 : DataW.trod enc Tryz.prog W b0 (fun _ => true) held k 3 [c1] = some y1 := by
    have h0 : DataW.trod enc Tryz.prog W b0 (fun _ => true) held k 3 (([c0, c1, c2, c3, c4, c5, c6, c7, c8].drop 1).take (Tryz.prog.cellsOf 3)) = some y1 := hg 1 _ rfl
    rw [q2] at h0
    exact h0
  have f2 : DataW.trod enc Tryz.prog W b0 (fun _ => true) held k 3 [c2] = some y2 := by
    have h0 : DataW.trod enc Tryz.prog W b0 (fun _ => true) held k 3 (([c0, c1, c2, c3, c4, c5, c6, c7, c8].drop 2).take (Tryz.prog.cellsOf 3)) = some y2 := hg 2 _ rfl
    rw [q2] at h0
    exact h0
  have f3 : DataW.trod enc Tryz.prog W b0 (fun _ => true) held k 53 [c3, c4] = some y3 := by
    have h0 : DataW.trod enc Tryz.prog W b0 (fun _ => true) held k 53 (([c0, c1, c2, c3, c4, c5, c6, c7, c8].drop 3).take (Tryz.prog.cellsOf 53)) = some y3 := hg 3 _ rfl
    rw [q5] at h0
    exact h0
  have f4 : DataW.trod enc Tryz.prog W b0 (fun _ => true) held k 31 [c5] = some y4 := by
    have h0 : DataW.trod enc Tryz.prog W b0 (fun _ => true) held k 31 (([c0, c1, c2, c3, c4, c5, c6, c7, c8].drop 5).take (Tryz.prog.cellsOf 31)) = some y4 := hg 4 _ rfl
    rw [q4] at h0
    exact h0
  have f5 : DataW.trod enc Tryz.prog W b0 (fun _ => true) held k 3 [c6] = some y5 := by
    have h0 : DataW.trod enc Tryz.prog W b0 (fun _ => true) held k 3 (([c0, c1, c2, c3, c4, c5, c6, c7, c8].drop 6).take (Tryz.prog.cellsOf 3)) = some y5 := hg 5 _ rfl
    rw [q2] at h0
    exact h0
  have f6 : DataW.trod enc Tryz.prog W b0 (fun _ => true) held k 55 [c7, c8] = some y6 := by
    have h0 : DataW.trod enc Tryz.prog W b0 (fun _ => true) held k 55 (([c0, c1, c2, c3, c4, c5, c6, c7, c8].drop 7).take (Tryz.prog.cellsOf 55)) = some y6 := hg 6 _ rfl
    rw [q6] at h0
    exact h0
  obtain ⟨zs, k2, _, _, _, hzl, hg2⟩ := DataW.trod_struct Tryz.underlying53 f3
  obtain ⟨z0, z1, rfl⟩ := list2 hzl
  have p0 : DataW.trod enc Tryz.prog W b0 (fun _ => true) held k2 3 [c3] = some z0 := by
    have h0 : DataW.trod enc Tryz.prog W b0 (fun _ => true) held k2 3 (([c3, c4].drop 0).take (Tryz.prog.cellsOf 3)) = some z0 := hg2 0 _ rfl
    rw [q2] at h0
    exact h0
  have p1 : DataW.trod enc Tryz.prog W b0 (fun _ => true) held k2 3 [c4] = some z1 := by
    have h0 : DataW.trod enc Tryz.prog W b0 (fun _ => true) held k2 3 (([c3, c4].drop 1).take (Tryz.prog.cellsOf 3)) = some z1 := hg2 1 _ rfl
    rw [q2] at h0
    exact h0
  obtain ⟨us, k3, _, _, _, hul, hg3⟩ := DataW.trod_struct Tryz.underlying55 f6
  obtain ⟨u0, u1, rfl⟩ := list2 hul
  have r0 : DataW.trod enc Tryz.prog W b0 (fun _ => true) held k3 48 [c7] = some u0 := by
    have h0 : DataW.trod enc Tryz.prog W b0 (fun _ => true) held k3 48 (([c7, c8].drop 0).take (Tryz.prog.cellsOf 48)) = some u0 := hg3 0 _ rfl
    rw [q3] at h0
    exact h0
  have r1 : DataW.trod enc Tryz.prog W b0 (fun _ => true) held k3 48 [c8] = some u1 := by
    have h0 : DataW.trod enc Tryz.prog W b0 (fun _ => true) held k3 48 (([c7, c8].drop 1).take (Tryz.prog.cellsOf 48)) = some u1 := hg3 1 _ rfl
    rw [q3] at h0
    exact h0
  obtain ⟨K, e0, _, w0⟩ := DataW.trod_int Tryz.underlying51 f0
  obtain ⟨I, e1, _, _⟩ := DataW.trod_int Tryz.underlying3 f1
  obtain ⟨B, e2, _, _⟩ := DataW.trod_int Tryz.underlying3 f2
  obtain ⟨F, e3, _, _⟩ := DataW.trod_int Tryz.underlying3 p0
  obtain ⟨T, e4, _, w4⟩ := DataW.trod_int Tryz.underlying3 p1
  obtain ⟨C, e6, _, _⟩ := DataW.trod_int Tryz.underlying3 f5
  obtain ⟨L, e7, _, w7⟩ := DataW.trod_int Tryz.underlying48 r0
  obtain ⟨S, e8, _, w8⟩ := DataW.trod_int Tryz.underlying48 r1
  simp only [List.cons.injEq, and_true] at e0 e1 e2 e3 e4 e6 e7 e8
  subst e0 e1 e2 e3 e4 e6 e7 e8
  obtain ⟨a, n, c, l, rfl, hB⟩ := rdB_open f4
  have b0 := bounds_u8 w0
  have b4 := bounds_i64 w4
  have b7 := bounds_u64 w7
  have b8 := bounds_u64 w8
  have hK : ((K.toNat : Nat) : Int) = K := Int.toNat_of_nonneg b0.1
  have hL : ((L.toNat : Nat) : Int) = L := Int.toNat_of_nonneg b7.1
  have hS : ((S.toNat : Nat) : Int) = S := Int.toNat_of_nonneg b8.1
  refine ⟨⟨K.toNat, I, B, F, T, l, C, L.toNat, S.toNat⟩, a, n, c, ?_, hB, ?_⟩
  · simp only [rcV, hK, hL, hS]
  · simp only [Rec.fits]
    omega

end Go.Proofs.YtaijldcfoaeogaaGreat

/- The document's own Right, whatever the record; over any world. -/
namespace Go.Proofs.YtaijldcfoaeogaaGreat
open Go.RowKit
set_option maxRecDepth 100000
set_option linter.unusedSimpArgs false

set_option maxHeartbeats 1000000 in
set_option maxRecDepth 100000 in
theorem right_other (k : Nat) (i b f t c : Int) (l : List Nat) (dn ds : Nat) (w : World) (h1 : k ≠ 1) (h2 : k ≠ 2) (h3 : k ≠ 3) (h4 : k ≠ 4) :
    Calls Tryz.prog 76 #[pcV ⟨k, i, b, f, t, l, c, dn, ds⟩] w fun e w' => e = .returned (.bool false) ∧ Below w.heap.size w w' := by
  have e1 : ((k : Int) == 1) = false := by simp; omega
  have e2 : ((k : Int) == 2) = false := by simp; omega
  have e3 : ((k : Int) == 3) = false := by simp; omega
  have e4 : ((k : Int) == 4) = false := by simp; omega
  clear h1 h2 h3 h4
  simp only [pcV]
  go_enter Tryz.func76, Tryz.ntmps76
  go_wp2
  go_ret
  exact ⟨rfl, ((Below.refl _ _).alloc (Nat.le_refl _) _).alloc (by simp) _⟩

/-- May a record be? -/
theorem right_any (x : Rec) (w : World) (hx : x.fits) (hl : ∀ z ∈ x.l, z < 256) :
    Calls Tryz.prog 76 #[pcV x] w fun e w' => e = .returned (.bool x.ok) ∧ Below w.heap.size w w' := by
  obtain ⟨k, i, b, f, t, l, c, dn, ds⟩ := x
  simp only [Rec.fits] at hx
  by_cases h1 : k = 1
  · subst h1; exact right_head i b f t c l dn ds w hl
  by_cases h2 : k = 2
  · subst h2; exact right_data i b f t c l dn ds w hl hx.2.1
  by_cases h3 : k = 3
  · subst h3; exact right_hole i b f t c l dn ds w hl
  by_cases h4 : k = 4
  · subst h4
    by_cases hs : ds < 2305843009213693951
    · exact right_tail1 i b f t c l dn ds w hl hs
    · exact right_tail2 i b f t c l dn ds w hl hs
  have e : Rec.ok ⟨k, i, b, f, t, l, c, dn, ds⟩ = false := by simp [Rec.ok, h1, h2, h3, h4]
  rw [e]
  exact right_other k i b f t c l dn ds w h1 h2 h3 h4

end Go.Proofs.YtaijldcfoaeogaaGreat

/- What sealed bytes come to, by the document's own reading; it is the same. Plain mathematics. -/
namespace Go.Proofs.YtaijldcfoaeogaaGreat
open Go.RowKit
set_option maxRecDepth 100000
set_option linter.unusedSimpArgs false

/-- The record that bytes would be, by the document's own reading; the error; what is left. -/
def refD (r : List Nat) : Rec × Nat × List Nat :=
  (⟨2, 0, 0, ((rNum 0 r 255).1 : Nat), (((rNum 0 r 255).1 + (rNum 0 r 255).2.2.length / 32 : Nat) : Int), (rNum 0 r 255).2.2, 0, 0, 0⟩, (rNum 0 r 255).2.1, [])

def twoN (r : List Nat) (m1 m2 : Nat) : (Nat × Nat) × (Nat × List Nat) :=
  let A := rNum 0 r m1
  let B := rNum A.2.1 A.2.2 m2
  ((A.1, B.1), (B.2.1, B.2.2))

def refH (r : List Nat) : Rec × Nat × List Nat :=
  (⟨1, ((twoN r 1099511627776 1099511627776).1.1 : Nat), ((twoN r 1099511627776 1099511627776).1.2 : Nat), 0, 0, [], 0, 0, 0⟩, (twoN r 1099511627776 1099511627776).2.1, (twoN r 1099511627776 1099511627776).2.2)

def refO (r : List Nat) : Rec × Nat × List Nat :=
  (⟨3, 0, 0, ((twoN r 255 256).1.1 : Nat), ((twoN r 255 256).1.2 : Nat), [], 0, 0, 0⟩, (twoN r 255 256).2.1, (twoN r 255 256).2.2)

def refT (r : List Nat) : Rec × Nat × List Nat :=
  (⟨4, 0, 0, 0, 0, [], ((threeN r 1099511627776 1099511627776 18446744073709551615).1.1 : Nat), (threeN r 1099511627776 1099511627776 18446744073709551615).1.2.1, (threeN r 1099511627776 1099511627776 18446744073709551615).1.2.2⟩,
   (threeN r 1099511627776 1099511627776 18446744073709551615).2.1, (threeN r 1099511627776 1099511627776 18446744073709551615).2.2)

def refC (k : Nat) (r : List Nat) : Rec × Nat × List Nat :=
  if k = 1 then refH r else if k = 2 then refD r else if k = 3 then refO r else if k = 4 then refT r else (rec0 k, 0, r)

/-- Are bytes a record, by the document's own reading? -/
def refOk (l : List Nat) : Bool :=
  match l with
  | [] => false
  | k :: r => ((refC k r).2.1 == 0) && ((refC k r).2.2.isEmpty && (refC k r).1.ok)

theorem rNum_less {r : List Nat} {m M : Nat} (hm : m ≤ M) : rNum 0 r m = rNum 0 r M ∨ ((rNum 0 r m).2.1 ≠ 0 ∧ m < (rNum 0 r M).1 ∧ (rNum 0 r M).2.1 = 0) ∨ ((rNum 0 r m).2.1 ≠ 0 ∧ (rNum 0 r M).2.1 ≠ 0) := by
  by_cases he : vErr r = 0
  · by_cases h1 : m < vNum r
    · rw [rNum_long he h1]
      by_cases h2 : M < vNum r
      · rw [rNum_long he h2]; simp
      · rw [rNum_ok he h2]; simp [h1]
    · have h2 : ¬ M < vNum r := by omega
      rw [rNum_ok he h1, rNum_ok he h2]; simp
  · rw [rNum_err he, rNum_err he]; simp

theorem rEnd_zero {E : Nat} {l : List Nat} : rEnd E l = 0 ↔ (E = 0 ∧ l = []) := by
  unfold rEnd
  split
  · rename_i h; simp [h]
  · rename_i h
    have : E = 0 := by omega
    subst this
    split
    · rename_i h2; simp [h2]
    · rename_i h2; simp [h2]

/-- What is told where a number is too great for one reading alone: no record. -/
theorem hole_big {a b : Nat} (h : 255 < a ∨ 256 < b) : Rec.ok ⟨3, 0, 0, (a : Int), (b : Int), [], 0, 0, 0⟩ = false := by
  simp [Rec.ok, isRunB]
  omega

theorem tail_big {c n s : Nat} (h : 2305843009213693950 < s) : Rec.ok ⟨4, 0, 0, 0, 0, [], (c : Int), n, s⟩ = false := by
  simp [Rec.ok]
  omega

theorem rEnd_dec (E : Nat) (l : List Nat) : decide (rEnd E l = 0) = ((E == 0) && l.isEmpty) := by
  by_cases h : rEnd E l = 0
  · obtain ⟨h1, h2⟩ := rEnd_zero.1 h
    rw [decide_eq_true h, h1, h2]; rfl
  · rw [decide_eq_false h]
    by_cases h1 : E = 0
    · have h2 : l ≠ [] := fun e => h (rEnd_zero.2 ⟨h1, e⟩)
      cases l with
      | nil => exact absurd rfl h2
      | cons a r => simp
    · simp [h1]

theorem rNum_keep {E : Nat} {l : List Nat} {m : Nat} (h : E ≠ 0) : (rNum E l m).2.1 ≠ 0 := by rw [rNum_failed h]; exact h

theorem same_D (r : List Nat) : (((refD r).2.1 == 0) && ((refD r).2.2.isEmpty && (refD r).1.ok)) = ((candD r).2 && (candD r).1.ok) ∧ ((candD r).2 = true → (refD r).1 = (candD r).1) := by
  by_cases h : vErr r = 0 ∧ vNum r < 256
  · have e1 : rNum 0 r 255 = (vNum r, 0, r.drop (vLen r)) := rNum_ok h.1 (by omega)
    have e2 : candD r = (⟨2, 0, 0, (vNum r : Nat), ((vNum r + (r.length - vLen r) / 32 : Nat) : Int), r.drop (vLen r), 0, 0, 0⟩, true) := by unfold candD; rw [if_pos h]
    have e3 : (refD r).1 = (candD r).1 := by rw [e2]; unfold refD; rw [e1]; simp [List.length_drop]
    refine ⟨?_, fun _ => e3⟩
    rw [e3, e2]
    unfold refD
    rw [e1]
    simp
  · have e2 : candD r = (rec0 0, false) := by unfold candD; rw [if_neg h]
    have e1 : (rNum 0 r 255).2.1 ≠ 0 := by
      by_cases he : vErr r = 0
      · rw [rNum_long he (by omega)]; simp
      · rw [rNum_err he]; exact he
    rw [e2]
    refine ⟨?_, fun h => by cases h⟩
    unfold refD
    simp [beq_eq_false_iff_ne.2 e1]

theorem same_H (r : List Nat) : (((refH r).2.1 == 0) && ((refH r).2.2.isEmpty && (refH r).1.ok)) = ((candH r).2 && (candH r).1.ok) ∧ (refH r).1 = (candH r).1 := by
  refine ⟨?_, rfl⟩
  simp only [refH, candH, twoN, rEnd_dec, Bool.and_assoc]

theorem same_O (r : List Nat) : (((refO r).2.1 == 0) && ((refO r).2.2.isEmpty && (refO r).1.ok)) = ((candO r).2 && (candO r).1.ok) ∧ ((candO r).2 = true → (candO r).1.ok = true → (refO r).1 = (candO r).1) := by
  simp only [refO, candO, twoN, rEnd_dec]
  rcases rNum_less (r := r) (m := 255) (M := 1099511627776) (by omega) with h | ⟨h1, h2, h3⟩ | ⟨h1, h2⟩
  · rw [h]
    obtain ⟨a, E, l⟩ := rNum 0 r 1099511627776
    simp only
    by_cases hE : E = 0
    · subst hE
      rcases rNum_less (r := l) (m := 256) (M := 1099511627776) (by omega) with g | ⟨g1, g2, g3⟩ | ⟨g1, g2⟩
      · rw [g]; simp [Bool.and_assoc]
      · have ho := hole_big (a := a) (.inr g2)
        simp [beq_eq_false_iff_ne.2 g1, ho]
      · simp [beq_eq_false_iff_ne.2 g1, beq_eq_false_iff_ne.2 g2]
    · rw [rNum_failed hE, rNum_failed hE]; simp [beq_eq_false_iff_ne.2 hE]
  · have ho := hole_big (b := (rNum (rNum 0 r 1099511627776).2.1 (rNum 0 r 1099511627776).2.2 1099511627776).1) (.inl h2)
    have h4 := rNum_keep (l := (rNum 0 r 255).2.2) (m := 256) h1
    simp [beq_eq_false_iff_ne.2 h4, ho]
  · have h3 := rNum_keep (l := (rNum 0 r 255).2.2) (m := 256) h1
    have h4 := rNum_keep (l := (rNum 0 r 1099511627776).2.2) (m := 1099511627776) h2
    simp [beq_eq_false_iff_ne.2 h3, beq_eq_false_iff_ne.2 h4]

theorem same_T (r : List Nat) : (((refT r).2.1 == 0) && ((refT r).2.2.isEmpty && (refT r).1.ok)) = ((candT r).2 && (candT r).1.ok) ∧ ((candT r).2 = true → (candT r).1.ok = true → (refT r).1 = (candT r).1) := by
  simp only [refT, candT]
  rw [rEnd_dec]
  simp only [threeN]
  obtain ⟨a, E0, l0⟩ := rNum 0 r 1099511627776
  simp only
  obtain ⟨b, E, l⟩ := rNum E0 l0 1099511627776
  simp only
  by_cases hE : E = 0
  · subst hE
    rcases rNum_less (r := l) (m := 2305843009213693950) (M := 18446744073709551615) (by omega) with g | ⟨g1, g2, g3⟩ | ⟨g1, g2⟩
    · rw [g]; simp [Bool.and_assoc]
    · have ho := tail_big (c := a) (n := b) g2
      rw [ho]
      simp [beq_eq_false_iff_ne.2 g1]
    · simp [beq_eq_false_iff_ne.2 g1, beq_eq_false_iff_ne.2 g2]
  · rw [rNum_failed hE, rNum_failed hE]; simp [beq_eq_false_iff_ne.2 hE]

/-- Both readings come to the same. -/
theorem ref_same (l : List Nat) : refOk l = (pars l).isSome ∧ (refOk l = true → ∀ k r, l = k :: r → (refC k r).1 = (cand l).1) := by
  match l with
  | [] =>
    rw [pars_isSome]
    exact ⟨rfl, fun h => by cases h⟩
  | k :: r =>
    rw [pars_isSome]
    by_cases h1 : k = 1
    · subst h1
      have e1 : refC 1 r = refH r := by simp [refC]
      have e2 : cand (1 :: r) = candH r := by simp [cand]
      simp only [refOk, e1, e2]
      refine ⟨(same_H r).1, fun _ k' r' he => ?_⟩
      injection he with he1 he2
      subst he1 he2
      rw [e1]; exact (same_H r).2
    by_cases h2 : k = 2
    · subst h2
      have e1 : refC 2 r = refD r := by simp [refC]
      have e2 : cand (2 :: r) = candD r := by simp [cand]
      simp only [refOk, e1, e2]
      refine ⟨(same_D r).1, fun h k' r' he => ?_⟩
      injection he with he1 he2
      subst he1 he2
      rw [(same_D r).1, Bool.and_eq_true] at h
      rw [e1]; exact (same_D r).2 h.1
    by_cases h3 : k = 3
    · subst h3
      have e1 : refC 3 r = refO r := by simp [refC]
      have e2 : cand (3 :: r) = candO r := by simp [cand]
      simp only [refOk, e1, e2]
      refine ⟨(same_O r).1, fun h k' r' he => ?_⟩
      injection he with he1 he2
      subst he1 he2
      rw [(same_O r).1, Bool.and_eq_true] at h
      rw [e1]; exact (same_O r).2 h.1 h.2
    by_cases h4 : k = 4
    · subst h4
      have e1 : refC 4 r = refT r := by simp [refC]
      have e2 : cand (4 :: r) = candT r := by simp [cand]
      simp only [refOk, e1, e2]
      refine ⟨(same_T r).1, fun h k' r' he => ?_⟩
      injection he with he1 he2
      subst he1 he2
      rw [(same_T r).1, Bool.and_eq_true] at h
      rw [e1]; exact (same_T r).2 h.1 h.2
    have ho : (rec0 k).ok = false := by simp [Rec.ok, rec0, h1, h2, h3, h4]
    have e1 : refC k r = (rec0 k, 0, r) := by simp [refC, h1, h2, h3, h4]
    have e2 : (cand (k :: r)).1 = rec0 k := by simp [cand, h1, h2, h3, h4]
    simp only [refOk, e1, e2, ho, Bool.and_false]
    exact ⟨trivial, fun h => by cases h⟩

end Go.Proofs.YtaijldcfoaeogaaGreat

/- The contract of the document's own reader's Number where the reader lies beside a block, over any world. -/
namespace Go.Proofs.YtaijldcfoaeogaaGreat
open Go.RowKit
set_option maxRecDepth 100000

set_option maxHeartbeats 400000 in
theorem refNumberNe_any (w : World) (g E : Nat) (l : List Nat) (most : Nat) (B : Nat) (h : RdrNe w 95 g E l B) :
    Calls Tryz.prog 75 #[.pointer (some ⟨g, 0, none⟩), .int .u64 (most : Int)] w fun e w' => e = .returned (.int .u64 ((rNum E l most).1 : Int)) ∧ RdrNe w' 95 g (rNum E l most).2.1 (rNum E l most).2.2 B ∧ w.grownBy w' (some g) := by
  have HR := Lib.hid h
  obtain ⟨a, n, c, hg, hr, hc, hm, hgB, hbB⟩ := h
  have HHi := Lib.hid (And.intro hgB hbB)
  have h0 : w.cell? ⟨g, 0, none⟩ = some (.slice a n c) := by rw [cell_of_row w g 0 _ 95 (0, 0) hg]; rfl
  have h1 : w.cell? ⟨g, 1, none⟩ = some (.int .i64 (E : Int)) := by rw [cell_of_row w g 1 _ 95 (0, 0) hg]; rfl
  have f0 : w.frozen? ⟨g, 0, none⟩ = false := by simp [World.frozen?, hg]
  have f1 : w.frozen? ⟨g, 1, none⟩ = false := by simp [World.frozen?, hg]
  have HG := Lib.hid hg
  have HRd := Lib.hid hr
  clear hg hr hgB hbB
  by_cases hE : E = 0
  · subst hE
    have hN := refNext_any a n c l w HRd.out hm
    obtain ⟨e, he⟩ : ∃ e, e = vErr l := ⟨_, rfl⟩
    obtain ⟨K, hK⟩ : ∃ K, K = vLen l := ⟨_, rfl⟩
    obtain ⟨X, hX⟩ : ∃ X, X = vNum l := ⟨_, rfl⟩
    rw [← he, ← hK, ← hX] at hN
    have HN := Lib.hid hN
    have HE := Lib.hid he
    have HK := Lib.hid hK
    have HX := Lib.hid hX
    clear hN he hK hX
    by_cases hz : e = 0
    · subst hz
      have hKn : K ≤ n := by
        have := (vOne HRd.out.2.1 HE.out.symm).2.2.2.1
        have h2 := HRd.out.1
        have h3 := HK.out
        omega
      have hs := fun W => slice_from a n c K .i64 hKn W
      by_cases hlong : most < X
      · have hlong' : (most : Int) < (X : Int) := by omega
        go_enter Tryz.func75, Tryz.ntmps75
        go_wp2_with fail
        refine HN.out.mono ?_
        rintro e w' ⟨rfl, rfl⟩
        go_wp2
        go_ret
        rw [rNum_long HE.out.symm (by rw [← HX.out]; exact hlong)]
        exact ⟨rfl, RdrNe.fail 5 HG.out HRd.out hc hm HHi.out, grown_set _ _ _ _⟩
      · have hlong' : (X : Int) ≤ (most : Int) := by omega
        go_enter Tryz.func75, Tryz.ntmps75
        go_wp2_with fail
        refine HN.out.mono ?_
        rintro e w' ⟨rfl, rfl⟩
        go_wp2
        go_ret
        rw [rNum_ok HE.out.symm (by rw [← HX.out]; exact hlong), ← HX.out, ← HK.out]
        exact ⟨rfl, RdrNe.move hKn HG.out HRd.out hc hm HHi.out, grown_set _ _ _ _⟩
    · have hz1 : ((e : Int) == 0) = false := by simp; omega
      have hz2 : ((e : Int) != 0) = true := by simp; omega
      go_enter Tryz.func75, Tryz.ntmps75
      go_wp2_with fail
      refine HN.out.mono ?_
      rintro e w' ⟨rfl, rfl⟩
      go_wp2
      go_ret
      rw [rNum_err (by rw [← HE.out]; exact hz), ← HE.out]
      exact ⟨rfl, RdrNe.fail _ HG.out HRd.out hc hm HHi.out, grown_set _ _ _ _⟩
  · have hE' : ((E : Int) != 0) = true := by simp; omega
    go_enter Tryz.func75, Tryz.ntmps75
    go_wp2
    go_ret
    rw [rNum_failed hE]
    exact ⟨rfl, HR.out, World.grownBy.refl _ _⟩

end Go.Proofs.YtaijldcfoaeogaaGreat

/- What sealed bytes come to: the document's own parse, over any world. -/
namespace Go.Proofs.YtaijldcfoaeogaaGreat
open Go.RowKit
set_option maxRecDepth 100000
set_option linter.unusedSimpArgs false

theorem strB_nilR : strB [] = ⟨#[]⟩ := rfl

theorem rNum_small (E : Nat) (l : List Nat) (most : Nat) (h : most ≤ 9223372036854775807) : IntKind.i64.wrap (((rNum E l most).1 : Nat) : Int) = (((rNum E l most).1 : Nat) : Int) := by
  have := rNum_le E l most
  rw [IntKind.wrap_i64]
  omega

theorem rNum_len (E : Nat) (l : List Nat) (most : Nat) : (rNum E l most).2.2.length ≤ l.length := by
  unfold rNum
  split
  · simp
  · split
    · simp
    · split
      · simp
      · simp

/-- What is read fits. -/
theorem refC_fits (k : Nat) (r : List Nat) (hk : k < 256) (hb : ∀ z ∈ r, z < 256) (hr : r.length ≤ 1000) : (refC k r).1.fits ∧ ∀ z ∈ (refC k r).1.l, z < 256 := by
  unfold refC
  split
  · refine ⟨?_, by simp [refH]⟩
    simp only [Rec.fits, refH]
    omega
  split
  · refine ⟨?_, ?_⟩
    · have h1 := rNum_le 0 r 255
      have h2 := rNum_len 0 r 255
      simp only [Rec.fits, refD]
      omega
    · simp only [refD]
      exact rNum_bytes hb
  split
  · refine ⟨?_, by simp [refO]⟩
    have h1 := rNum_le (rNum 0 r 255).2.1 (rNum 0 r 255).2.2 256
    simp only [Rec.fits, refO, twoN]
    omega
  split
  · refine ⟨?_, by simp [refT]⟩
    have h1 := rNum_le (rNum 0 r 1099511627776).2.1 (rNum 0 r 1099511627776).2.2 1099511627776
    have h2 := rNum_le (rNum (rNum 0 r 1099511627776).2.1 (rNum 0 r 1099511627776).2.2 1099511627776).2.1 (rNum (rNum 0 r 1099511627776).2.1 (rNum 0 r 1099511627776).2.2 1099511627776).2.2 18446744073709551615
    simp only [Rec.fits, refT, threeN]
    omega
  · refine ⟨?_, by simp [rec0]⟩
    simp only [Rec.fits, rec0]
    omega

/-- What the document's parse answers. -/
def refRec (l : List Nat) : Rec :=
  match l with
  | [] => rec0 0
  | k :: r => if refOk (k :: r) then (refC k r).1 else rec0 0

set_option maxHeartbeats 2000000 in
set_option maxRecDepth 100000 in
theorem rparse_empty (a : Option Addr) (cap : Nat) (w : World) :
    Calls Tryz.prog 57 #[.slice a 0 cap] w fun e w' => e = .returned (.tuple #[pcV (rec0 0), .bool false]) ∧ Below w.heap.size w w' := by
  go_enter Tryz.func57, Tryz.ntmps57
  go_wp2
  go_returns
  exact ⟨rfl, Below.alloc0 _ _⟩

set_option maxHeartbeats 8000000 in
set_option maxRecDepth 100000 in
theorem rparse_some (bb oo n cap k : Nat) (r : List Nat) (w : World) (h : Rd w (some ⟨bb, oo, none⟩) n (k :: r)) (hn : n ≤ 1000) (hc : n ≤ cap) :
    Calls Tryz.prog 57 #[.slice (some ⟨bb, oo, none⟩) n cap] w fun e w' => e = .returned (.tuple #[pcV (refRec (k :: r)), .bool (refOk (k :: r))]) ∧ Below w.heap.size w w' := by
  have hn1 : 1 ≤ n := by have := h.1; simp at this; omega
  have hcell := h.2.2 hn1
  obtain ⟨b', o', he, hcell⟩ := hcell
  injection he with he
  injection he with e1 e2
  subst e1 e2
  have hbb : bb < w.heap.size := World.block_lt_of_cell? w _ (hcell 0 hn1)
  have hc0 : ∀ ob, (w.alloc ob).cell? ⟨bb, oo, none⟩ = some (.int .u8 (k : Int)) := fun ob => Lib.cell?_alloc_some _ (hcell 0 hn1)
  obtain ⟨A1, hA1⟩ : ∃ A1, A1 = cutA (some (⟨bb, oo, none⟩ : Addr)) cap 1 := ⟨_, rfl⟩
  have HCUT : Hid ((if cap = 1 then some (⟨bb, oo, none⟩ : Addr) else some ⟨bb, oo + 1, none⟩) = A1) := Lib.hid (by rw [hA1]; simp [cutA, Addr.add])
  have hr1 : Rd w A1 (n - 1) r := by rw [hA1]; have := h.cut (k := 1) (c := cap) (by omega) hc; simpa using this
  have hpt : ∀ b o, A1 = some ⟨b, o, none⟩ → b = bb := by
    intro b o he
    rw [← HCUT.out] at he
    split at he <;> (injection he with he; injection he with h1; exact h1.symm)
  have hkb : k < 256 := h.2.1 k (by simp)
  have hrb : ∀ z ∈ r, z < 256 := hr1.2.1
  obtain ⟨p, hp⟩ : ∃ p, p = w.heap.size := ⟨_, rfl⟩
  obtain ⟨w2, hw2⟩ : ∃ w2, w2 = ((w.alloc (.cells #[.int .u8 0, .int .i64 0, .int .i64 0, .int .i64 0, .int .i64 0, .string ⟨#[]⟩, .int .i64 0, .int .u64 0, .int .u64 0] 50)).alloc (.cells #[.int .u8 (k : Int), .int .i64 0, .int .i64 0, .int .i64 0, .int .i64 0, .string ⟨#[]⟩, .int .i64 0, .int .u64 0, .int .u64 0] 50)).alloc (.cells #[.slice A1 (n - 1) (cap - 1), .int .i64 0] 95) := ⟨_, rfl⟩
  have HW : Hid (((w.alloc (.cells #[.int .u8 0, .int .i64 0, .int .i64 0, .int .i64 0, .int .i64 0, .string ⟨#[]⟩, .int .i64 0, .int .u64 0, .int .u64 0] 50)).alloc (.cells #[.int .u8 (k : Int), .int .i64 0, .int .i64 0, .int .i64 0, .int .i64 0, .string ⟨#[]⟩, .int .i64 0, .int .u64 0, .int .u64 0] 50)).alloc (.cells #[.slice A1 (n - 1) (cap - 1), .int .i64 0] 95) = w2 ∧ w.heap.size = p) := Lib.hid ⟨hw2.symm, hp.symm⟩
  have hB2 : Below w.heap.size w w2 := by rw [hw2]; exact (((Below.refl _ _).alloc (Nat.le_refl _) _).alloc (by simp) _).alloc (by simp; omega) _
  have hsz : w2.heap.size = p + 3 := by rw [hw2, hp]; simp
  have hp2 : w2.heap[p]? = some (.cells #[.int .u8 0, .int .i64 0, .int .i64 0, .int .i64 0, .int .i64 0, .string ⟨#[]⟩, .int .i64 0, .int .u64 0, .int .u64 0] 50 (0, 0)) := by rw [hw2, hp]; exact (heap_alloc_old _ _ (by simp; omega)).trans ((heap_alloc_old _ _ (by simp)).trans (heap_alloc_new w _))
  have hq2 : w2.heap[p + 1]? = some (.cells #[.int .u8 (k : Int), .int .i64 0, .int .i64 0, .int .i64 0, .int .i64 0, .string ⟨#[]⟩, .int .i64 0, .int .u64 0, .int .u64 0] 50 (0, 0)) := by
    rw [hw2, hp]
    have e := heap_alloc_new (w.alloc (.cells #[.int .u8 0, .int .i64 0, .int .i64 0, .int .i64 0, .int .i64 0, .string ⟨#[]⟩, .int .i64 0, .int .u64 0, .int .u64 0] 50)) (.cells #[.int .u8 (k : Int), .int .i64 0, .int .i64 0, .int .i64 0, .int .i64 0, .string ⟨#[]⟩, .int .i64 0, .int .u64 0, .int .u64 0] 50)
    rw [World.size_alloc] at e
    exact (heap_alloc_old _ _ (by simp)).trans e
  have hg2 : w2.heap[p + 2]? = some (.cells #[.slice A1 (n - 1) (cap - 1), .int .i64 0] 95 (0, 0)) := by
    rw [hw2, hp]
    have e := heap_alloc_new ((w.alloc (.cells #[.int .u8 0, .int .i64 0, .int .i64 0, .int .i64 0, .int .i64 0, .string ⟨#[]⟩, .int .i64 0, .int .u64 0, .int .u64 0] 50)).alloc (.cells #[.int .u8 (k : Int), .int .i64 0, .int .i64 0, .int .i64 0, .int .i64 0, .string ⟨#[]⟩, .int .i64 0, .int .u64 0, .int .u64 0] 50)) (.cells #[.slice A1 (n - 1) (cap - 1), .int .i64 0] 95)
    rw [World.size_alloc, World.size_alloc] at e
    exact e
  have hrn : RdrNe w2 95 (p + 2) 0 r (p + 1) := by
    refine ⟨A1, n - 1, cap - 1, hg2, hr1.later hB2, by omega, by omega, by omega, ?_⟩
    intro b o he _
    have := hpt b o he
    omega
  have HRN := Lib.hid hrn
  have HB2 := Lib.hid hB2
  have HP2 := Lib.hid hp2
  have HQ2 := Lib.hid hq2
  have HSZ := Lib.hid hsz
  have HRB := Lib.hid hrb
  have HKB := Lib.hid hkb
  have HRL : Hid (r.length ≤ 1000) := Lib.hid (by have := hr1.1; omega)
  obtain ⟨RO, hRO⟩ : ∃ RO, RO = refOk (k :: r) := ⟨_, rfl⟩
  obtain ⟨RR, hRR⟩ : ∃ RR, RR = refRec (k :: r) := ⟨_, rfl⟩
  have HRR : Hid (RO = (((refC k r).2.1 == 0) && ((refC k r).2.2.isEmpty && (refC k r).1.ok)) ∧ RR = if RO then (refC k r).1 else rec0 0) := Lib.hid (by rw [hRR, hRO]; exact ⟨rfl, rfl⟩)
  rw [← hRO, ← hRR]
  clear hA1 hr1 h hc hw2 hp hB2 hsz hp2 hq2 hg2 hrn hcell hbb hpt hrb hkb hRO hRR
  go_enter Tryz.func57, Tryz.ntmps57
  go_upto_region 5 with fail
  try rw [HCUT.out]
  change Code.wp _ _ _ _ (((w.alloc (.cells #[.int .u8 0, .int .i64 0, .int .i64 0, .int .i64 0, .int .i64 0, .string ⟨#[]⟩, .int .i64 0, .int .u64 0, .int .u64 0] 50)).alloc (.cells #[.int .u8 (k : Int), .int .i64 0, .int .i64 0, .int .i64 0, .int .i64 0, .string ⟨#[]⟩, .int .i64 0, .int .u64 0, .int .u64 0] 50)).alloc (.cells #[.slice A1 (n - 1) (cap - 1), .int .i64 0] 95))
  rw [HW.out.1, HW.out.2]
  clear hc0
  have c0 := (rec_cells HQ2.out).1
  go_upto_block 0 with fail
  go_cut [] (fun wx => ∃ (i b f t c : Int) (dn ds E : Nat) (l rest : List Nat), Hid (wx.heap[p + 1]? = some (.cells #[.int .u8 (k : Int), .int .i64 i, .int .i64 b, .int .i64 f, .int .i64 t, .string (strB l), .int .i64 c, .int .u64 (dn : Int), .int .u64 (ds : Int)] 50 (0, 0)) ∧ RdrNe wx 95 (p + 2) E rest (p + 1) ∧ Save [p + 1, p + 2] w2 wx ∧ refC k r = (⟨k, i, b, f, t, l, c, dn, ds⟩, E, rest)))
  case first =>
    by_cases hk : k = 1
    · subst hk
      have HN0 := HRN
      have HQ0 : Hid (w2.heap[p + 1]? = some (.cells #[.int .u8 1, .int .i64 0, .int .i64 0, .int .i64 0, .int .i64 0, .string ⟨#[]⟩, .int .i64 0, .int .u64 0, .int .u64 0] 50 (0, 0))) := HQ2
      have HS0 : Hid (Save [p + 1, p + 2] w2 w2) := Lib.hid (Save.refl _ _)
      have hc1 := refNumberNe_any w2 (p + 2) 0 r 1099511627776 (p + 1) HN0.out
      obtain ⟨X1, hX1⟩ : ∃ X, X = rNum 0 r 1099511627776 := ⟨_, rfl⟩
      have HX1 := Lib.hid hX1
      have hz1 := rNum_small 0 r 1099511627776 (by omega)
      rw [← hX1] at hc1 hz1
      clear hX1
      obtain ⟨a1, E1, l1⟩ := X1
      simp only at hc1 hz1
      have HC1 := Lib.hid hc1
      clear hc1
      go_wp2_with fail
      refine HC1.out.mono ?_
      rintro e u1 ⟨rfl, hr1, hg1⟩
      obtain ⟨hq1, hs1⟩ := num_step HS0.out HQ0.out (by omega) hg1
      have hset1 := rec_set (i := 1) (v := .int .i64 (a1 : Int)) hq1 #[.int .u8 1, .int .i64 (a1 : Int), .int .i64 0, .int .i64 0, .int .i64 0, .string ⟨#[]⟩, .int .i64 0, .int .u64 0, .int .u64 0] rfl
      obtain ⟨w3, hw3⟩ : ∃ w', w' = u1.setCell ⟨p + 1, 1, none⟩ (.int .i64 (a1 : Int)) := ⟨_, rfl⟩
      have HWE1 := Lib.hid hw3.symm
      rw [hset1] at hw3
      have HQ1 : Hid (w3.heap[p + 1]? = some (.cells #[.int .u8 1, .int .i64 (a1 : Int), .int .i64 0, .int .i64 0, .int .i64 0, .string ⟨#[]⟩, .int .i64 0, .int .u64 0, .int .u64 0] 50 (0, 0))) := Lib.hid (by rw [hw3]; exact put_same hq1)
      have HN1 : Hid (RdrNe w3 95 (p + 2) E1 l1 (p + 1)) := Lib.hid (by rw [hw3]; exact hr1.save ((Save.refl _ _).put (by simp) _))
      have HS1 : Hid (Save [p + 1, p + 2] w2 w3) := Lib.hid (by rw [hw3]; exact hs1.put (by simp) _)
      have x1 : u1.cell? ⟨p + 1, 1, none⟩ = some (.int .i64 0) := by simp [World.cell?, hq1]
      have y1 : u1.frozen? ⟨p + 1, 1, none⟩ = false := by simp [World.frozen?, hq1]
      clear hq1 hs1 hr1 hg1 hw3 hset1
      have hc2 := refNumberNe_any w3 (p + 2) E1 l1 1099511627776 (p + 1) HN1.out
      obtain ⟨X2, hX2⟩ : ∃ X, X = rNum E1 l1 1099511627776 := ⟨_, rfl⟩
      have HX2 := Lib.hid hX2
      have hz2 := rNum_small E1 l1 1099511627776 (by omega)
      rw [← hX2] at hc2 hz2
      clear hX2
      obtain ⟨a2, E2, l2⟩ := X2
      simp only at hc2 hz2
      have HC2 := Lib.hid hc2
      clear hc2
      go_wp2_with fail
      rw [HWE1.out]
      refine HC2.out.mono ?_
      rintro e u2 ⟨rfl, hr2, hg2⟩
      obtain ⟨hq2, hs2⟩ := num_step HS1.out HQ1.out (by omega) hg2
      have hset2 := rec_set (i := 2) (v := .int .i64 (a2 : Int)) hq2 #[.int .u8 1, .int .i64 (a1 : Int), .int .i64 (a2 : Int), .int .i64 0, .int .i64 0, .string ⟨#[]⟩, .int .i64 0, .int .u64 0, .int .u64 0] rfl
      obtain ⟨w4, hw4⟩ : ∃ w', w' = u2.setCell ⟨p + 1, 2, none⟩ (.int .i64 (a2 : Int)) := ⟨_, rfl⟩
      have HWE2 := Lib.hid hw4.symm
      rw [hset2] at hw4
      have HQ2 : Hid (w4.heap[p + 1]? = some (.cells #[.int .u8 1, .int .i64 (a1 : Int), .int .i64 (a2 : Int), .int .i64 0, .int .i64 0, .string ⟨#[]⟩, .int .i64 0, .int .u64 0, .int .u64 0] 50 (0, 0))) := Lib.hid (by rw [hw4]; exact put_same hq2)
      have HN2 : Hid (RdrNe w4 95 (p + 2) E2 l2 (p + 1)) := Lib.hid (by rw [hw4]; exact hr2.save ((Save.refl _ _).put (by simp) _))
      have HS2 : Hid (Save [p + 1, p + 2] w2 w4) := Lib.hid (by rw [hw4]; exact hs2.put (by simp) _)
      have x2 : u2.cell? ⟨p + 1, 2, none⟩ = some (.int .i64 0) := by simp [World.cell?, hq2]
      have y2 : u2.frozen? ⟨p + 1, 2, none⟩ = false := by simp [World.frozen?, hq2]
      clear hq2 hs2 hr2 hg2 hw4 hset2
      go_wp2_with fail
      go_meet
      rw [HWE2.out]
      refine ⟨a1, a2, 0, 0, 0, 0, 0, E2, [], l2, Lib.hid ⟨HQ2.out, HN2.out, HS2.out, ?_⟩⟩
      simp [refC, refH, twoN, ← HX1.out, ← HX2.out]
    by_cases hk2 : k = 2
    · have hk := hk2
      clear hk2
      subst hk
      have HN0 := HRN
      have HQ0 : Hid (w2.heap[p + 1]? = some (.cells #[.int .u8 2, .int .i64 0, .int .i64 0, .int .i64 0, .int .i64 0, .string ⟨#[]⟩, .int .i64 0, .int .u64 0, .int .u64 0] 50 (0, 0))) := HQ2
      have HS0 : Hid (Save [p + 1, p + 2] w2 w2) := Lib.hid (Save.refl _ _)
      have hc1 := refNumberNe_any w2 (p + 2) 0 r 255 (p + 1) HN0.out
      obtain ⟨X1, hX1⟩ : ∃ X, X = rNum 0 r 255 := ⟨_, rfl⟩
      have HX1 := Lib.hid hX1
      have hz1 := rNum_small 0 r 255 (by omega)
      rw [← hX1] at hc1 hz1
      clear hX1
      obtain ⟨a1, E1, l1⟩ := X1
      simp only at hc1 hz1
      have HC1 := Lib.hid hc1
      clear hc1
      go_wp2_with fail
      refine HC1.out.mono ?_
      rintro e u1 ⟨rfl, hr1, hg1⟩
      obtain ⟨hq1, hs1⟩ := num_step HS0.out HQ0.out (by omega) hg1
      have hset1 := rec_set (i := 3) (v := .int .i64 (a1 : Int)) hq1 #[.int .u8 2, .int .i64 0, .int .i64 0, .int .i64 (a1 : Int), .int .i64 0, .string ⟨#[]⟩, .int .i64 0, .int .u64 0, .int .u64 0] rfl
      obtain ⟨w3, hw3⟩ : ∃ w', w' = u1.setCell ⟨p + 1, 3, none⟩ (.int .i64 (a1 : Int)) := ⟨_, rfl⟩
      have HWE1 := Lib.hid hw3.symm
      rw [hset1] at hw3
      have HQ1 : Hid (w3.heap[p + 1]? = some (.cells #[.int .u8 2, .int .i64 0, .int .i64 0, .int .i64 (a1 : Int), .int .i64 0, .string ⟨#[]⟩, .int .i64 0, .int .u64 0, .int .u64 0] 50 (0, 0))) := Lib.hid (by rw [hw3]; exact put_same hq1)
      have HN1 : Hid (RdrNe w3 95 (p + 2) E1 l1 (p + 1)) := Lib.hid (by rw [hw3]; exact hr1.save ((Save.refl _ _).put (by simp) _))
      have HS1 : Hid (Save [p + 1, p + 2] w2 w3) := Lib.hid (by rw [hw3]; exact hs1.put (by simp) _)
      have x1 : u1.cell? ⟨p + 1, 3, none⟩ = some (.int .i64 0) := by simp [World.cell?, hq1]
      have y1 : u1.frozen? ⟨p + 1, 3, none⟩ = false := by simp [World.frozen?, hq1]
      clear hq1 hs1 hr1 hg1 hw3 hset1
      obtain ⟨aR, nR, cR, hgR, hrR, hcR, hmR, _, hbR⟩ := HN1.out
      have hl1 : nR = l1.length := hrR.1.symm
      subst hl1
      obtain ⟨T, hT⟩ : ∃ T, T = a1 + l1.length / 32 := ⟨_, rfl⟩
      have ha1 : a1 ≤ 255 := by have := rNum_le 0 r 255; rw [← HX1.out] at this; exact this
      have hT1 : (a1 : Int) + (l1.length : Int) / 32 = (T : Int) := by omega
      obtain ⟨m1, hm1⟩ : ∃ m1, m1 = l1.length := ⟨_, rfl⟩
      have HM1 := Lib.hid hm1
      rw [← hm1] at hgR hrR hcR hmR hbR hT1 hT
      have HT := Lib.hid hT
      have g0 : w3.cell? ⟨p + 2, 0, none⟩ = some (.slice aR m1 cR) := by simp [World.cell?, hgR]
      have f3 : w3.cell? ⟨p + 1, 3, none⟩ = some (.int .i64 (a1 : Int)) := by simp [World.cell?, HQ1.out]
      have f4 : w3.cell? ⟨p + 1, 4, none⟩ = some (.int .i64 0) := by simp [World.cell?, HQ1.out]
      have z4 : w3.frozen? ⟨p + 1, 4, none⟩ = false := by simp [World.frozen?, HQ1.out]
      have HGR := Lib.hid hgR
      have HRR1 := Lib.hid hrR
      clear hm1 hT hgR hrR hbR
      go_upto_region 12 with fail
      rw [HWE1.out]
      go_region
      have hset5 := rec_set (i := 4) (v := .int .i64 (T : Int)) HQ1.out #[.int .u8 2, .int .i64 0, .int .i64 0, .int .i64 (a1 : Int), .int .i64 (T : Int), .string ⟨#[]⟩, .int .i64 0, .int .u64 0, .int .u64 0] rfl
      obtain ⟨w5, hw5⟩ : ∃ w5, w5 = (w3.setCell ⟨p + 1, 4, none⟩ (.int .i64 (T : Int))).drew := ⟨_, rfl⟩
      rw [← hw5]
      have hw5b : w5 = (put w3 (p + 1) (.cells #[.int .u8 2, .int .i64 0, .int .i64 0, .int .i64 (a1 : Int), .int .i64 (T : Int), .string ⟨#[]⟩, .int .i64 0, .int .u64 0, .int .u64 0] 50 (0, 0))).drew := by rw [hw5, hset5]
      have HQ5 : Hid (w5.heap[p + 1]? = some (.cells #[.int .u8 2, .int .i64 0, .int .i64 0, .int .i64 (a1 : Int), .int .i64 (T : Int), .string ⟨#[]⟩, .int .i64 0, .int .u64 0, .int .u64 0] 50 (0, 0))) := Lib.hid (by rw [hw5b]; exact put_same HQ1.out)
      have HG5 : Hid (w5.heap[p + 2]? = some (.cells #[.slice aR m1 cR, .int .i64 (E1 : Int)] 95 (0, 0))) := Lib.hid (by rw [hw5b]; exact (put_other (w := w3) (g := p + 1) (by omega)).trans HGR.out)
      have hs35 : Save [p + 1] w3 w5 := by rw [hw5b]; exact ((Save.refl _ _).put (by simp) _).drew
      have HS5 : Hid (Save [p + 1, p + 2] w2 w5) := Lib.hid (HS1.out.trans (hs35.mono (by simp)))
      have hr5 : Rd w5 aR m1 l1 := by
        have hne := HN1.out
        obtain ⟨aR', nR', cR', hgR', hrR', _, _, _, hbR'⟩ := hne
        have hnn : nR' = m1 := by have h1 := hrR'.1; have h2 := HM1.out; omega
        rw [HGR.out] at hgR'
        simp only [Option.some.injEq, Obj.cells.injEq, Array.mk.injEq, List.cons.injEq, Value.slice.injEq, and_true] at hgR'
        obtain ⟨⟨rfl, rfl, rfl⟩, _⟩ := hgR'
        rcases Nat.eq_zero_or_pos m1 with h0 | h0
        · exact ⟨HRR1.out.1, HRR1.out.2.1, by omega⟩
        · exact HRR1.out.save hs35 fun b o he => by simpa using hbR' b o he (by omega)
      have hcv := conv_rd hr5 cR
      have HBL := Lib.hid hr5.2.1
      have g5 : w5.cell? ⟨p + 2, 0, none⟩ = some (.slice aR m1 cR) := by simp [World.cell?, HG5.out]
      have q5 : w5.cell? ⟨p + 1, 5, none⟩ = some (.string ⟨#[]⟩) := by simp [World.cell?, HQ5.out]
      have qf5 : w5.frozen? ⟨p + 1, 5, none⟩ = false := by simp [World.frozen?, HQ5.out]
      have hset6 := rec_set (i := 5) (v := .string (strB l1)) HQ5.out #[.int .u8 2, .int .i64 0, .int .i64 0, .int .i64 (a1 : Int), .int .i64 (T : Int), .string (strB l1), .int .i64 0, .int .u64 0, .int .u64 0] rfl
      obtain ⟨w6, hw6⟩ : ∃ w6, w6 = w5.setCell ⟨p + 1, 5, none⟩ (.string (strB l1)) := ⟨_, rfl⟩
      have HWE6 := Lib.hid hw6.symm
      rw [hset6] at hw6
      have HQ6 : Hid (w6.heap[p + 1]? = some (.cells #[.int .u8 2, .int .i64 0, .int .i64 0, .int .i64 (a1 : Int), .int .i64 (T : Int), .string (strB l1), .int .i64 0, .int .u64 0, .int .u64 0] 50 (0, 0))) := Lib.hid (by rw [hw6]; exact put_same HQ5.out)
      have HG6 : Hid (w6.heap[p + 2]? = some (.cells #[.slice aR m1 cR, .int .i64 (E1 : Int)] 95 (0, 0))) := Lib.hid (by rw [hw6]; exact (put_other (by omega)).trans HG5.out)
      have HS6 : Hid (Save [p + 1, p + 2] w2 w6) := Lib.hid (by rw [hw6]; exact HS5.out.put (by simp) _)
      have hset7 := set_put (i := 0) (.slice none 0 0) HG6.out
      have g6 : w6.cell? ⟨p + 2, 0, none⟩ = some (.slice aR m1 cR) := by simp [World.cell?, HG6.out]
      have gf6 : w6.frozen? ⟨p + 2, 0, none⟩ = false := by simp [World.frozen?, HG6.out]
      clear hset5 hw5 hw5b hset6 hs35 hr5 f3 f4 z4 g0 hw6
      go_upto_region 14 with fail
      rw [HWE6.out]
      clear g5 q5 qf5 hcv
      go_wp2_with fail
      go_meet
      try rw [hset7]
      refine ⟨0, 0, a1, T, 0, 0, 0, E1, l1, [], Lib.hid ⟨(put_other (by omega)).trans HQ6.out, ⟨none, 0, 0, put_same HG6.out, ⟨rfl, by simp, by omega⟩, by omega, by omega, by omega, fun b o he => by cases he⟩, HS6.out.put (by simp) _, ?_⟩⟩
      simp [refC, refD, ← HX1.out, HT.out, HM1.out]
    by_cases hk3 : k = 3
    · have hk := hk3
      clear hk3
      subst hk
      have HN0 := HRN
      have HQ0 : Hid (w2.heap[p + 1]? = some (.cells #[.int .u8 3, .int .i64 0, .int .i64 0, .int .i64 0, .int .i64 0, .string ⟨#[]⟩, .int .i64 0, .int .u64 0, .int .u64 0] 50 (0, 0))) := HQ2
      have HS0 : Hid (Save [p + 1, p + 2] w2 w2) := Lib.hid (Save.refl _ _)
      have hc1 := refNumberNe_any w2 (p + 2) 0 r 255 (p + 1) HN0.out
      obtain ⟨X1, hX1⟩ : ∃ X, X = rNum 0 r 255 := ⟨_, rfl⟩
      have HX1 := Lib.hid hX1
      have hz1 := rNum_small 0 r 255 (by omega)
      rw [← hX1] at hc1 hz1
      clear hX1
      obtain ⟨a1, E1, l1⟩ := X1
      simp only at hc1 hz1
      have HC1 := Lib.hid hc1
      clear hc1
      go_wp2_with fail
      refine HC1.out.mono ?_
      rintro e u1 ⟨rfl, hr1, hg1⟩
      obtain ⟨hq1, hs1⟩ := num_step HS0.out HQ0.out (by omega) hg1
      have hset1 := rec_set (i := 3) (v := .int .i64 (a1 : Int)) hq1 #[.int .u8 3, .int .i64 0, .int .i64 0, .int .i64 (a1 : Int), .int .i64 0, .string ⟨#[]⟩, .int .i64 0, .int .u64 0, .int .u64 0] rfl
      obtain ⟨w3, hw3⟩ : ∃ w', w' = u1.setCell ⟨p + 1, 3, none⟩ (.int .i64 (a1 : Int)) := ⟨_, rfl⟩
      have HWE1 := Lib.hid hw3.symm
      rw [hset1] at hw3
      have HQ1 : Hid (w3.heap[p + 1]? = some (.cells #[.int .u8 3, .int .i64 0, .int .i64 0, .int .i64 (a1 : Int), .int .i64 0, .string ⟨#[]⟩, .int .i64 0, .int .u64 0, .int .u64 0] 50 (0, 0))) := Lib.hid (by rw [hw3]; exact put_same hq1)
      have HN1 : Hid (RdrNe w3 95 (p + 2) E1 l1 (p + 1)) := Lib.hid (by rw [hw3]; exact hr1.save ((Save.refl _ _).put (by simp) _))
      have HS1 : Hid (Save [p + 1, p + 2] w2 w3) := Lib.hid (by rw [hw3]; exact hs1.put (by simp) _)
      have x1 : u1.cell? ⟨p + 1, 3, none⟩ = some (.int .i64 0) := by simp [World.cell?, hq1]
      have y1 : u1.frozen? ⟨p + 1, 3, none⟩ = false := by simp [World.frozen?, hq1]
      clear hq1 hs1 hr1 hg1 hw3 hset1
      have hc2 := refNumberNe_any w3 (p + 2) E1 l1 256 (p + 1) HN1.out
      obtain ⟨X2, hX2⟩ : ∃ X, X = rNum E1 l1 256 := ⟨_, rfl⟩
      have HX2 := Lib.hid hX2
      have hz2 := rNum_small E1 l1 256 (by omega)
      rw [← hX2] at hc2 hz2
      clear hX2
      obtain ⟨a2, E2, l2⟩ := X2
      simp only at hc2 hz2
      have HC2 := Lib.hid hc2
      clear hc2
      go_wp2_with fail
      rw [HWE1.out]
      refine HC2.out.mono ?_
      rintro e u2 ⟨rfl, hr2, hg2⟩
      obtain ⟨hq2, hs2⟩ := num_step HS1.out HQ1.out (by omega) hg2
      have hset2 := rec_set (i := 4) (v := .int .i64 (a2 : Int)) hq2 #[.int .u8 3, .int .i64 0, .int .i64 0, .int .i64 (a1 : Int), .int .i64 (a2 : Int), .string ⟨#[]⟩, .int .i64 0, .int .u64 0, .int .u64 0] rfl
      obtain ⟨w4, hw4⟩ : ∃ w', w' = u2.setCell ⟨p + 1, 4, none⟩ (.int .i64 (a2 : Int)) := ⟨_, rfl⟩
      have HWE2 := Lib.hid hw4.symm
      rw [hset2] at hw4
      have HQ2 : Hid (w4.heap[p + 1]? = some (.cells #[.int .u8 3, .int .i64 0, .int .i64 0, .int .i64 (a1 : Int), .int .i64 (a2 : Int), .string ⟨#[]⟩, .int .i64 0, .int .u64 0, .int .u64 0] 50 (0, 0))) := Lib.hid (by rw [hw4]; exact put_same hq2)
      have HN2 : Hid (RdrNe w4 95 (p + 2) E2 l2 (p + 1)) := Lib.hid (by rw [hw4]; exact hr2.save ((Save.refl _ _).put (by simp) _))
      have HS2 : Hid (Save [p + 1, p + 2] w2 w4) := Lib.hid (by rw [hw4]; exact hs2.put (by simp) _)
      have x2 : u2.cell? ⟨p + 1, 4, none⟩ = some (.int .i64 0) := by simp [World.cell?, hq2]
      have y2 : u2.frozen? ⟨p + 1, 4, none⟩ = false := by simp [World.frozen?, hq2]
      clear hq2 hs2 hr2 hg2 hw4 hset2
      go_wp2_with fail
      go_meet
      rw [HWE2.out]
      refine ⟨0, 0, a1, a2, 0, 0, 0, E2, [], l2, Lib.hid ⟨HQ2.out, HN2.out, HS2.out, ?_⟩⟩
      simp [refC, refO, twoN, ← HX1.out, ← HX2.out]
    by_cases hk4 : k = 4
    · have hk := hk4
      clear hk4
      subst hk
      have HN0 := HRN
      have HQ0 : Hid (w2.heap[p + 1]? = some (.cells #[.int .u8 4, .int .i64 0, .int .i64 0, .int .i64 0, .int .i64 0, .string ⟨#[]⟩, .int .i64 0, .int .u64 0, .int .u64 0] 50 (0, 0))) := HQ2
      have HS0 : Hid (Save [p + 1, p + 2] w2 w2) := Lib.hid (Save.refl _ _)
      have hc1 := refNumberNe_any w2 (p + 2) 0 r 1099511627776 (p + 1) HN0.out
      obtain ⟨X1, hX1⟩ : ∃ X, X = rNum 0 r 1099511627776 := ⟨_, rfl⟩
      have HX1 := Lib.hid hX1
      have hz1 := rNum_small 0 r 1099511627776 (by omega)
      rw [← hX1] at hc1 hz1
      clear hX1
      obtain ⟨a1, E1, l1⟩ := X1
      simp only at hc1 hz1
      have HC1 := Lib.hid hc1
      clear hc1
      go_wp2_with fail
      refine HC1.out.mono ?_
      rintro e u1 ⟨rfl, hr1, hg1⟩
      obtain ⟨hq1, hs1⟩ := num_step HS0.out HQ0.out (by omega) hg1
      have hset1 := rec_set (i := 6) (v := .int .i64 (a1 : Int)) hq1 #[.int .u8 4, .int .i64 0, .int .i64 0, .int .i64 0, .int .i64 0, .string ⟨#[]⟩, .int .i64 (a1 : Int), .int .u64 0, .int .u64 0] rfl
      obtain ⟨w3, hw3⟩ : ∃ w', w' = u1.setCell ⟨p + 1, 6, none⟩ (.int .i64 (a1 : Int)) := ⟨_, rfl⟩
      have HWE1 := Lib.hid hw3.symm
      rw [hset1] at hw3
      have HQ1 : Hid (w3.heap[p + 1]? = some (.cells #[.int .u8 4, .int .i64 0, .int .i64 0, .int .i64 0, .int .i64 0, .string ⟨#[]⟩, .int .i64 (a1 : Int), .int .u64 0, .int .u64 0] 50 (0, 0))) := Lib.hid (by rw [hw3]; exact put_same hq1)
      have HN1 : Hid (RdrNe w3 95 (p + 2) E1 l1 (p + 1)) := Lib.hid (by rw [hw3]; exact hr1.save ((Save.refl _ _).put (by simp) _))
      have HS1 : Hid (Save [p + 1, p + 2] w2 w3) := Lib.hid (by rw [hw3]; exact hs1.put (by simp) _)
      have x1 : u1.cell? ⟨p + 1, 6, none⟩ = some (.int .i64 0) := by simp [World.cell?, hq1]
      have y1 : u1.frozen? ⟨p + 1, 6, none⟩ = false := by simp [World.frozen?, hq1]
      clear hq1 hs1 hr1 hg1 hw3 hset1
      have hc2 := refNumberNe_any w3 (p + 2) E1 l1 1099511627776 (p + 1) HN1.out
      obtain ⟨X2, hX2⟩ : ∃ X, X = rNum E1 l1 1099511627776 := ⟨_, rfl⟩
      have HX2 := Lib.hid hX2
      rw [← hX2] at hc2
      clear hX2
      obtain ⟨a2, E2, l2⟩ := X2
      simp only at hc2
      have HC2 := Lib.hid hc2
      clear hc2
      go_wp2_with fail
      rw [HWE1.out]
      refine HC2.out.mono ?_
      rintro e u2 ⟨rfl, hr2, hg2⟩
      obtain ⟨hq2, hs2⟩ := num_step HS1.out HQ1.out (by omega) hg2
      have hset2 := rec_set (i := 7) (v := .int .u64 (a2 : Int)) hq2 #[.int .u8 4, .int .i64 0, .int .i64 0, .int .i64 0, .int .i64 0, .string ⟨#[]⟩, .int .i64 (a1 : Int), .int .u64 (a2 : Int), .int .u64 0] rfl
      obtain ⟨w4, hw4⟩ : ∃ w', w' = u2.setCell ⟨p + 1, 7, none⟩ (.int .u64 (a2 : Int)) := ⟨_, rfl⟩
      have HWE2 := Lib.hid hw4.symm
      rw [hset2] at hw4
      have HQ2 : Hid (w4.heap[p + 1]? = some (.cells #[.int .u8 4, .int .i64 0, .int .i64 0, .int .i64 0, .int .i64 0, .string ⟨#[]⟩, .int .i64 (a1 : Int), .int .u64 (a2 : Int), .int .u64 0] 50 (0, 0))) := Lib.hid (by rw [hw4]; exact put_same hq2)
      have HN2 : Hid (RdrNe w4 95 (p + 2) E2 l2 (p + 1)) := Lib.hid (by rw [hw4]; exact hr2.save ((Save.refl _ _).put (by simp) _))
      have HS2 : Hid (Save [p + 1, p + 2] w2 w4) := Lib.hid (by rw [hw4]; exact hs2.put (by simp) _)
      have x2 : u2.cell? ⟨p + 1, 7, none⟩ = some (.int .u64 0) := by simp [World.cell?, hq2]
      have y2 : u2.frozen? ⟨p + 1, 7, none⟩ = false := by simp [World.frozen?, hq2]
      clear hq2 hs2 hr2 hg2 hw4 hset2
      have hc3 := refNumberNe_any w4 (p + 2) E2 l2 18446744073709551615 (p + 1) HN2.out
      obtain ⟨X3, hX3⟩ : ∃ X, X = rNum E2 l2 18446744073709551615 := ⟨_, rfl⟩
      have HX3 := Lib.hid hX3
      rw [← hX3] at hc3
      clear hX3
      obtain ⟨a3, E3, l3⟩ := X3
      simp only at hc3
      have HC3 := Lib.hid hc3
      clear hc3
      go_wp2_with fail
      rw [HWE2.out]
      refine HC3.out.mono ?_
      rintro e u3 ⟨rfl, hr3, hg3⟩
      obtain ⟨hq3, hs3⟩ := num_step HS2.out HQ2.out (by omega) hg3
      have hset3 := rec_set (i := 8) (v := .int .u64 (a3 : Int)) hq3 #[.int .u8 4, .int .i64 0, .int .i64 0, .int .i64 0, .int .i64 0, .string ⟨#[]⟩, .int .i64 (a1 : Int), .int .u64 (a2 : Int), .int .u64 (a3 : Int)] rfl
      obtain ⟨w5, hw5⟩ : ∃ w', w' = u3.setCell ⟨p + 1, 8, none⟩ (.int .u64 (a3 : Int)) := ⟨_, rfl⟩
      have HWE3 := Lib.hid hw5.symm
      rw [hset3] at hw5
      have HQ3 : Hid (w5.heap[p + 1]? = some (.cells #[.int .u8 4, .int .i64 0, .int .i64 0, .int .i64 0, .int .i64 0, .string ⟨#[]⟩, .int .i64 (a1 : Int), .int .u64 (a2 : Int), .int .u64 (a3 : Int)] 50 (0, 0))) := Lib.hid (by rw [hw5]; exact put_same hq3)
      have HN3 : Hid (RdrNe w5 95 (p + 2) E3 l3 (p + 1)) := Lib.hid (by rw [hw5]; exact hr3.save ((Save.refl _ _).put (by simp) _))
      have HS3 : Hid (Save [p + 1, p + 2] w2 w5) := Lib.hid (by rw [hw5]; exact hs3.put (by simp) _)
      have x3 : u3.cell? ⟨p + 1, 8, none⟩ = some (.int .u64 0) := by simp [World.cell?, hq3]
      have y3 : u3.frozen? ⟨p + 1, 8, none⟩ = false := by simp [World.frozen?, hq3]
      clear hq3 hs3 hr3 hg3 hw5 hset3
      go_wp2_with fail
      go_meet
      rw [HWE3.out]
      refine ⟨0, 0, 0, 0, a1, a2, a3, E3, [], l3, Lib.hid ⟨HQ3.out, HN3.out, HS3.out, ?_⟩⟩
      simp [refC, refT, threeN, ← HX1.out, ← HX2.out, ← HX3.out]
    have e1 : ((k : Int) == 1) = false := by simp; omega
    have e2 : ((k : Int) == 2) = false := by simp; omega
    have e3 : ((k : Int) == 3) = false := by simp; omega
    have e4 : ((k : Int) == 4) = false := by simp; omega
    have HCA : Hid (refC k r = (rec0 k, 0, r)) := Lib.hid (by simp [refC, hk, hk2, hk3, hk4])
    clear hk hk2 hk3 hk4
    go_wp2_with fail
    go_meet
    exact ⟨0, 0, 0, 0, 0, 0, 0, 0, [], r, Lib.hid ⟨HQ2.out, HRN.out, Save.refl _ _, HCA.out⟩⟩
  case rest =>
    obtain ⟨i, b, f, t, c, dn, ds, E, l, rest, HC⟩ := hcut
    clear c0
    obtain ⟨aR, nR, cR, hgR, hrR, hcR, hmR, _, _⟩ := HC.out.2.1
    have HNR : Hid (rest.length = nR) := Lib.hid hrR.1
    have hx : (refC k r).1 = ⟨k, i, b, f, t, l, c, dn, ds⟩ := by rw [HC.out.2.2.2]
    have HFI : Hid (Rec.fits ⟨k, i, b, f, t, l, c, dn, ds⟩ ∧ ∀ z ∈ l, z < 256) := Lib.hid (by
      have h1 := refC_fits k r HKB.out HRB.out (by have := HRL.out; omega)
      rw [hx] at h1
      exact h1)
    have HRI := Lib.hid (right_any ⟨k, i, b, f, t, l, c, dn, ds⟩ wc HFI.out.1 HFI.out.2)
    have HRO : Hid (RO = ((E == 0) && (rest.isEmpty && Rec.ok ⟨k, i, b, f, t, l, c, dn, ds⟩))) := Lib.hid (by have := HRR.out.1; rw [HC.out.2.2.2] at this; exact this)
    have HRX : Hid (RR = if RO then ⟨k, i, b, f, t, l, c, dn, ds⟩ else rec0 0) := Lib.hid (by have := HRR.out.2; rw [hx] at this; exact this)
    obtain ⟨V, hV⟩ : ∃ V, V = Rec.ok ⟨k, i, b, f, t, l, c, dn, ds⟩ := ⟨_, rfl⟩
    rw [← hV] at HRI HRO
    have HGR := Lib.hid hgR
    have HQC := Lib.hid HC.out.1
    have HPC : Hid (wc.heap[p]? = some (.cells #[.int .u8 0, .int .i64 0, .int .i64 0, .int .i64 0, .int .i64 0, .string ⟨#[]⟩, .int .i64 0, .int .u64 0, .int .u64 0] 50 (0, 0))) := Lib.hid ((HC.out.2.2.1.block p (by have := HSZ.out; omega) (by simp)).trans HP2.out)
    have HBC : Hid (Below w.heap.size w wc) := Lib.hid (HB2.out.trans (HC.out.2.2.1.below HB2.out.size (by have := HW.out.2; simp; omega)))
    obtain ⟨c0, c1, c2, c3, c4, c5, c6, c7, c8⟩ := rec_cells HQC.out
    clear hgR hrR hcR hmR hx hV HC
    simp only [pcV] at HRI
    go_wp2_with fail
    refine HRI.out.mono ?_
    rintro e w4 ⟨rfl, hb4⟩
    have HGR4 := Lib.hid ((hb4.block (p + 2) (lt_of_block HGR.out)).trans HGR.out)
    have HQ4 := Lib.hid ((hb4.block (p + 1) (lt_of_block HQC.out)).trans HQC.out)
    have HP4 := Lib.hid ((hb4.block p (lt_of_block HPC.out)).trans HPC.out)
    have HB4 : Hid (Below w.heap.size w w4) := Lib.hid (HBC.out.trans (hb4.mono HBC.out.size))
    clear hb4 c0 c1 c2 c3 c4 c5 c6 c7 c8
    have g0 : w4.cell? ⟨p + 2, 0, none⟩ = some (.slice aR nR cR) := by simp [World.cell?, HGR4.out]
    have g1 : w4.cell? ⟨p + 2, 1, none⟩ = some (.int .i64 (E : Int)) := by simp [World.cell?, HGR4.out]
    obtain ⟨c0, c1, c2, c3, c4, c5, c6, c7, c8⟩ := rec_cells HQ4.out
    have hpz := HP4.out
    obtain ⟨z0, z1, z2, z3, z4, z5, z6, z7, z8⟩ := rec_cells hpz
    have y0 : w4.frozen? ⟨p, 0, none⟩ = false := by simp [World.frozen?, hpz]
    have y1 : w4.frozen? ⟨p, 1, none⟩ = false := by simp [World.frozen?, hpz]
    have y2 : w4.frozen? ⟨p, 2, none⟩ = false := by simp [World.frozen?, hpz]
    have y3 : w4.frozen? ⟨p, 3, none⟩ = false := by simp [World.frozen?, hpz]
    have y4 : w4.frozen? ⟨p, 4, none⟩ = false := by simp [World.frozen?, hpz]
    have y5 : w4.frozen? ⟨p, 5, none⟩ = false := by simp [World.frozen?, hpz]
    have y6 : w4.frozen? ⟨p, 6, none⟩ = false := by simp [World.frozen?, hpz]
    have y7 : w4.frozen? ⟨p, 7, none⟩ = false := by simp [World.frozen?, hpz]
    have y8 : w4.frozen? ⟨p, 8, none⟩ = false := by simp [World.frozen?, hpz]
    have hputz := rec_put (v0 := .int .u8 0) (v1 := .int .i64 0) (v2 := .int .i64 0) (v3 := .int .i64 0) (v4 := .int .i64 0) (v5 := .string ⟨#[]⟩) (v6 := .int .i64 0) (v7 := .int .u64 0) (v8 := .int .u64 0) hpz
    rw [put_self hpz] at hputz
    have HPZ := Lib.hid hputz
    have hputx := rec_put (v0 := .int .u8 (k : Int)) (v1 := .int .i64 i) (v2 := .int .i64 b) (v3 := .int .i64 f) (v4 := .int .i64 t) (v5 := .string (strB l)) (v6 := .int .i64 c) (v7 := .int .u64 (dn : Int)) (v8 := .int .u64 (ds : Int)) hpz
    have HPX := Lib.hid hputx
    clear hputz hputx hpz
    by_cases hE : E = 0
    · subst hE
      by_cases hn0 : nR = 0
      · subst hn0
        have hr0 : rest = [] := List.eq_nil_of_length_eq_zero HNR.out
        cases V
        · have hRO : RO = false := by rw [HRO.out]; simp
          have hRX : RR = rec0 0 := by rw [HRX.out, hRO]; simp
          subst hRO hRX
          go_wp2_with fail
          rw [HPZ.out]
          refine bodyPost_ret (v := .tuple #[.agg #[.int .u8 0, .int .i64 0, .int .i64 0, .int .i64 0, .int .i64 0, .string ⟨#[]⟩, .int .i64 0, .int .u64 0, .int .u64 0], .bool false]) (by simp [results, Tryz.results57, go_sem, z0, z1, z2, z3, z4, z5, z6, z7, z8]; try rfl) rfl ?_
          exact ⟨by simp [pcV, rec0, strB_nilR], HB4.out⟩
        · have hRO : RO = true := by rw [HRO.out, hr0]; rfl
          have hRX : RR = ⟨k, i, b, f, t, l, c, dn, ds⟩ := by rw [HRX.out, hRO]; simp
          subst hRO hRX
          go_wp2_with fail
          rw [HPX.out]
          clear z0 z1 z2 z3 z4 z5 z6 z7 z8 y0 y1 y2 y3 y4 y5 y6 y7 y8
          have hp9 := put_same (o := .cells #[.int .u8 (k : Int), .int .i64 i, .int .i64 b, .int .i64 f, .int .i64 t, .string (strB l), .int .i64 c, .int .u64 (dn : Int), .int .u64 (ds : Int)] 50 (0, 0)) HP4.out
          have hbl9 : Below w.heap.size w (put w4 p (.cells #[.int .u8 (k : Int), .int .i64 i, .int .i64 b, .int .i64 f, .int .i64 t, .string (strB l), .int .i64 c, .int .u64 (dn : Int), .int .u64 (ds : Int)] 50 (0, 0))) := HB4.out.trans (put_below _ (Nat.le_of_eq HW.out.2))
          generalize put w4 p (.cells #[.int .u8 (k : Int), .int .i64 i, .int .i64 b, .int .i64 f, .int .i64 t, .string (strB l), .int .i64 c, .int .u64 (dn : Int), .int .u64 (ds : Int)] 50 (0, 0)) = w9 at hp9 hbl9 ⊢
          have HB9 := Lib.hid hbl9
          clear hbl9
          obtain ⟨d0, d1, d2, d3, d4, d5, d6, d7, d8⟩ := rec_cells hp9
          refine bodyPost_ret (v := .tuple #[.agg #[.int .u8 (k : Int), .int .i64 i, .int .i64 b, .int .i64 f, .int .i64 t, .string (strB l), .int .i64 c, .int .u64 (dn : Int), .int .u64 (ds : Int)], .bool true]) (by simp [results, Tryz.results57, go_sem, d0, d1, d2, d3, d4, d5, d6, d7, d8]; try rfl) rfl ?_
          exact ⟨by simp [pcV], HB9.out⟩
      · have hn1 : 0 < (nR : Int) := by omega
        have hRO : RO = false := by
          rw [HRO.out]
          cases hrr : rest with
          | nil => have := HNR.out; rw [hrr] at this; simp at this; omega
          | cons a r => simp
        have hRX : RR = rec0 0 := by rw [HRX.out, hRO]; simp
        subst hRO hRX
        clear hn0
        go_wp2_with fail
        rw [HPZ.out]
        refine bodyPost_ret (v := .tuple #[.agg #[.int .u8 0, .int .i64 0, .int .i64 0, .int .i64 0, .int .i64 0, .string ⟨#[]⟩, .int .i64 0, .int .u64 0, .int .u64 0], .bool false]) (by simp [results, Tryz.results57, go_sem, z0, z1, z2, z3, z4, z5, z6, z7, z8]; try rfl) rfl ?_
        exact ⟨by simp [pcV, rec0, strB_nilR], HB4.out⟩
    · have hE1 : ((E : Int) != 0) = true := by simp; omega
      have hRO : RO = false := by rw [HRO.out]; simp [beq_eq_false_iff_ne.2 hE]
      have hRX : RR = rec0 0 := by rw [HRX.out, hRO]; simp
      subst hRO hRX
      clear hE
      go_wp2_with fail
      rw [HPZ.out]
      refine bodyPost_ret (v := .tuple #[.agg #[.int .u8 0, .int .i64 0, .int .i64 0, .int .i64 0, .int .i64 0, .string ⟨#[]⟩, .int .i64 0, .int .u64 0, .int .u64 0], .bool false]) (by simp [results, Tryz.results57, go_sem, z0, z1, z2, z3, z4, z5, z6, z7, z8]; try rfl) rfl ?_
      exact ⟨by simp [pcV, rec0, strB_nilR], HB4.out⟩

/-- What sealed bytes come to, by the document. -/
theorem rparse_any (a : Option Addr) (n cap : Nat) (l : List Nat) (w : World) (h : Rd w a n l) (hn : n ≤ 1000) (hc : n ≤ cap) :
    Calls Tryz.prog 57 #[.slice a n cap] w fun e w' => e = .returned (.tuple #[pcV (refRec l), .bool (refOk l)]) ∧ Below w.heap.size w w' := by
  match l with
  | [] =>
    obtain rfl : n = 0 := by have := h.1; simpa using this.symm
    exact rparse_empty a cap w
  | k :: r =>
    obtain ⟨b, o, rfl, _⟩ := h.2.2 (by have := h.1; simp at this; omega)
    exact rparse_some b o n cap k r w h hn hc

end Go.Proofs.YtaijldcfoaeogaaGreat
