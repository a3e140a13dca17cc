/- A record that came in: what the form tells of it. -/
import Derived.Test.YtngnlnkkehnomaaRcEq
import Derived.Test.YtngnlnkkehnomaaMemOpen
import Derived.Test.YtngnlnkkehnomaaStructs
namespace Go.Proofs.Ytngnlnkkehnomaa
open Go.ChangeShapes Go.WideShapes Go.ChangeAt Go.RowKit Go.Deep

/-- A slice of bytes that came in. -/
theorem rdB_open {H : Type} {enc : TypeId × Value → H} {W : World} {b0 : Nat} {held : Bool} {v : Value} {m : Nat} {x : DataW H × List MemPlace}
    (h : DataW.trod enc Try.prog W b0 (fun _ => true) held m 25 [v] = some x) : ∃ a n c l, v = .slice a n c ∧ Rd W a n l := by
  rcases open_ints Try.underlying25 Try.underlying5 (by kernel_rfl) h with ⟨hcs, _⟩ | ⟨x, l, c', zs, hcs, _, hl, hm, hz, _, hcell, hwz⟩
  · simp only [List.cons.injEq, and_true] at hcs
    subst hcs
    exact ⟨none, 0, 0, [], rfl, rfl, by simp, by simp⟩
  · simp only [List.cons.injEq, and_true] at hcs
    subst hcs
    exact ⟨some x, l, c', (zs.take l).map Int.toNat, rfl, (nums_of (k := .u8) (fun z hz => (bounds_u8 hz).1) hl (by simpa using hz) hcell hwz).rd⟩

theorem list2 {α : Type} {l : List α} (h : l.length = 2) : ∃ a b, l = [a, b] := by
  match l, h with
  | [a, b], _ => exact ⟨a, b, rfl⟩

theorem list7 {α : Type} {l : List α} (h : l.length = 7) : ∃ a b c d e f g, l = [a, b, c, d, e, f, g] := by
  match l, h with
  | [a, b, c, d, e, f, g], _ => exact ⟨a, b, c, d, e, f, g, rfl⟩

theorem list9 {α : Type} {l : List α} (h : l.length = 9) : ∃ c0 c1 c2 c3 c4 c5 c6 c7 c8, l = [c0, c1, c2, c3, c4, c5, c6, c7, c8] := by
  match l, h with
  | [c0, c1, c2, c3, c4, c5, c6, c7, c8], _ => exact ⟨c0, c1, c2, c3, c4, c5, c6, c7, c8, rfl⟩

theorem cells1 : Try.prog.cellsOf 22 = 1 ∧ Try.prog.cellsOf 3 = 1 ∧ Try.prog.cellsOf 26 = 1 ∧ Try.prog.cellsOf 25 = 1 ∧ Try.prog.cellsOf 24 = 2 ∧ Try.prog.cellsOf 28 = 2 ∧ Try.prog.cellsOf 30 = 9 := by
  refine ⟨?_, ?_, ?_, ?_, ?_, ?_, ?_⟩ <;> kernel_rfl

/-- A record's numbers are those of their kinds. -/
def Rec.fits (x : Rec) : Prop := x.k < 256 ∧ (-9223372036854775808 ≤ x.t ∧ x.t ≤ 9223372036854775807) ∧ x.n < 18446744073709551616 ∧ x.s < 18446744073709551616

/-- A record that came in. -/
theorem rec_open {H : Type} {enc : TypeId × Value → H} {W : World} {b0 : Nat} {held : Bool} {m : Nat} {cs : List Value} {D : DataW H} {Pl : List MemPlace}
    (h : DataW.trod enc Try.prog W b0 (fun _ => true) held m 30 cs = some (D, Pl)) : ∃ (x : Rec) (a : Option Addr) (n cap : Nat), Value.agg cs.toArray = rcV x a n cap ∧ Rd W a n x.l ∧ x.fits := by
  obtain ⟨q1, q2, q3, q4, q5, q6, q7⟩ := cells1
  obtain ⟨ys, k, _, hD, hcl, hyl, hg⟩ := DataW.trod_struct Try.underlying30 h
  rw [q7] at hcl
  obtain ⟨c0, c1, c2, c3, c4, c5, c6, c7, c8, rfl⟩ := list9 hcl
  obtain ⟨y0, y1, y2, y3, y4, y5, y6, rfl⟩ := list7 hyl
  have f0 : DataW.trod enc Try.prog W b0 (fun _ => true) held k 22 [c0] = some y0 := by
    have h0 : DataW.trod enc Try.prog W b0 (fun _ => true) held k 22 (([c0, c1, c2, c3, c4, c5, c6, c7, c8].drop 0).take (Try.prog.cellsOf 22)) = some y0 := hg 0 _ rfl
    rw [q1] at h0
    exact h0
  have f1 : DataW.trod enc Try.prog W b0 (fun _ => true) held k 3 [c1] = some y1 := by
    have h0 : DataW.trod enc Try.prog W b0 (fun _ => true) held k 3 (([c0, c1, c2, c3, c4, c5, c6, c7, c8].drop 1).take (Try.prog.cellsOf 3)) = some y1 := hg 1 _ rfl
    rw [q2] at h0
    exact h0
  have f2 : DataW.trod enc Try.prog W b0 (fun _ => true) held k 3 [c2] = some y2 := by
    have h0 : DataW.trod enc Try.prog W b0 (fun _ => true) held k 3 (([c0, c1, c2, c3, c4, c5, c6, c7, c8].drop 2).take (Try.prog.cellsOf 3)) = some y2 := hg 2 _ rfl
    rw [q2] at h0
    exact h0
  have f3 : DataW.trod enc Try.prog W b0 (fun _ => true) held k 24 [c3, c4] = some y3 := by
    have h0 : DataW.trod enc Try.prog W b0 (fun _ => true) held k 24 (([c0, c1, c2, c3, c4, c5, c6, c7, c8].drop 3).take (Try.prog.cellsOf 24)) = some y3 := hg 3 _ rfl
    rw [q5] at h0
    exact h0
  have f4 : DataW.trod enc Try.prog W b0 (fun _ => true) held k 25 [c5] = some y4 := by
    have h0 : DataW.trod enc Try.prog W b0 (fun _ => true) held k 25 (([c0, c1, c2, c3, c4, c5, c6, c7, c8].drop 5).take (Try.prog.cellsOf 25)) = some y4 := hg 4 _ rfl
    rw [q4] at h0
    exact h0
  have f5 : DataW.trod enc Try.prog W b0 (fun _ => true) held k 3 [c6] = some y5 := by
    have h0 : DataW.trod enc Try.prog W b0 (fun _ => true) held k 3 (([c0, c1, c2, c3, c4, c5, c6, c7, c8].drop 6).take (Try.prog.cellsOf 3)) = some y5 := hg 5 _ rfl
    rw [q2] at h0
    exact h0
  have f6 : DataW.trod enc Try.prog W b0 (fun _ => true) held k 28 [c7, c8] = some y6 := by
    have h0 : DataW.trod enc Try.prog W b0 (fun _ => true) held k 28 (([c0, c1, c2, c3, c4, c5, c6, c7, c8].drop 7).take (Try.prog.cellsOf 28)) = some y6 := hg 6 _ rfl
    rw [q6] at h0
    exact h0
  obtain ⟨zs, k2, _, _, _, hzl, hg2⟩ := DataW.trod_struct Try.underlying24 f3
  obtain ⟨z0, z1, rfl⟩ := list2 hzl
  have p0 : DataW.trod enc Try.prog W b0 (fun _ => true) held k2 3 [c3] = some z0 := by
    have h0 : DataW.trod enc Try.prog W b0 (fun _ => true) held k2 3 (([c3, c4].drop 0).take (Try.prog.cellsOf 3)) = some z0 := hg2 0 _ rfl
    rw [q2] at h0
    exact h0
  have p1 : DataW.trod enc Try.prog W b0 (fun _ => true) held k2 3 [c4] = some z1 := by
    have h0 : DataW.trod enc Try.prog W b0 (fun _ => true) held k2 3 (([c3, c4].drop 1).take (Try.prog.cellsOf 3)) = some z1 := hg2 1 _ rfl
    rw [q2] at h0
    exact h0
  obtain ⟨us, k3, _, _, _, hul, hg3⟩ := DataW.trod_struct Try.underlying28 f6
  obtain ⟨u0, u1, rfl⟩ := list2 hul
  have r0 : DataW.trod enc Try.prog W b0 (fun _ => true) held k3 26 [c7] = some u0 := by
    have h0 : DataW.trod enc Try.prog W b0 (fun _ => true) held k3 26 (([c7, c8].drop 0).take (Try.prog.cellsOf 26)) = some u0 := hg3 0 _ rfl
    rw [q3] at h0
    exact h0
  have r1 : DataW.trod enc Try.prog W b0 (fun _ => true) held k3 26 [c8] = some u1 := by
    have h0 : DataW.trod enc Try.prog W b0 (fun _ => true) held k3 26 (([c7, c8].drop 1).take (Try.prog.cellsOf 26)) = some u1 := hg3 1 _ rfl
    rw [q3] at h0
    exact h0
  obtain ⟨K, e0, _, w0⟩ := DataW.trod_int Try.underlying22 f0
  obtain ⟨I, e1, _, _⟩ := DataW.trod_int Try.underlying3 f1
  obtain ⟨B, e2, _, _⟩ := DataW.trod_int Try.underlying3 f2
  obtain ⟨F, e3, _, _⟩ := DataW.trod_int Try.underlying3 p0
  obtain ⟨T, e4, _, w4⟩ := DataW.trod_int Try.underlying3 p1
  obtain ⟨C, e6, _, _⟩ := DataW.trod_int Try.underlying3 f5
  obtain ⟨L, e7, _, w7⟩ := DataW.trod_int Try.underlying26 r0
  obtain ⟨S, e8, _, w8⟩ := DataW.trod_int Try.underlying26 r1
  simp only [List.cons.injEq, and_true] at e0 e1 e2 e3 e4 e6 e7 e8
  subst e0 e1 e2 e3 e4 e6 e7 e8
  obtain ⟨a, n, c, l, rfl, hB⟩ := rdB_open f4
  have b0 := bounds_u8 w0
  have b4 := bounds_i64 w4
  have b7 := bounds_u64 w7
  have b8 := bounds_u64 w8
  have hK : ((K.toNat : Nat) : Int) = K := Int.toNat_of_nonneg b0.1
  have hL : ((L.toNat : Nat) : Int) = L := Int.toNat_of_nonneg b7.1
  have hS : ((S.toNat : Nat) : Int) = S := Int.toNat_of_nonneg b8.1
  refine ⟨⟨K.toNat, I, B, F, T, l, C, L.toNat, S.toNat⟩, a, n, c, ?_, hB, ?_⟩
  · simp only [rcV, hK, hL, hS]
  · simp only [Rec.fits]
    omega

end Go.Proofs.Ytngnlnkkehnomaa
