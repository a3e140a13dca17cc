/- A record's bytes are read as it. Plain mathematics. -/
import Derived.Test.YtngnlnkkehnomaaRcRead
namespace Go.Proofs.Ytngnlnkkehnomaa
open Go.RowKit
set_option linter.unusedSimpArgs false

theorem rNum_enc {x most : Nat} (r : List Nat) (h : x ≤ most) (hx : x < 18446744073709551616) : rNum 0 (vEnc x ++ r) most = (x, 0, r) := by
  obtain ⟨h1, h2, h3⟩ := vRead (n := x) r hx
  rw [rNum_ok h1 (by omega), h2, h3]
  simp

theorem rNum_enc0 {x most : Nat} (h : x ≤ most) (hx : x < 18446744073709551616) : rNum 0 (vEnc x) most = (x, 0, []) := by
  have := rNum_enc (x := x) (most := most) [] h hx
  simpa using this

theorem cand_plain {x : Rec} (hx : x.ok = true) : cand x.plain = (x, true) := by
  rcases Rec.ok_cases hx with ⟨i, b, h1, h2, rfl⟩ | ⟨f, t, l, h1, h2, h3, h4, rfl⟩ | ⟨f, t, h1, h2, rfl⟩ | ⟨c, n, s, h1, h2, h3, rfl⟩
  · have e1 := rNum_enc (x := i) (most := 1099511627776) (vEnc b) h1 (by omega)
    have e2 := rNum_enc0 (x := b) (most := 1099511627776) h2 (by omega)
    have ep : Rec.plain ⟨1, i, b, 0, 0, [], 0, 0, 0⟩ = 1 :: (vEnc i ++ vEnc b) := by simp [Rec.plain]
    rw [ep]
    simp [cand, candH, e1, e2, rEnd]
  · obtain ⟨v1, v2, v3⟩ := vRead (n := f) l (by omega)
    have ep : Rec.plain ⟨2, 0, 0, f, t, l, 0, 0, 0⟩ = 2 :: (vEnc f ++ l) := by simp [Rec.plain]
    rw [ep]
    have e1 : cand (2 :: (vEnc f ++ l)) = candD (vEnc f ++ l) := by simp [cand]
    rw [e1]
    unfold candD
    rw [if_pos ⟨v1, by rw [v3]; omega⟩, v2, v3]
    have e2 : (vEnc f ++ l).drop (vEnc f).length = l := by simp
    have e3 : f + ((vEnc f ++ l).length - (vEnc f).length) / 32 = t := by simp; omega
    rw [e2, e3]
  · have e1 := rNum_enc (x := f) (most := 1099511627776) (vEnc t) (by omega) (by omega)
    have e2 := rNum_enc0 (x := t) (most := 1099511627776) (by omega) (by omega)
    have ep : Rec.plain ⟨3, 0, 0, f, t, [], 0, 0, 0⟩ = 3 :: (vEnc f ++ vEnc t) := by simp [Rec.plain]
    rw [ep]
    simp [cand, candO, e1, e2, rEnd]
  · have e1 := rNum_enc (x := c) (most := 1099511627776) (vEnc n ++ vEnc s) h1 (by omega)
    have e2 := rNum_enc (x := n) (most := 1099511627776) (vEnc s) h2 (by omega)
    have e3 := rNum_enc0 (x := s) (most := 2305843009213693950) (by omega) (by omega)
    have ep : Rec.plain ⟨4, 0, 0, 0, 0, [], c, n, s⟩ = 4 :: (vEnc c ++ (vEnc n ++ vEnc s)) := by simp [Rec.plain]
    rw [ep]
    simp [cand, candT, threeN, e1, e2, e3, rEnd]

theorem rdRec_bytes {x : Rec} (hx : x.ok = true) : rdRec 0 x.bytes = (x, 0) := by
  obtain ⟨l1, l2⟩ := Rec.plain_len hx
  obtain ⟨P, hP⟩ : ∃ P, P = x.plain := ⟨_, rfl⟩
  rw [← hP] at l1 l2
  obtain ⟨Z, hZ⟩ : ∃ Z, Z = P ++ sumB (cSum P) := ⟨_, rfl⟩
  have hZl : Z.length = P.length + 4 := by rw [hZ]; simp [sumB]
  have hb : x.bytes = vEnc Z.length ++ Z := by rw [hZ, hP]; rfl
  have e1 : rByt 0 x.bytes 200 = (Z, 0, []) := by
    have h1 := rNum_enc (x := Z.length) (most := 200) Z (by omega) (by omega)
    rw [hb, rByt_ok h1 (by omega)]
    simp
  have ht : Z.take (Z.length - 4) = P := by rw [hZl, hZ]; simp
  have hs : Sealed Z := by
    refine ⟨by omega, ?_⟩
    rw [ht, hZl, hZ]
    have : (P ++ sumB (cSum P)).drop (P.length + 4 - 4) = sumB (cSum P) := by simp
    rw [this, numB_sumB]
  unfold rdRec
  rw [e1]
  simp only [ne_eq, not_true_eq_false, if_false]
  unfold rdSeal
  rw [if_pos hs, ht, hP, pars_isSome, cand_plain hx, hx]
  rfl

end Go.Proofs.Ytngnlnkkehnomaa
