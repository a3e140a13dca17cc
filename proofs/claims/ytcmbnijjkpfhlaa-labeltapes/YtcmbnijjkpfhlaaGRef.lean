/- The contract of the document's own 'Next' (revenantref01), over any world. -/
import Derived.Test.YtcmbnijjkpfhlaaVNext
import Derived.Test.YtcmbnijjkpfhlaaVRdr
import Derived.Test.YtcmbnijjkpfhlaaGVBytesC
import Derived.Test.YtcmbnijjkpfhlaaGVRdrNe
namespace Go.Proofs.Ytcmbnijjkpfhlaa
open Go.RowKit

theorem take_lt64 {l : List Nat} {j : Nat} (hj : j ≤ 9) (hl : j < l.length) (hbad : vBad j (l.getD j 0) = false) : vVal (l.take (j + 1)) < 18446744073709551616 := by
  rw [vVal_take_succ hl rfl]
  have h1 := vVal_take_lt l j
  by_cases h9 : j = 9
  · subst h9
    rw [vBad_nine hbad]
    omega
  · have h2 : 128 ^ j ≤ 128 ^ 8 := Nat.pow_le_pow_right (by omega) (by omega)
    have h3 : l.getD j 0 % 128 ≤ 127 := by omega
    have := Nat.mul_le_mul h2 h3
    omega

theorem drop_take_step {l : List Nat} {j q : Nat} (hq : q < j) (hl : j ≤ l.length) : (l.take j).drop q = l.getD q 0 :: (l.take j).drop (q + 1) := by
  have h : q < (l.take j).length := by simp; omega
  rw [List.drop_eq_getElem_cons h]
  congr 1
  have : q < l.length := by omega
  simp [List.getD, this]

theorem horner {X x : Nat} (h : 128 * X + x % 128 < 18446744073709551616) : IntKind.u64.wrap (IntKind.u64.wrap (128 * (X : Int)) + (x : Int) % 128) = ((x % 128 + 128 * X : Nat) : Int) := by
  simp only [IntKind.wrap_u64]
  omega

set_option maxHeartbeats 1000000 in
set_option maxRecDepth 100000 in
theorem refNext_any (a : Option Addr) (n c : Nat) (l : List Nat) (w : World) (h : Rd w a n l) (hn : n ≤ 1000000) :
    Calls Try.prog 63 #[.slice a n c] w fun e w' => e = .returned (.tuple #[.int .u64 (vNum l : Nat), .int .i64 (vLen l : Nat), .int .i64 (vErr l : Nat)]) ∧ w = w' := by
  have HR := Lib.hid h
  clear h
  go_enter Try.func63, Try.ntmps63
  go_wp2
  go_loop [5] (fun i => ∃ j : Nat, j ≤ n ∧ j ≤ 9 ∧ i = .int .i64 (j : Int) ∧ vScan (l.drop j) j = vScan l 0) (fun i => n - (intOf i).toNat)
  case atStart => exact ⟨0, by omega, by omega, rfl, rfl⟩
  case round =>
    obtain ⟨j, hj, hj9, rfl, hs⟩ := hrel
    have HS := Lib.hid hs
    clear hs
    by_cases hlt : j < n
    · obtain ⟨b, o, rfl, hc⟩ := HR.out.2.2 (by omega)
      have hcell := hc j hlt
      obtain ⟨x, hx⟩ : ∃ x, x = l.getD j 0 := ⟨_, rfl⟩
      rw [← hx] at hcell
      have hl : j < l.length := by have := HR.out.1; omega
      have hx256 : x < 256 := by rw [hx]; exact HR.out.2.1 _ (by simp [List.getD, hl])
      have hd : l.drop j = x :: l.drop (j + 1) := by
        rw [List.drop_eq_getElem_cons hl, hx]; simp [List.getD, hl]
      have HXX := Lib.hid hx
      have HD := Lib.hid hd
      have HC := Lib.hid hc
      have HL := Lib.hid hl
      clear hc hx hd hl
      by_cases hbad : vBad j x = true
      · have fin : vErr l = 3 ∧ vLen l = 0 ∧ vNum l = 0 := by
          have e1 : vScan l 0 = (0, 3) := by rw [← HS.out, HD.out, vScan_bad hbad]
          have e2 : vErr l = 3 := by unfold vErr; rw [e1]
          exact ⟨e2, vNum_err (l := l) (by omega)⟩
        have hor : (j = 9 ∧ 1 < x) ∨ (0 < j ∧ x = 0) := by
          simp [vBad] at hbad; omega
        have HF := Lib.hid fin
        clear fin hbad
        rcases hor with ⟨h9, h1⟩ | ⟨h0, hx0⟩
        · subst h9
          have h1' : 1 < (x : Int) := by omega
          go_wp2
          go_ret3
          rw [HF.out.1, HF.out.2.1, HF.out.2.2]
          exact ⟨rfl, rfl⟩
        · subst hx0
          by_cases h9 : j = 9
          · subst h9
            go_wp2
            go_ret3
            rw [HF.out.1, HF.out.2.1, HF.out.2.2]
            exact ⟨rfl, rfl⟩
          · have h9' : ((j : Int) == 9) = false := by simp; omega
            have h0' : 0 < (j : Int) := by omega
            go_wp2
            go_ret3
            rw [HF.out.1, HF.out.2.1, HF.out.2.2]
            exact ⟨rfl, rfl⟩
      · have hbad' : vBad j x = false := by simpa using hbad
        clear hbad
        have HB := Lib.hid hbad'
        by_cases hx128 : x < 128
        · have hx128' : (x : Int) < 128 := by omega
          have fin : vErr l = 0 ∧ vLen l = j + 1 ∧ vNum l = vVal (l.take (j + 1)) := by
            have e1 : vScan l 0 = (j + 1, 0) := by rw [← HS.out, HD.out, vScan_last hbad' hx128]
            have e3 : vLen l = j + 1 := by unfold vLen; rw [e1]
            exact ⟨by unfold vErr; rw [e1], e3, by unfold vNum; rw [e3]⟩
          have hbig := take_lt64 hj9 HL.out (by rw [← HXX.out]; exact hbad')
          have HBig := Lib.hid hbig
          have HF := Lib.hid fin
          have hcase : (((j : Int) == 9) = true ∧ (x : Int) ≤ 1 ∧ 0 < (j : Int) ∧ ((x : Int) == 0) = false) ∨ (((j : Int) == 9) = false ∧ 0 < (j : Int) ∧ ((x : Int) == 0) = false) ∨ (((j : Int) == 9) = false ∧ ((j : Int) ≤ 0)) := by
            simp [vBad] at hbad'
            by_cases h9 : j = 9
            · left; simp; omega
            · right
              by_cases h0 : 0 < j
              · left; simp; omega
              · right; simp; omega
          clear hbad' fin hbig
          rcases hcase with ⟨t1, t2, t3, t4⟩ | ⟨t1, t2, t3⟩ | ⟨t1, t2⟩
          all_goals
            go_wp2
            go_loop [6, 7] (fun y k => ∃ m : Nat, m ≤ j + 1 ∧ k = .int .i64 ((m : Int) - 1) ∧ y = .int .u64 (vVal ((l.take (j + 1)).drop m) : Nat)) (fun _ k => (intOf k + 1).toNat)
            case atStart => exact ⟨j + 1, by omega, by congr 1; omega, by rw [List.drop_eq_nil_of_le (by simp; omega)]; rfl⟩
            case round =>
              obtain ⟨m, hm, rfl, rfl⟩ := hrel
              obtain ⟨X, hX⟩ : ∃ X, X = vVal ((l.take (j + 1)).drop m) := ⟨_, rfl⟩
              rw [← hX]
              have HX := Lib.hid hX
              clear hX
              cases m with
              | zero =>
                rw [show (((0 : Nat) : Int) - 1) = -1 from rfl]
                go_wp2
                go_ret3
                rw [HF.out.1, HF.out.2.1, HF.out.2.2]
                have := HX.out
                simp only [List.drop_zero] at this
                rw [← this]
                exact ⟨rfl, rfl⟩
              | succ q =>
                rw [show (((q + 1 : Nat) : Int) - 1) = (q : Int) from by omega]
                obtain ⟨y, hy⟩ : ∃ y, y = l.getD q 0 := ⟨_, rfl⟩
                have hq := HC.out q (by omega)
                rw [← hy] at hq
                have hy256 : y < 256 := by rw [hy]; exact HR.out.2.1 _ (by have := HL.out; simp [List.getD, show q < l.length by omega])
                have hv : vVal ((l.take (j + 1)).drop q) = y % 128 + 128 * X := by rw [drop_take_step (by omega) (by have := HL.out; omega), ← hy, HX.out]; rfl
                have hbd : 128 * X + y % 128 < 18446744073709551616 := by
                  have h1 := vVal_drop_le (l.take (j + 1)) q
                  have h2 := HBig.out
                  omega
                have HV := Lib.hid hv
                have HBd := Lib.hid hbd
                clear hy hv hbd
                go_wp2
                go_round
                case rel => exact ⟨q, by omega, rfl, by rw [HV.out, horner HBd.out]⟩
                case measure => simp [intOf]
        · have hx128' : 128 ≤ (x : Int) := by omega
          have h9 : j ≠ 9 := by
            rintro rfl
            have := vBad_nine hbad'
            omega
          have t1 : ((j : Int) == 9) = false := by simp; omega
          have hx0 : ((x : Int) == 0) = false := by simp; omega
          clear hbad'
          by_cases h0 : 0 < j
          all_goals
            go_wp2
            go_round
            case rel => exact ⟨j + 1, by omega, by omega, by go_num, by rw [← HS.out, HD.out, vScan_more HB.out hx128]⟩
            case measure => simp [intOf]; omega
    · go_wp2
      go_ret3
      have e1 : vScan l 0 = (0, 2) := by rw [← HS.out, List.drop_eq_nil_of_le (by have := HR.out.1; omega)]; rfl
      have e2 : vErr l = 2 := by unfold vErr; rw [e1]
      have e3 := vNum_err (l := l) (by omega)
      rw [e3.1, e3.2, e2]
      exact ⟨rfl, rfl⟩
end Go.Proofs.Ytcmbnijjkpfhlaa

/- The contract of the document's own reader's Number (revenantref01), over any world. -/
namespace Go.Proofs.Ytcmbnijjkpfhlaa
open Go.RowKit

set_option maxHeartbeats 400000 in
theorem refNumber_any (w : World) (g E : Nat) (l : List Nat) (most : Nat) (h : Rdr w 95 g E l) :
    Calls Try.prog 39 #[.pointer (some ⟨g, 0, none⟩), .int .u64 (most : Int)] w fun e w' => e = .returned (.int .u64 ((rNum E l most).1 : Int)) ∧ Rdr w' 95 g (rNum E l most).2.1 (rNum E l most).2.2 ∧ w.grownBy w' (some g) := by
  have HR := Lib.hid h
  obtain ⟨a, n, c, hg, hr, hc, hm⟩ := h
  have h0 : w.cell? ⟨g, 0, none⟩ = some (.slice a n c) := by rw [cell_of_row w g 0 _ 95 (0, 0) hg]; rfl
  have h1 : w.cell? ⟨g, 1, none⟩ = some (.int .i64 (E : Int)) := by rw [cell_of_row w g 1 _ 95 (0, 0) hg]; rfl
  have f0 : w.frozen? ⟨g, 0, none⟩ = false := by simp [World.frozen?, hg]
  have f1 : w.frozen? ⟨g, 1, none⟩ = false := by simp [World.frozen?, hg]
  have HG := Lib.hid hg
  have HRd := Lib.hid hr
  clear hg hr
  by_cases hE : E = 0
  · subst hE
    have hN := refNext_any a n c l w HRd.out hm
    obtain ⟨e, he⟩ : ∃ e, e = vErr l := ⟨_, rfl⟩
    obtain ⟨K, hK⟩ : ∃ K, K = vLen l := ⟨_, rfl⟩
    obtain ⟨X, hX⟩ : ∃ X, X = vNum l := ⟨_, rfl⟩
    rw [← he, ← hK, ← hX] at hN
    have HN := Lib.hid hN
    have HE := Lib.hid he
    have HK := Lib.hid hK
    have HX := Lib.hid hX
    clear hN he hK hX
    by_cases hz : e = 0
    · subst hz
      have hKn : K ≤ n := by
        have := (vOne HRd.out.2.1 HE.out.symm).2.2.2.1
        have h2 := HRd.out.1
        have h3 := HK.out
        omega
      have hs := fun W => slice_from a n c K .i64 hKn W
      by_cases hlong : most < X
      · have hlong' : (most : Int) < (X : Int) := by omega
        go_enter Try.func39, Try.ntmps39
        go_wp2_with fail
        refine HN.out.mono ?_
        rintro e w' ⟨rfl, rfl⟩
        go_wp2
        go_ret
        rw [rNum_long HE.out.symm (by rw [← HX.out]; exact hlong)]
        exact ⟨rfl, Rdr.fail 5 HG.out HRd.out hc hm, grown_set _ _ _ _⟩
      · have hlong' : (X : Int) ≤ (most : Int) := by omega
        go_enter Try.func39, Try.ntmps39
        go_wp2_with fail
        refine HN.out.mono ?_
        rintro e w' ⟨rfl, rfl⟩
        go_wp2
        go_ret
        rw [rNum_ok HE.out.symm (by rw [← HX.out]; exact hlong), ← HX.out, ← HK.out]
        exact ⟨rfl, Rdr.move hKn HG.out HRd.out hc hm, grown_set _ _ _ _⟩
    · have hz1 : ((e : Int) == 0) = false := by simp; omega
      have hz2 : ((e : Int) != 0) = true := by simp; omega
      go_enter Try.func39, Try.ntmps39
      go_wp2_with fail
      refine HN.out.mono ?_
      rintro e w' ⟨rfl, rfl⟩
      go_wp2
      go_ret
      rw [rNum_err (by rw [← HE.out]; exact hz), ← HE.out]
      exact ⟨rfl, Rdr.fail _ HG.out HRd.out hc hm, grown_set _ _ _ _⟩
  · have hE' : ((E : Int) != 0) = true := by simp; omega
    go_enter Try.func39, Try.ntmps39
    go_wp2
    go_ret
    rw [rNum_failed hE]
    exact ⟨rfl, HR.out, World.grownBy.refl _ _⟩

end Go.Proofs.Ytcmbnijjkpfhlaa

/- The contract of the document's own Bytes, over any world. -/
namespace Go.Proofs.Ytcmbnijjkpfhlaa
open Go.RowKit

set_option maxHeartbeats 400000 in
theorem refRdrBytes_any (w : World) (g E : Nat) (l : List Nat) (m : Int) (most : Nat) (hm : m = most ∨ (m < 0 ∧ most = 0)) (hm2 : most ≤ 1000000) (h : Rdr w 95 g E l) :
    Calls Try.prog 38 #[.pointer (some ⟨g, 0, none⟩), .int .i64 m] w fun e w' => ∃ a n c, e = .returned (.slice a n c) ∧ n ≤ c ∧ Rd w' a n (rByt E l most).1 ∧ Rdr w' 95 g (rByt E l most).2.1 (rByt E l most).2.2 ∧ w.grownBy w' (some g) := by
  have hN := refNumber_any w g E l most h
  have hle := rNum_le E l most
  obtain ⟨⟨k, E1, l1⟩, hk⟩ : ∃ k, k = rNum E l most := ⟨_, rfl⟩
  rw [← hk] at hN hle
  dsimp only at hN hle
  have HN : Hid (∀ x : Int, x = most → Calls Try.prog 39 #[.pointer (some ⟨g, 0, none⟩), .int .u64 x] w fun e w' => e = .returned (.int .u64 (k : Int)) ∧ Rdr w' 95 g E1 l1 ∧ w.grownBy w' (some g)) := by
    intro x hx
    rw [hx]; exact hN
  have HK := Lib.hid hk.symm
  clear hN hk h
  have hk6 : k ≤ 1000000 := by omega
  clear hle
  rcases hm with rfl | ⟨hneg, rfl⟩
  all_goals
    go_enter Try.func38, Try.ntmps38
    go_wp2_with fail
    refine (HN.out _ (by omega)).mono ?_
    rintro e w1 ⟨rfl, hr1, hg1⟩
    have HR := Lib.hid hr1
    obtain ⟨a, n, c, hg, hr, hc, hmx⟩ := hr1
    have h0 : w1.cell? ⟨g, 0, none⟩ = some (.slice a n c) := by rw [cell_of_row w1 g 0 _ 95 (0, 0) hg]; rfl
    have h1 : w1.cell? ⟨g, 1, none⟩ = some (.int .i64 (E1 : Int)) := by rw [cell_of_row w1 g 1 _ 95 (0, 0) hg]; rfl
    have f0 : w1.frozen? ⟨g, 0, none⟩ = false := by simp [World.frozen?, hg]
    have f1 : w1.frozen? ⟨g, 1, none⟩ = false := by simp [World.frozen?, hg]
    have HG := Lib.hid hg
    have HRd := Lib.hid hr
    have HL := Lib.hid hr.1
    clear hg hr
    by_cases hE : E1 = 0
    · subst hE
      by_cases hk : n < k
      · have hk' : (n : Int) < (k : Int) := by omega
        have HB := Lib.hid (rByt_cut HK.out (by have := HL.out; omega))
        go_wp2
        go_ret
        rw [HB.out]
        exact ⟨_, _, _, rfl, by omega, ⟨rfl, by simp, by omega⟩, Rdr.fail 2 HG.out HRd.out hc hmx, hg1.trans (grown_set _ _ _ _)⟩
      · have hk' : (k : Int) ≤ (n : Int) := by omega
        have HB := Lib.hid (rByt_ok HK.out (by have := HL.out; omega))
        have hs := fun W => slice_from a n c k .i64 (by omega) W
        have hs2 := fun W => slice_to a n c k .i64 (by omega) W
        go_wp2
        go_ret
        rw [HB.out]
        exact ⟨_, _, _, rfl, by omega, (HRd.out.first (by omega)).beside HG.out (grown_set _ _ _ _), Rdr.move (E := 0) (by omega) HG.out HRd.out hc hmx, hg1.trans (grown_set _ _ _ _)⟩
    · have hE' : ((E1 : Int) != 0) = true := by simp; omega
      have hE2 : ((E1 : Int) == 0) = false := by simp; omega
      have HB := Lib.hid (rByt_err HK.out hE)
      go_wp2
      go_ret
      rw [HB.out]
      exact ⟨_, _, _, rfl, by omega, ⟨rfl, by simp, by omega⟩, HR.out, hg1⟩
end Go.Proofs.Ytcmbnijjkpfhlaa

/- The contract of the document's own reader's Number where the reader lies below a block, over any world. -/
namespace Go.Proofs.Ytcmbnijjkpfhlaa
open Go.RowKit

set_option maxHeartbeats 400000 in
theorem refNumberHi_any (w : World) (g E : Nat) (l : List Nat) (most : Nat) (B : Nat) (h : RdrHi w 95 g E l B) :
    Calls Try.prog 39 #[.pointer (some ⟨g, 0, none⟩), .int .u64 (most : Int)] w fun e w' => e = .returned (.int .u64 ((rNum E l most).1 : Int)) ∧ RdrHi w' 95 g (rNum E l most).2.1 (rNum E l most).2.2 B ∧ w.grownBy w' (some g) := by
  have HR := Lib.hid h
  obtain ⟨a, n, c, hg, hr, hc, hm, hgB, hbB⟩ := h
  have HHi := Lib.hid (And.intro hgB hbB)
  have h0 : w.cell? ⟨g, 0, none⟩ = some (.slice a n c) := by rw [cell_of_row w g 0 _ 95 (0, 0) hg]; rfl
  have h1 : w.cell? ⟨g, 1, none⟩ = some (.int .i64 (E : Int)) := by rw [cell_of_row w g 1 _ 95 (0, 0) hg]; rfl
  have f0 : w.frozen? ⟨g, 0, none⟩ = false := by simp [World.frozen?, hg]
  have f1 : w.frozen? ⟨g, 1, none⟩ = false := by simp [World.frozen?, hg]
  have HG := Lib.hid hg
  have HRd := Lib.hid hr
  clear hg hr hgB hbB
  by_cases hE : E = 0
  · subst hE
    have hN := refNext_any a n c l w HRd.out hm
    obtain ⟨e, he⟩ : ∃ e, e = vErr l := ⟨_, rfl⟩
    obtain ⟨K, hK⟩ : ∃ K, K = vLen l := ⟨_, rfl⟩
    obtain ⟨X, hX⟩ : ∃ X, X = vNum l := ⟨_, rfl⟩
    rw [← he, ← hK, ← hX] at hN
    have HN := Lib.hid hN
    have HE := Lib.hid he
    have HK := Lib.hid hK
    have HX := Lib.hid hX
    clear hN he hK hX
    by_cases hz : e = 0
    · subst hz
      have hKn : K ≤ n := by
        have := (vOne HRd.out.2.1 HE.out.symm).2.2.2.1
        have h2 := HRd.out.1
        have h3 := HK.out
        omega
      have hs := fun W => slice_from a n c K .i64 hKn W
      by_cases hlong : most < X
      · have hlong' : (most : Int) < (X : Int) := by omega
        go_enter Try.func39, Try.ntmps39
        go_wp2_with fail
        refine HN.out.mono ?_
        rintro e w' ⟨rfl, rfl⟩
        go_wp2
        go_ret
        rw [rNum_long HE.out.symm (by rw [← HX.out]; exact hlong)]
        exact ⟨rfl, RdrHi.fail 5 HG.out HRd.out hc hm HHi.out, grown_set _ _ _ _⟩
      · have hlong' : (X : Int) ≤ (most : Int) := by omega
        go_enter Try.func39, Try.ntmps39
        go_wp2_with fail
        refine HN.out.mono ?_
        rintro e w' ⟨rfl, rfl⟩
        go_wp2
        go_ret
        rw [rNum_ok HE.out.symm (by rw [← HX.out]; exact hlong), ← HX.out, ← HK.out]
        exact ⟨rfl, RdrHi.move hKn HG.out HRd.out hc hm HHi.out, grown_set _ _ _ _⟩
    · have hz1 : ((e : Int) == 0) = false := by simp; omega
      have hz2 : ((e : Int) != 0) = true := by simp; omega
      go_enter Try.func39, Try.ntmps39
      go_wp2_with fail
      refine HN.out.mono ?_
      rintro e w' ⟨rfl, rfl⟩
      go_wp2
      go_ret
      rw [rNum_err (by rw [← HE.out]; exact hz), ← HE.out]
      exact ⟨rfl, RdrHi.fail _ HG.out HRd.out hc hm HHi.out, grown_set _ _ _ _⟩
  · have hE' : ((E : Int) != 0) = true := by simp; omega
    go_enter Try.func39, Try.ntmps39
    go_wp2
    go_ret
    rw [rNum_failed hE]
    exact ⟨rfl, HR.out, World.grownBy.refl _ _⟩

end Go.Proofs.Ytcmbnijjkpfhlaa
