/- The contract of the document's own 'Next' (revenantref01), over any world. -/
import Derived.Test.YtkfnjekeegebaaaVNext
namespace Go.Proofs.Ytkfnjekeegebaaa
open Go.RowKit

theorem take_lt64 {l : List Nat} {j : Nat} (hj : j ≤ 9) (hl : j < l.length) (hbad : vBad j (l.getD j 0) = false) : vVal (l.take (j + 1)) < 18446744073709551616 := by
  rw [vVal_take_succ hl rfl]
  have h1 := vVal_take_lt l j
  by_cases h9 : j = 9
  · subst h9
    rw [vBad_nine hbad]
    omega
  · have h2 : 128 ^ j ≤ 128 ^ 8 := Nat.pow_le_pow_right (by omega) (by omega)
    have h3 : l.getD j 0 % 128 ≤ 127 := by omega
    have := Nat.mul_le_mul h2 h3
    omega

theorem drop_take_step {l : List Nat} {j q : Nat} (hq : q < j) (hl : j ≤ l.length) : (l.take j).drop q = l.getD q 0 :: (l.take j).drop (q + 1) := by
  have h : q < (l.take j).length := by simp; omega
  rw [List.drop_eq_getElem_cons h]
  congr 1
  have : q < l.length := by omega
  simp [List.getD, this]

theorem horner {X x : Nat} (h : 128 * X + x % 128 < 18446744073709551616) : IntKind.u64.wrap (IntKind.u64.wrap (128 * (X : Int)) + (x : Int) % 128) = ((x % 128 + 128 * X : Nat) : Int) := by
  simp only [IntKind.wrap_u64]
  omega

set_option maxHeartbeats 1000000 in
set_option maxRecDepth 100000 in
theorem refNext_any (a : Option Addr) (n c : Nat) (l : List Nat) (w : World) (h : Rd w a n l) (hn : n ≤ 1000000) :
    Calls Try.prog 40 #[.slice a n c] w fun e w' => e = .returned (.tuple #[.int .u64 (vNum l : Nat), .int .i64 (vLen l : Nat), .int .i64 (vErr l : Nat)]) ∧ w = w' := by
  have HR := Lib.hid h
  clear h
  go_enter Try.func40, Try.ntmps40
  go_wp2
  go_loop [5] (fun i => ∃ j : Nat, j ≤ n ∧ j ≤ 9 ∧ i = .int .i64 (j : Int) ∧ vScan (l.drop j) j = vScan l 0) (fun i => n - (intOf i).toNat)
  case atStart => exact ⟨0, by omega, by omega, rfl, rfl⟩
  case round =>
    obtain ⟨j, hj, hj9, rfl, hs⟩ := hrel
    have HS := Lib.hid hs
    clear hs
    by_cases hlt : j < n
    · obtain ⟨b, o, rfl, hc⟩ := HR.out.2.2 (by omega)
      have hcell := hc j hlt
      obtain ⟨x, hx⟩ : ∃ x, x = l.getD j 0 := ⟨_, rfl⟩
      rw [← hx] at hcell
      have hl : j < l.length := by have := HR.out.1; omega
      have hx256 : x < 256 := by rw [hx]; exact HR.out.2.1 _ (by simp [List.getD, hl])
      have hd : l.drop j = x :: l.drop (j + 1) := by
        rw [List.drop_eq_getElem_cons hl, hx]; simp [List.getD, hl]
      have HXX := Lib.hid hx
      have HD := Lib.hid hd
      have HC := Lib.hid hc
      have HL := Lib.hid hl
      clear hc hx hd hl
      by_cases hbad : vBad j x = true
      · have fin : vErr l = 3 ∧ vLen l = 0 ∧ vNum l = 0 := by
          have e1 : vScan l 0 = (0, 3) := by rw [← HS.out, HD.out, vScan_bad hbad]
          have e2 : vErr l = 3 := by unfold vErr; rw [e1]
          exact ⟨e2, vNum_err (l := l) (by omega)⟩
        have hor : (j = 9 ∧ 1 < x) ∨ (0 < j ∧ x = 0) := by
          simp [vBad] at hbad; omega
        have HF := Lib.hid fin
        clear fin hbad
        rcases hor with ⟨h9, h1⟩ | ⟨h0, hx0⟩
        · subst h9
          have h1' : 1 < (x : Int) := by omega
          go_wp2
          go_ret3
          rw [HF.out.1, HF.out.2.1, HF.out.2.2]
          exact ⟨rfl, rfl⟩
        · subst hx0
          by_cases h9 : j = 9
          · subst h9
            go_wp2
            go_ret3
            rw [HF.out.1, HF.out.2.1, HF.out.2.2]
            exact ⟨rfl, rfl⟩
          · have h9' : ((j : Int) == 9) = false := by simp; omega
            have h0' : 0 < (j : Int) := by omega
            go_wp2
            go_ret3
            rw [HF.out.1, HF.out.2.1, HF.out.2.2]
            exact ⟨rfl, rfl⟩
      · have hbad' : vBad j x = false := by simpa using hbad
        clear hbad
        have HB := Lib.hid hbad'
        by_cases hx128 : x < 128
        · have hx128' : (x : Int) < 128 := by omega
          have fin : vErr l = 0 ∧ vLen l = j + 1 ∧ vNum l = vVal (l.take (j + 1)) := by
            have e1 : vScan l 0 = (j + 1, 0) := by rw [← HS.out, HD.out, vScan_last hbad' hx128]
            have e3 : vLen l = j + 1 := by unfold vLen; rw [e1]
            exact ⟨by unfold vErr; rw [e1], e3, by unfold vNum; rw [e3]⟩
          have hbig := take_lt64 hj9 HL.out (by rw [← HXX.out]; exact hbad')
          have HBig := Lib.hid hbig
          have HF := Lib.hid fin
          have hcase : (((j : Int) == 9) = true ∧ (x : Int) ≤ 1 ∧ 0 < (j : Int) ∧ ((x : Int) == 0) = false) ∨ (((j : Int) == 9) = false ∧ 0 < (j : Int) ∧ ((x : Int) == 0) = false) ∨ (((j : Int) == 9) = false ∧ ((j : Int) ≤ 0)) := by
            simp [vBad] at hbad'
            by_cases h9 : j = 9
            · left; simp; omega
            · right
              by_cases h0 : 0 < j
              · left; simp; omega
              · right; simp; omega
          clear hbad' fin hbig
          rcases hcase with ⟨t1, t2, t3, t4⟩ | ⟨t1, t2, t3⟩ | ⟨t1, t2⟩
          all_goals
            go_wp2
            go_loop [6, 7] (fun y k => ∃ m : Nat, m ≤ j + 1 ∧ k = .int .i64 ((m : Int) - 1) ∧ y = .int .u64 (vVal ((l.take (j + 1)).drop m) : Nat)) (fun _ k => (intOf k + 1).toNat)
            case atStart => exact ⟨j + 1, by omega, by congr 1; omega, by rw [List.drop_eq_nil_of_le (by simp; omega)]; rfl⟩
            case round =>
              obtain ⟨m, hm, rfl, rfl⟩ := hrel
              obtain ⟨X, hX⟩ : ∃ X, X = vVal ((l.take (j + 1)).drop m) := ⟨_, rfl⟩
              rw [← hX]
              have HX := Lib.hid hX
              clear hX
              cases m with
              | zero =>
                rw [show (((0 : Nat) : Int) - 1) = -1 from rfl]
                go_wp2
                go_ret3
                rw [HF.out.1, HF.out.2.1, HF.out.2.2]
                have := HX.out
                simp only [List.drop_zero] at this
                rw [← this]
                exact ⟨rfl, rfl⟩
              | succ q =>
                rw [show (((q + 1 : Nat) : Int) - 1) = (q : Int) from by omega]
                obtain ⟨y, hy⟩ : ∃ y, y = l.getD q 0 := ⟨_, rfl⟩
                have hq := HC.out q (by omega)
                rw [← hy] at hq
                have hy256 : y < 256 := by rw [hy]; exact HR.out.2.1 _ (by have := HL.out; simp [List.getD, show q < l.length by omega])
                have hv : vVal ((l.take (j + 1)).drop q) = y % 128 + 128 * X := by rw [drop_take_step (by omega) (by have := HL.out; omega), ← hy, HX.out]; rfl
                have hbd : 128 * X + y % 128 < 18446744073709551616 := by
                  have h1 := vVal_drop_le (l.take (j + 1)) q
                  have h2 := HBig.out
                  omega
                have HV := Lib.hid hv
                have HBd := Lib.hid hbd
                clear hy hv hbd
                go_wp2
                go_round
                case rel => exact ⟨q, by omega, rfl, by rw [HV.out, horner HBd.out]⟩
                case measure => simp [intOf]
        · have hx128' : 128 ≤ (x : Int) := by omega
          have h9 : j ≠ 9 := by
            rintro rfl
            have := vBad_nine hbad'
            omega
          have t1 : ((j : Int) == 9) = false := by simp; omega
          have hx0 : ((x : Int) == 0) = false := by simp; omega
          clear hbad'
          by_cases h0 : 0 < j
          all_goals
            go_wp2
            go_round
            case rel => exact ⟨j + 1, by omega, by omega, by go_num, by rw [← HS.out, HD.out, vScan_more HB.out hx128]⟩
            case measure => simp [intOf]; omega
    · go_wp2
      go_ret3
      have e1 : vScan l 0 = (0, 2) := by rw [← HS.out, List.drop_eq_nil_of_le (by have := HR.out.1; omega)]; rfl
      have e2 : vErr l = 2 := by unfold vErr; rw [e1]
      have e3 := vNum_err (l := l) (by omega)
      rw [e3.1, e3.2, e2]
      exact ⟨rfl, rfl⟩
end Go.Proofs.Ytkfnjekeegebaaa
