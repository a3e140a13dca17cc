/- The contract of varint.Next, over any world. -/
import Derived.Test.YtkfnjekeegebaaaMem
import Derived.Test.YtkfnjekeegebaaaMath
import Derived.Laws.BitsAllLaws
namespace Go.Proofs.Ytkfnjekeegebaaa
open Go.RowKit

set_option maxHeartbeats 400000 in
theorem allowed_any (i c : Nat) (w : World) (hi : i ≤ 9) (hc : c < 256) :
    Calls Try.prog 61 #[.int .i64 (i : Int), .int .u8 (c : Int)] w fun e w' => e = .returned (.bool (!vBad i c)) ∧ w = w' := by
  go_enter Try.func61, Try.ntmps61
  go_wp2
  · have h1 : (i : Int) = 9 := by assumption
    have h2 : 1 < (c : Int) := by assumption
    go_ret
    exact ⟨ret_bool (by have : i = 9 := by omega
                        subst this; simp [vBad]; omega), rfl⟩
  · have h1 : (i : Int) = 9 := by assumption
    have h2 : (c : Int) ≤ 1 := by assumption
    go_ret
    exact ⟨ret_bool (by have : i = 9 := by omega
                        subst this
                        have : c = 0 ∨ c = 1 := by omega
                        rcases this with rfl | rfl <;> rfl), rfl⟩
  · have h1 : i = 0 := by assumption
    subst h1
    go_ret
    exact ⟨ret_bool (by simp [vBad]), rfl⟩
  · have h1 : ¬ (i : Int) = 9 := by assumption
    have h2 : ¬ i = 0 := by assumption
    go_ret
    exact ⟨ret_bool (by
      have e1 : ((i : Int) == 0) = false := by simp; omega
      have e2 : (i == 9) = false := by simp; omega
      have e3 : decide (0 < i) = true := by simp; omega
      rw [e1]; unfold vBad; rw [e2, e3]
      by_cases h : c = 0
      · subst h; rfl
      · have : ((c : Int) != 0) = true := by simp; omega
        rw [this]
        have : (c == 0) = false := by simpa using h
        rw [this]; rfl), rfl⟩

theorem pow_128 (j : Nat) : (2 : Nat) ^ (7 * j) = 128 ^ j := by rw [Nat.pow_mul]

/-- A digit is laid above the others. -/
theorem or_digit {X x j : Nat} (hX : X < 128 ^ j) (hf : x % 128 * 128 ^ j < 18446744073709551616) (hj : j ≤ 9) :
    bits .or .u64 (X : Int) (IntKind.u64.wrap ((x : Int) % 128 * 2 ^ (7 * j))) = ((X + 128 ^ j * (x % 128) : Nat) : Int) := by
  have e : ((x : Int) % 128 * 2 ^ (7 * j)) = ((x % 128 * 128 ^ j : Nat) : Int) := by
    rw [← pow_128]
    simp
  have hX' : X < 18446744073709551616 := Nat.lt_of_lt_of_le hX (Nat.le_trans (Nat.pow_le_pow_right (by omega) hj) (by omega))
  rw [e, IntKind.wrap_u64, Int.emod_eq_of_lt (by omega) (by omega), u64_or_nat X _ hX' hf]
  have := nat_join (7 * j) (x % 128 * 128 ^ j) X (by rw [pow_128]; exact Nat.mul_mod_left _ _) (by rw [pow_128]; exact hX)
  rw [Nat.or_comm, this, Nat.mul_comm, Nat.add_comm]

theorem digit_fits {x j : Nat} (hj : j ≤ 9) (hx : j = 9 → x = 1) : x % 128 * 128 ^ j < 18446744073709551616 := by
  by_cases h9 : j = 9
  · have := hx h9
    subst h9
    subst this
    omega
  · have h1 : 128 ^ j ≤ 128 ^ 8 := Nat.pow_le_pow_right (by omega) (by omega)
    have h2 : x % 128 ≤ 127 := by omega
    have := Nat.mul_le_mul h2 h1
    omega

theorem vVal_take_succ {l : List Nat} {j x : Nat} (hl : j < l.length) (hx : x = l.getD j 0) : vVal (l.take (j + 1)) = vVal (l.take j) + 128 ^ j * (x % 128) := by
  rw [List.take_succ_eq_append_getElem hl, vVal_snoc, hx]
  have e : (l.take j).length = j := by simp; omega
  rw [e]; simp [List.getD, hl]

theorem vVal_take_lt (l : List Nat) (j : Nat) : vVal (l.take j) < 128 ^ j :=
  Nat.lt_of_lt_of_le (vVal_lt _) (Nat.pow_le_pow_right (by omega) (List.length_take_le _ _))

set_option maxHeartbeats 400000 in
set_option maxRecDepth 100000 in
theorem next_any (a : Option Addr) (n c : Nat) (l : List Nat) (w : World) (h : Rd w a n l) (hn : n ≤ 1000000) :
    Calls Try.prog 58 #[.slice a n c] w fun e w' => e = .returned (.tuple #[.int .u64 (vNum l : Nat), .int .i64 (vLen l : Nat), .int .i64 (vErr l : Nat)]) ∧ w = w' := by
  have HR := Lib.hid h
  clear h
  go_enter Try.func58, Try.ntmps58
  go_wp2
  go_loop [5, 10] (fun x i => ∃ j : Nat, j ≤ n ∧ j ≤ 9 ∧ i = .int .i64 (j : Int) ∧ x = .int .u64 (vVal (l.take j) : Nat) ∧ vScan (l.drop j) j = vScan l 0) (fun _ i => n - (intOf i).toNat)
  case atStart => exact ⟨0, by omega, by omega, rfl, rfl, rfl⟩
  case round =>
    obtain ⟨j, hj, hj9, rfl, rfl, hs⟩ := hrel
    have HS := Lib.hid hs
    clear hs
    obtain ⟨X, hX⟩ : ∃ X, X = vVal (l.take j) := ⟨_, rfl⟩
    rw [← hX]
    have HX := Lib.hid hX
    clear hX
    by_cases hlt : j < n
    · obtain ⟨b, o, rfl, hc⟩ := HR.out.2.2 (by omega)
      have hcell := hc j hlt
      obtain ⟨x, hx⟩ : ∃ x, x = l.getD j 0 := ⟨_, rfl⟩
      rw [← hx] at hcell
      have hx256 : x < 256 := by rw [hx]; exact HR.out.2.1 _ (by have := HR.out.1; simp [List.getD, show j < l.length by omega])
      have hd : l.drop j = x :: l.drop (j + 1) := by
        have hl : j < l.length := by have := HR.out.1; omega
        rw [List.drop_eq_getElem_cons hl, hx]; simp [List.getD, hl]
      have HXX := Lib.hid hx
      have HD := Lib.hid hd
      clear hc hx hd
      by_cases hbad : vBad j x = true
      · go_wp2_with fail
        refine (allowed_any j x _ hj9 hx256).mono ?_
        rintro e w' ⟨rfl, rfl⟩
        go_wp2
        go_ret3
        have e1 : vScan l 0 = (0, 3) := by rw [← HS.out, HD.out, vScan_bad hbad]
        have e2 : vErr l = 3 := by unfold vErr; rw [e1]
        have e3 := vNum_err (l := l) (by omega)
        rw [e3.1, e3.2, e2]
        exact ⟨rfl, rfl⟩
      · have hbad' : vBad j x = false := by simpa using hbad
        clear hbad
        by_cases hx128 : x < 128
        · have hx128' : (x : Int) < 128 := by omega
          go_wp2_with fail
          refine (allowed_any j x _ hj9 hx256).mono ?_
          rintro e w' ⟨rfl, rfl⟩
          go_wp2
          go_ret3
          have hl : j < l.length := by have := HR.out.1; omega
          have e1 : vScan l 0 = (j + 1, 0) := by rw [← HS.out, HD.out, vScan_last hbad' hx128]
          have e2 : vErr l = 0 := by unfold vErr; rw [e1]
          have e3 : vLen l = j + 1 := by unfold vLen; rw [e1]
          have e4 : vNum l = X + 128 ^ j * (x % 128) := by unfold vNum; rw [e3, vVal_take_succ hl HXX.out, ← HX.out]
          have e5 := or_digit (X := X) (x := x) (j := j) (by rw [HX.out]; exact vVal_take_lt l j) (digit_fits hj9 (by rintro rfl; exact vBad_nine hbad')) hj9
          rw [e2, e3, e4, ← e5]
          exact ⟨rfl, rfl⟩
        · have hx128' : 128 ≤ (x : Int) := by omega
          go_wp2_with fail
          refine (allowed_any j x _ hj9 hx256).mono ?_
          rintro e w' ⟨rfl, rfl⟩
          go_wp2
          have h9 : j ≠ 9 := by
            rintro rfl
            have := vBad_nine hbad'
            omega
          have hl : j < l.length := by have := HR.out.1; omega
          go_round
          case rel => exact ⟨j + 1, by omega, by omega, by go_num, by
            rw [or_digit (X := X) (x := x) (j := j) (by rw [HX.out]; exact vVal_take_lt l j) (digit_fits hj9 (by omega)) hj9, vVal_take_succ hl HXX.out, ← HX.out], by
            rw [← HS.out, HD.out, vScan_more hbad' hx128]⟩
          case measure => simp [intOf]; omega
    · go_wp2
      go_ret3
      have e1 : vScan l 0 = (0, 2) := by rw [← HS.out, List.drop_eq_nil_of_le (by have := HR.out.1; omega)]; rfl
      have e2 : vErr l = 2 := by unfold vErr; rw [e1]
      have e3 := vNum_err (l := l) (by omega)
      rw [e3.1, e3.2, e2]
      exact ⟨rfl, rfl⟩

end Go.Proofs.Ytkfnjekeegebaaa
