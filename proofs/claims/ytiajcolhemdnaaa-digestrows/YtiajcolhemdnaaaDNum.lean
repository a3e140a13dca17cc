/- The contracts of digest's own arithmetic (plus, times, minus, power, moved) and of bits.Mul64, over any world. -/
import Derived.Test.YtiajcolhemdnaaaMem
import Derived.Test.YtiajcolhemdnaaaDMath
import Derived.Laws.BitsAllLaws
import Derived.Deep.QuietTactic
import Derived.BigQuiet
namespace Go.Proofs.Ytiajcolhemdnaaa
open Go.RowKit

theorem wrap64_nat {n : Nat} (h : n < 18446744073709551616) : IntKind.u64.wrap (n : Int) = (n : Int) := by
  rw [IntKind.wrap_u64]; omega

theorem and32 {n : Nat} (h : n < 18446744073709551616) : bits .and .u64 (n : Int) 4294967295 = ((n % 4294967296 : Nat) : Int) := by
  have := u64_and_nat n 4294967295 h (by omega)
  rw [show (4294967295 : Nat) = 2 ^ 32 - 1 from rfl, Nat.and_two_pow_sub_one_eq_mod] at this
  exact this

theorem hi_eq (a b : Nat) (ha : a < 18446744073709551616) (hb : b < 18446744073709551616) :
    (IntKind.u64.wrap (IntKind.u64.wrap (IntKind.u64.wrap ((a : Int) / 4294967296 * ((b : Int) / 4294967296)) +
      IntKind.u64.wrap (IntKind.u64.wrap ((a : Int) / 4294967296 * bits BinOp.and IntKind.u64 (b : Int) 4294967295) + IntKind.u64.wrap (bits BinOp.and IntKind.u64 (a : Int) 4294967295 * bits BinOp.and IntKind.u64 (b : Int) 4294967295) / 4294967296) / 4294967296) +
      IntKind.u64.wrap (bits BinOp.and IntKind.u64 (IntKind.u64.wrap (IntKind.u64.wrap ((a : Int) / 4294967296 * bits BinOp.and IntKind.u64 (b : Int) 4294967295) + IntKind.u64.wrap (bits BinOp.and IntKind.u64 (a : Int) 4294967295 * bits BinOp.and IntKind.u64 (b : Int) 4294967295) / 4294967296)) 4294967295 +
        IntKind.u64.wrap (bits BinOp.and IntKind.u64 (a : Int) 4294967295 * ((b : Int) / 4294967296))) / 4294967296)) = ((a * b / 18446744073709551616 : Nat) : Int) := by
  rw [and32 ha, and32 hb]
  obtain ⟨a1, ha1⟩ : ∃ a1, a1 = a / 4294967296 := ⟨_, rfl⟩
  obtain ⟨b1, hb1⟩ : ∃ b1, b1 = b / 4294967296 := ⟨_, rfl⟩
  obtain ⟨a0, ha0⟩ : ∃ a0, a0 = a % 4294967296 := ⟨_, rfl⟩
  obtain ⟨b0, hb0⟩ : ∃ b0, b0 = b % 4294967296 := ⟨_, rfl⟩
  have e1 : (a : Int) / 4294967296 = (a1 : Int) := by omega
  have e2 : (b : Int) / 4294967296 = (b1 : Int) := by omega
  rw [e1, e2, ← ha0, ← hb0]
  have ea : a = a1 * 4294967296 + a0 := by omega
  have eb : b = b1 * 4294967296 + b0 := by omega
  have h := mul_halves a0 a1 b0 b1
  rw [← ea, ← eb] at h
  have l1 : a1 < 4294967296 := by omega
  have l2 : b1 < 4294967296 := by omega
  have l3 : a0 < 4294967296 := by omega
  have l4 : b0 < 4294967296 := by omega
  have m11 := mul_lt32 l1 l2
  have m10 := mul_lt32 l1 l4
  have m01 := mul_lt32 l3 l2
  have m00 := mul_lt32 l3 l4
  have hall : a * b / 18446744073709551616 < 18446744073709551616 := by
    have := Nat.mul_lt_mul'' ha hb
    exact Nat.div_lt_of_lt_mul this
  rw [← h] at hall ⊢
  simp only [← Int.natCast_mul]
  generalize a1 * b1 = p11 at *
  generalize a1 * b0 = p10 at *
  generalize a0 * b1 = p01 at *
  generalize a0 * b0 = p00 at *
  clear h ea eb e1 e2 ha1 hb1 ha0 hb0 ha hb
  rw [wrap64_nat (show p11 < 18446744073709551616 by omega), wrap64_nat (show p10 < 18446744073709551616 by omega), wrap64_nat (show p01 < 18446744073709551616 by omega), wrap64_nat (show p00 < 18446744073709551616 by omega)]
  have f1 : (p10 : Int) + (p00 : Int) / 4294967296 = ((p10 + p00 / 4294967296 : Nat) : Int) := by omega
  rw [f1]
  have f2 : p10 + p00 / 4294967296 < 18446744073709551616 := by omega
  generalize p10 + p00 / 4294967296 = t at *
  rw [wrap64_nat f2, and32 f2]
  have f3 : ((t % 4294967296 : Nat) : Int) + (p01 : Int) = ((t % 4294967296 + p01 : Nat) : Int) := by omega
  rw [f3]
  have f4 : t % 4294967296 + p01 < 18446744073709551616 := by omega
  generalize t % 4294967296 + p01 = u at *
  rw [wrap64_nat f4]
  have f5 : (p11 : Int) + (t : Int) / 4294967296 = ((p11 + t / 4294967296 : Nat) : Int) := by omega
  rw [f5, wrap64_nat (by omega)]
  have f6 : ((p11 + t / 4294967296 : Nat) : Int) + (u : Int) / 4294967296 = ((p11 + t / 4294967296 + u / 4294967296 : Nat) : Int) := by omega
  rw [f6, wrap64_nat hall]

theorem lo_eq (a b : Nat) : IntKind.u64.wrap ((a : Int) * (b : Int)) = ((a * b % 18446744073709551616 : Nat) : Int) := by
  rw [IntKind.wrap_u64, ← Int.natCast_mul]; omega

set_option maxHeartbeats 400000 in
set_option maxRecDepth 100000 in
theorem mul64_any (a b : Nat) (w : World) (ha : a < 18446744073709551616) (hb : b < 18446744073709551616) :
    Calls Try.prog 16 #[.int .u64 (a : Int), .int .u64 (b : Int)] w fun e w' => e = .returned (.tuple #[.int .u64 ((a * b / 18446744073709551616 : Nat) : Int), .int .u64 ((a * b % 18446744073709551616 : Nat) : Int)]) ∧ w' = w := by
  go_enter Try.func16, Try.ntmps16
  go_wp2
  go_ret2
  rw [← hi_eq a b ha hb, ← lo_eq a b]
  exact ⟨rfl, rfl⟩

theorem or_add8 (h l : Nat) (hl : l < 8) : h * 8 ||| l = h * 8 + l := by
  have := Nat.two_pow_add_eq_or_of_lt (i := 3) (b := l) (by omega) h
  rw [Nat.mul_comm h 8]
  exact this.symm

theorem fold_or {x : Nat} (hx : x / 2305843009213693952 < 2305843009213693951) :
    bits .or .u64 (IntKind.u64.wrap (((x / 18446744073709551616 : Nat) : Int) * 8)) (((x % 18446744073709551616 : Nat) : Int) / 2305843009213693952) = ((x / 2305843009213693952 : Nat) : Int) := by
  have e1 : IntKind.u64.wrap (((x / 18446744073709551616 : Nat) : Int) * 8) = ((x / 18446744073709551616 * 8 : Nat) : Int) := by rw [IntKind.wrap_u64]; omega
  have e2 : ((x % 18446744073709551616 : Nat) : Int) / 2305843009213693952 = ((x % 18446744073709551616 / 2305843009213693952 : Nat) : Int) := by omega
  rw [e1, e2, u64_or_nat _ _ (by omega) (by omega), or_add8 _ _ (by omega)]
  congr 1; omega

theorem and61 {n : Nat} (h : n < 18446744073709551616) : bits .and .u64 (n : Int) 2305843009213693951 = ((n % 2305843009213693952 : Nat) : Int) := by
  have := u64_and_nat n 2305843009213693951 h (by omega)
  rw [show (2305843009213693951 : Nat) = 2 ^ 61 - 1 from rfl, Nat.and_two_pow_sub_one_eq_mod] at this
  exact this

set_option maxRecDepth 100000 in
theorem plus_any (a b : Nat) (w : World) (h : a + b < 18446744073709551616) :
    Calls Try.prog 12 #[.int .u64 (a : Int), .int .u64 (b : Int)] w fun e w' => e = .returned (.int .u64 (((if a + b < 2305843009213693951 then a + b else a + b - 2305843009213693951 : Nat)) : Int)) ∧ w' = w := by
  have hw : IntKind.u64.wrap ((a : Int) + (b : Int)) = ((a + b : Nat) : Int) := by rw [IntKind.wrap_u64]; omega
  by_cases hlt : a + b < 2305843009213693951
  · rw [if_pos hlt]
    have hd : decide ((2305843009213693951 : Int) ≤ ((a + b : Nat) : Int)) = false := by simp; omega
    generalize a + b = s at *
    clear hlt h
    go_enter Try.func12, Try.ntmps12
    go_wp2
    go_ret
    exact ⟨rfl, rfl⟩
  · rw [if_neg hlt]
    have hd : decide ((2305843009213693951 : Int) ≤ ((a + b : Nat) : Int)) = true := by simp; omega
    have hu : IntKind.u64.wrap (((a + b : Nat) : Int) - 2305843009213693951) = ((a + b - 2305843009213693951 : Nat) : Int) := by rw [IntKind.wrap_u64]; omega
    generalize a + b - 2305843009213693951 = r at *
    generalize a + b = s at *
    clear hlt h
    go_enter Try.func12, Try.ntmps12
    go_wp2
    go_ret
    exact ⟨rfl, rfl⟩

set_option maxHeartbeats 400000 in
set_option maxRecDepth 100000 in
theorem times_any (a b : Nat) (w : World) (ha : a < 2305843009213693951) (hb : b < 2305843009213693951) :
    Calls Try.prog 13 #[.int .u64 (a : Int), .int .u64 (b : Int)] w fun e w' => e = .returned (.int .u64 ((a * b % 2305843009213693951 : Nat) : Int)) ∧ w' = w := by
  obtain ⟨x, hx⟩ : ∃ x, x = a * b := ⟨_, rfl⟩
  have hlt := prod_lt ha hb
  have hm := mul64_any a b w (by omega) (by omega)
  rw [← hx] at hlt hm ⊢
  have hp := plus_any (x / 2305843009213693952) (x % 2305843009213693952) w (by omega)
  rw [fold61 hlt] at hp
  have ho := fold_or hlt
  have hn := and61 (n := x % 18446744073709551616) (by omega)
  have hn2 : x % 18446744073709551616 % 2305843009213693952 = x % 2305843009213693952 := by omega
  rw [hn2] at hn
  rw [← ho, ← hn] at hp
  generalize x % 2305843009213693951 = r at *
  generalize x / 18446744073709551616 = hi at *
  generalize x % 18446744073709551616 = lo at *
  have HM := Lib.hid hm
  have HP := Lib.hid hp
  clear hm hlt ho hn hn2 hx ha hb hp
  go_enter Try.func13, Try.ntmps13
  go_wp2_with fail
  refine HM.out.mono ?_
  rintro e w1 ⟨rfl, rfl⟩
  go_wp2_with fail
  refine HP.out.mono ?_
  rintro e w2 ⟨rfl, rfl⟩
  go_wp2
  go_ret
  exact ⟨rfl, rfl⟩

set_option maxHeartbeats 400000 in
set_option maxRecDepth 100000 in
theorem minus_any (a b : Nat) (w : World) (ha : a < 2305843009213693951) (hb : b < 2305843009213693951) :
    Calls Try.prog 14 #[.int .u64 (a : Int), .int .u64 (b : Int)] w fun e w' => e = .returned (.int .u64 (((a + (2305843009213693951 - b)) % 2305843009213693951 : Nat) : Int)) ∧ w' = w := by
  have hp := plus_any a (2305843009213693951 - b) w (by omega)
  have e1 : (if a + (2305843009213693951 - b) < 2305843009213693951 then a + (2305843009213693951 - b) else a + (2305843009213693951 - b) - 2305843009213693951) = (a + (2305843009213693951 - b)) % 2305843009213693951 := by split <;> omega
  rw [e1] at hp
  have hw : IntKind.u64.wrap (2305843009213693951 - (b : Int)) = ((2305843009213693951 - b : Nat) : Int) := by rw [IntKind.wrap_u64]; omega
  generalize (a + (2305843009213693951 - b)) % 2305843009213693951 = r at *
  generalize 2305843009213693951 - b = c at *
  have HP := Lib.hid hp
  clear hp e1 ha hb
  go_enter Try.func14, Try.ntmps14
  go_wp2_with fail
  refine HP.out.mono ?_
  rintro e w1 ⟨rfl, rfl⟩
  go_wp2
  go_ret
  exact ⟨rfl, rfl⟩

theorem and1 {n : Nat} (h : n < 18446744073709551616) : bits .and .u64 (n : Int) 1 = ((n % 2 : Nat) : Int) := by
  have := u64_and_nat n 1 h (by omega)
  rw [Nat.and_one_is_mod] at this
  exact this

set_option maxHeartbeats 800000 in
set_option maxRecDepth 100000 in
theorem power_any (n : Nat) (w : World) (hn : n < 18446744073709551616) :
    Calls Try.prog 17 #[.int .u64 (n : Int)] w fun e w' => e = .returned (.int .u64 ((dPow n : Nat) : Int)) ∧ w' = w := by
  obtain ⟨r, hr⟩ : ∃ r, r = dPow n := ⟨_, rfl⟩
  rw [← hr]
  have HR := Lib.hid hr
  have HN := Lib.hid hn
  clear hr hn
  go_enter Try.func17, Try.ntmps17
  go_wp2
  go_loopg [0, 3, 4] n (fun k vn vp vs wr => ∃ j p s : Nat, k = j ∧ vn = .int .u64 (j : Int) ∧ vp = .int .u64 (p : Int) ∧ vs = .int .u64 (s : Int) ∧ Hid (j < 18446744073709551616 ∧ p < 2305843009213693951 ∧ s < 2305843009213693951 ∧ p * s ^ j % 2305843009213693951 = r) ∧ wr = w)
  case atStart => exact ⟨n, 1, 1000003, rfl, rfl, rfl, rfl, Lib.hid ⟨HN.out, by omega, by omega, by rw [HR.out, Nat.one_mul]; rfl⟩, rfl⟩
  case round =>
    obtain ⟨j, p, s, hk, rfl, rfl, rfl, HJ, rfl⟩ := hrel
    have HK := Lib.hid hk
    clear hk
    by_cases hj : j = 0
    · subst hj
      go_wp2
      go_ret
      have h1 := HJ.out.2.2.2
      rw [Nat.pow_zero, Nat.mul_one, Nat.mod_eq_of_lt HJ.out.2.1] at h1
      exact ⟨by rw [← h1]; rfl, rfl⟩
    · have ha := and1 HJ.out.1
      have hpos : 0 < j := by omega
      have hstep := pow_half p s j
      rw [HJ.out.2.2.2] at hstep
      have HT2 := Lib.hid (times_any s s wr HJ.out.2.2.1 HJ.out.2.2.1)
      by_cases hodd : j % 2 = 1
      · have HA : Hid (bits .and .u64 (j : Int) 1 = 1) := by rw [ha, hodd]; exact Lib.hid rfl
        rw [if_pos hodd] at hstep
        have HT1 := Lib.hid (times_any p s wr HJ.out.2.1 HJ.out.2.2.1)
        have HST := Lib.hid hstep
        have HOD := Lib.hid hodd
        clear ha hstep hodd hj
        have ha := HA.out
        go_wp2_with fail
        refine HT1.out.mono ?_
        rintro e w1 ⟨rfl, rfl⟩
        obtain ⟨p', hp'⟩ : ∃ p', p' = p * s % 2305843009213693951 := ⟨_, rfl⟩
        rw [← hp']
        have HP' := Lib.hid hp'
        clear hp'
        go_wp2_with fail
        refine HT2.out.mono ?_
        rintro e w2 ⟨rfl, rfl⟩
        obtain ⟨s', hs'⟩ : ∃ s', s' = s * s % 2305843009213693951 := ⟨_, rfl⟩
        rw [← hs']
        have HS' := Lib.hid hs'
        clear hs'
        go_wp2
        go_roundg (j / 2)
        case measure => have := HK.out; omega
        case rel => exact ⟨j / 2, p', s', rfl, rfl, rfl, rfl, Lib.hid ⟨by have := HJ.out.1; omega, by rw [HP'.out]; exact Nat.mod_lt _ (by omega), by rw [HS'.out]; exact Nat.mod_lt _ (by omega), by rw [HST.out, HP'.out, HS'.out]⟩, rfl⟩
      · have HA : Hid (bits .and .u64 (j : Int) 1 = 0) := by rw [ha, show j % 2 = 0 by omega]; exact Lib.hid rfl
        rw [if_neg hodd] at hstep
        have HST := Lib.hid hstep
        have HOD := Lib.hid hodd
        clear ha hstep hodd hj
        have ha := HA.out
        go_wp2_with fail
        refine HT2.out.mono ?_
        rintro e w2 ⟨rfl, rfl⟩
        obtain ⟨s', hs'⟩ : ∃ s', s' = s * s % 2305843009213693951 := ⟨_, rfl⟩
        rw [← hs']
        have HS' := Lib.hid hs'
        clear hs'
        go_wp2
        go_roundg (j / 2)
        case measure => have := HK.out; omega
        case rel => exact ⟨j / 2, p, s', rfl, rfl, rfl, rfl, Lib.hid ⟨by have := HJ.out.1; omega, HJ.out.2.1, by rw [HS'.out]; exact Nat.mod_lt _ (by omega), by rw [HST.out, HS'.out]⟩, rfl⟩

theorem moved_any (s n : Nat) (w : World) (hs : s < 2305843009213693951) (hn : n < 18446744073709551616) :
    Calls Try.prog 15 #[.int .u64 (s : Int), .int .u64 (n : Int)] w fun e w' => e = .returned (.int .u64 ((s * dPow n % 2305843009213693951 : Nat) : Int)) ∧ w' = w := by
  have HP := Lib.hid (power_any n w hn)
  have HT := Lib.hid (times_any s (dPow n) w hs (dPow_lt n))
  generalize s * dPow n % 2305843009213693951 = r at *
  generalize dPow n = p at *
  clear hs hn
  go_enter Try.func15, Try.ntmps15
  go_wp2_with fail
  refine HP.out.mono ?_
  rintro e w1 ⟨rfl, rfl⟩
  go_wp2_with fail
  refine HT.out.mono ?_
  rintro e w2 ⟨rfl, rfl⟩
  go_wp2
  go_ret
  exact ⟨rfl, rfl⟩

end Go.Proofs.Ytiajcolhemdnaaa
