/- The contracts of digest's own arithmetic (plus, times, minus, power, moved) and of bits.Mul64, over any world. -/
import Derived.Test.YtlmieegemckodaaMemAll
import Derived.Test.YtlmieegemckodaaDMath
import Derived.Laws.BitsAllLaws
import Derived.Deep.QuietTactic
import Derived.BigQuiet
import Derived.StillTailTactics
import Derived.Handy
namespace Go.Proofs.Ytlmieegemckodaa
open Go.RowKit

theorem wrap64_nat {n : Nat} (h : n < 18446744073709551616) : IntKind.u64.wrap (n : Int) = (n : Int) := by
  rw [IntKind.wrap_u64]; omega

theorem and32 {n : Nat} (h : n < 18446744073709551616) : bits .and .u64 (n : Int) 4294967295 = ((n % 4294967296 : Nat) : Int) := by
  have := u64_and_nat n 4294967295 h (by omega)
  rw [show (4294967295 : Nat) = 2 ^ 32 - 1 from rfl, Nat.and_two_pow_sub_one_eq_mod] at this
  exact this

theorem hi_eq (a b : Nat) (ha : a < 18446744073709551616) (hb : b < 18446744073709551616) :
    (IntKind.u64.wrap (IntKind.u64.wrap (IntKind.u64.wrap ((a : Int) / 4294967296 * ((b : Int) / 4294967296)) +
      IntKind.u64.wrap (IntKind.u64.wrap ((a : Int) / 4294967296 * bits BinOp.and IntKind.u64 (b : Int) 4294967295) + IntKind.u64.wrap (bits BinOp.and IntKind.u64 (a : Int) 4294967295 * bits BinOp.and IntKind.u64 (b : Int) 4294967295) / 4294967296) / 4294967296) +
      IntKind.u64.wrap (bits BinOp.and IntKind.u64 (IntKind.u64.wrap (IntKind.u64.wrap ((a : Int) / 4294967296 * bits BinOp.and IntKind.u64 (b : Int) 4294967295) + IntKind.u64.wrap (bits BinOp.and IntKind.u64 (a : Int) 4294967295 * bits BinOp.and IntKind.u64 (b : Int) 4294967295) / 4294967296)) 4294967295 +
        IntKind.u64.wrap (bits BinOp.and IntKind.u64 (a : Int) 4294967295 * ((b : Int) / 4294967296))) / 4294967296)) = ((a * b / 18446744073709551616 : Nat) : Int) := by
  rw [and32 ha, and32 hb]
  obtain ⟨a1, ha1⟩ : ∃ a1, a1 = a / 4294967296 := ⟨_, rfl⟩
  obtain ⟨b1, hb1⟩ : ∃ b1, b1 = b / 4294967296 := ⟨_, rfl⟩
  obtain ⟨a0, ha0⟩ : ∃ a0, a0 = a % 4294967296 := ⟨_, rfl⟩
  obtain ⟨b0, hb0⟩ : ∃ b0, b0 = b % 4294967296 := ⟨_, rfl⟩
  have e1 : (a : Int) / 4294967296 = (a1 : Int) := by omega
  have e2 : (b : Int) / 4294967296 = (b1 : Int) := by omega
  rw [e1, e2, ← ha0, ← hb0]
  have ea : a = a1 * 4294967296 + a0 := by omega
  have eb : b = b1 * 4294967296 + b0 := by omega
  have h := mul_halves a0 a1 b0 b1
  rw [← ea, ← eb] at h
  have l1 : a1 < 4294967296 := by omega
  have l2 : b1 < 4294967296 := by omega
  have l3 : a0 < 4294967296 := by omega
  have l4 : b0 < 4294967296 := by omega
  have m11 := mul_lt32 l1 l2
  have m10 := mul_lt32 l1 l4
  have m01 := mul_lt32 l3 l2
  have m00 := mul_lt32 l3 l4
  have hall : a * b / 18446744073709551616 < 18446744073709551616 := by
    have := Nat.mul_lt_mul'' ha hb
    exact Nat.div_lt_of_lt_mul this
  rw [← h] at hall ⊢
  simp only [← Int.natCast_mul]
  generalize a1 * b1 = p11 at *
  generalize a1 * b0 = p10 at *
  generalize a0 * b1 = p01 at *
  generalize a0 * b0 = p00 at *
  clear h ea eb e1 e2 ha1 hb1 ha0 hb0 ha hb
  rw [wrap64_nat (show p11 < 18446744073709551616 by omega), wrap64_nat (show p10 < 18446744073709551616 by omega), wrap64_nat (show p01 < 18446744073709551616 by omega), wrap64_nat (show p00 < 18446744073709551616 by omega)]
  have f1 : (p10 : Int) + (p00 : Int) / 4294967296 = ((p10 + p00 / 4294967296 : Nat) : Int) := by omega
  rw [f1]
  have f2 : p10 + p00 / 4294967296 < 18446744073709551616 := by omega
  generalize p10 + p00 / 4294967296 = t at *
  rw [wrap64_nat f2, and32 f2]
  have f3 : ((t % 4294967296 : Nat) : Int) + (p01 : Int) = ((t % 4294967296 + p01 : Nat) : Int) := by omega
  rw [f3]
  have f4 : t % 4294967296 + p01 < 18446744073709551616 := by omega
  generalize t % 4294967296 + p01 = u at *
  rw [wrap64_nat f4]
  have f5 : (p11 : Int) + (t : Int) / 4294967296 = ((p11 + t / 4294967296 : Nat) : Int) := by omega
  rw [f5, wrap64_nat (by omega)]
  have f6 : ((p11 + t / 4294967296 : Nat) : Int) + (u : Int) / 4294967296 = ((p11 + t / 4294967296 + u / 4294967296 : Nat) : Int) := by omega
  rw [f6, wrap64_nat hall]

theorem lo_eq (a b : Nat) : IntKind.u64.wrap ((a : Int) * (b : Int)) = ((a * b % 18446744073709551616 : Nat) : Int) := by
  rw [IntKind.wrap_u64, ← Int.natCast_mul]; omega

set_option maxHeartbeats 400000 in
set_option maxRecDepth 100000 in
theorem mul64_any (a b : Nat) (w : World) (ha : a < 18446744073709551616) (hb : b < 18446744073709551616) :
    Calls Try.prog 70 #[.int .u64 (a : Int), .int .u64 (b : Int)] w fun e w' => e = .returned (.tuple #[.int .u64 ((a * b / 18446744073709551616 : Nat) : Int), .int .u64 ((a * b % 18446744073709551616 : Nat) : Int)]) ∧ w' = w := by
  go_enter Try.func70, Try.ntmps70
  go_wp2
  go_ret2
  rw [← hi_eq a b ha hb, ← lo_eq a b]
  exact ⟨rfl, rfl⟩

theorem or_add8 (h l : Nat) (hl : l < 8) : h * 8 ||| l = h * 8 + l := by
  have := Nat.two_pow_add_eq_or_of_lt (i := 3) (b := l) (by omega) h
  rw [Nat.mul_comm h 8]
  exact this.symm

theorem fold_or {x : Nat} (hx : x / 2305843009213693952 < 2305843009213693951) :
    bits .or .u64 (IntKind.u64.wrap (((x / 18446744073709551616 : Nat) : Int) * 8)) (((x % 18446744073709551616 : Nat) : Int) / 2305843009213693952) = ((x / 2305843009213693952 : Nat) : Int) := by
  have e1 : IntKind.u64.wrap (((x / 18446744073709551616 : Nat) : Int) * 8) = ((x / 18446744073709551616 * 8 : Nat) : Int) := by rw [IntKind.wrap_u64]; omega
  have e2 : ((x % 18446744073709551616 : Nat) : Int) / 2305843009213693952 = ((x % 18446744073709551616 / 2305843009213693952 : Nat) : Int) := by omega
  rw [e1, e2, u64_or_nat _ _ (by omega) (by omega), or_add8 _ _ (by omega)]
  congr 1; omega

theorem and61 {n : Nat} (h : n < 18446744073709551616) : bits .and .u64 (n : Int) 2305843009213693951 = ((n % 2305843009213693952 : Nat) : Int) := by
  have := u64_and_nat n 2305843009213693951 h (by omega)
  rw [show (2305843009213693951 : Nat) = 2 ^ 61 - 1 from rfl, Nat.and_two_pow_sub_one_eq_mod] at this
  exact this

set_option maxRecDepth 100000 in
theorem plus_any (a b : Nat) (w : World) (h : a + b < 18446744073709551616) :
    Calls Try.prog 61 #[.int .u64 (a : Int), .int .u64 (b : Int)] w fun e w' => e = .returned (.int .u64 (((if a + b < 2305843009213693951 then a + b else a + b - 2305843009213693951 : Nat)) : Int)) ∧ w' = w := by
  have hw : IntKind.u64.wrap ((a : Int) + (b : Int)) = ((a + b : Nat) : Int) := by rw [IntKind.wrap_u64]; omega
  by_cases hlt : a + b < 2305843009213693951
  · rw [if_pos hlt]
    have hd : decide ((2305843009213693951 : Int) ≤ ((a + b : Nat) : Int)) = false := by simp; omega
    generalize a + b = s at *
    clear hlt h
    go_enter Try.func61, Try.ntmps61
    go_wp2
    go_ret
    exact ⟨rfl, rfl⟩
  · rw [if_neg hlt]
    have hd : decide ((2305843009213693951 : Int) ≤ ((a + b : Nat) : Int)) = true := by simp; omega
    have hu : IntKind.u64.wrap (((a + b : Nat) : Int) - 2305843009213693951) = ((a + b - 2305843009213693951 : Nat) : Int) := by rw [IntKind.wrap_u64]; omega
    generalize a + b - 2305843009213693951 = r at *
    generalize a + b = s at *
    clear hlt h
    go_enter Try.func61, Try.ntmps61
    go_wp2
    go_ret
    exact ⟨rfl, rfl⟩

set_option maxHeartbeats 400000 in
set_option maxRecDepth 100000 in
theorem times_any (a b : Nat) (w : World) (ha : a < 2305843009213693951) (hb : b < 2305843009213693951) :
    Calls Try.prog 62 #[.int .u64 (a : Int), .int .u64 (b : Int)] w fun e w' => e = .returned (.int .u64 ((a * b % 2305843009213693951 : Nat) : Int)) ∧ w' = w := by
  obtain ⟨x, hx⟩ : ∃ x, x = a * b := ⟨_, rfl⟩
  have hlt := prod_lt ha hb
  have hm := mul64_any a b w (by omega) (by omega)
  rw [← hx] at hlt hm ⊢
  have hp := plus_any (x / 2305843009213693952) (x % 2305843009213693952) w (by omega)
  rw [fold61 hlt] at hp
  have ho := fold_or hlt
  have hn := and61 (n := x % 18446744073709551616) (by omega)
  have hn2 : x % 18446744073709551616 % 2305843009213693952 = x % 2305843009213693952 := by omega
  rw [hn2] at hn
  rw [← ho, ← hn] at hp
  generalize x % 2305843009213693951 = r at *
  generalize x / 18446744073709551616 = hi at *
  generalize x % 18446744073709551616 = lo at *
  have HM := Lib.hid hm
  have HP := Lib.hid hp
  clear hm hlt ho hn hn2 hx ha hb hp
  go_enter Try.func62, Try.ntmps62
  go_wp2_with fail
  refine HM.out.mono ?_
  rintro e w1 ⟨rfl, rfl⟩
  go_wp2_with fail
  refine HP.out.mono ?_
  rintro e w2 ⟨rfl, rfl⟩
  go_wp2
  go_ret
  exact ⟨rfl, rfl⟩

theorem and1 {n : Nat} (h : n < 18446744073709551616) : bits .and .u64 (n : Int) 1 = ((n % 2 : Nat) : Int) := by
  have := u64_and_nat n 1 h (by omega)
  rw [Nat.and_one_is_mod] at this
  exact this

end Go.Proofs.Ytlmieegemckodaa

/- The contracts of digest's Of, Cut and Join, over any world. -/
namespace Go.Proofs.Ytlmieegemckodaa
open Go.RowKit

theorem plus_byte {x y : Nat} (hy : y < 256) : (if x * 1000003 % 2305843009213693951 + (y + 1) < 2305843009213693951 then x * 1000003 % 2305843009213693951 + (y + 1) else x * 1000003 % 2305843009213693951 + (y + 1) - 2305843009213693951) = dStep x y := by
  unfold dStep
  split <;> omega

set_option maxHeartbeats 800000 in
set_option maxRecDepth 100000 in
theorem dgOf_any (a : Option Addr) (m c : Nat) (l : List Nat) (w : World) (h : Rd w a m l) (hm : m ≤ 3000000) :
    Calls Try.prog 46 #[.slice a m c] w fun e w' => e = .returned (.agg #[.int .u64 (m : Int), .int .u64 ((dSum l : Nat) : Int)]) ∧ w' = w.alloc (.cells #[.int .u64 (m : Int), .int .u64 ((dSum l : Nat) : Int)] 58) := by
  obtain ⟨r, hr⟩ : ∃ r, r = dSum l := ⟨_, rfl⟩
  rw [← hr]
  have HRE := Lib.hid hr
  have HR := Lib.hid h
  clear h hr
  go_enter Try.func46, Try.ntmps46
  go_wp2
  go_loopg [3, 8] m (fun k d i wr => ∃ j x : Nat, k = m - j ∧ j ≤ m ∧ i = .int .i64 (j : Int) ∧ d = .int .u64 (x : Int) ∧ Hid (x < 2305843009213693951 ∧ x = dFrom 0 (l.take j)) ∧ wr = w.alloc (.cells #[.int .u64 0, .int .u64 0] 58))
  case atStart => exact ⟨0, 0, rfl, Nat.zero_le _, rfl, rfl, Lib.hid ⟨by omega, by simp [dFrom]⟩, rfl⟩
  case round =>
    obtain ⟨j, x, hk, hj, rfl, rfl, HX, hw⟩ := hrel
    have HK := Lib.hid hk
    have HW := Lib.hid hw
    have HRr : Hid (Rd wr a m l) := by rw [hw]; exact Lib.hid (HR.out.later (Below.alloc0 _ _))
    clear hk hw
    by_cases hlt : j < m
    · obtain ⟨b, o, rfl, hc⟩ := HRr.out.2.2 (by omega)
      have hcell := hc j hlt
      have hl := HR.out.1
      have hy : l.getD j 0 < 256 := HR.out.2.1 _ (by simp [List.getD, show j < l.length by omega])
      obtain ⟨y, hye⟩ : ∃ y, y = l.getD j 0 := ⟨_, rfl⟩
      rw [← hye] at hcell hy
      have HY := Lib.hid hye
      have HL := Lib.hid hl
      have HT := Lib.hid (times_any x 1000003 wr HX.out.1 (by omega))
      have HP := Lib.hid (plus_any (x * 1000003 % 2305843009213693951) (y + 1) wr (by omega))
      rw [plus_byte hy] at HP
      have hl2 := dStep_lt x y
      obtain ⟨x2, hx2⟩ : ∃ x2, x2 = dStep x y := ⟨_, rfl⟩
      rw [← hx2] at HP hl2
      obtain ⟨t, ht⟩ : ∃ t, t = x * 1000003 % 2305843009213693951 := ⟨_, rfl⟩
      rw [← ht] at HT HP
      have HX2 := Lib.hid hx2
      have HL2 := Lib.hid hl2
      clear hye hl hc ht hx2 hl2
      go_wp2_with fail
      refine HT.out.mono ?_
      rintro e w1 ⟨rfl, rfl⟩
      go_wp2_with fail
      refine HP.out.mono ?_
      rintro e w2 ⟨rfl, rfl⟩
      go_wp2
      go_roundg (m - (j + 1))
      case measure => have := HK.out; omega
      case rel => exact ⟨j + 1, x2, rfl, by omega, by go_num, rfl, Lib.hid ⟨HL2.out, by
        have h3 : y = l[j]'(by have := HL.out; omega) := by rw [HY.out]; simp [List.getD, show j < l.length by have := HL.out; omega]
        rw [List.take_succ_eq_append_getElem (by have := HL.out; omega), dFrom_snoc, ← HX.out.2, HX2.out, ← h3]⟩, HW.out⟩
    · have : j = m := by omega
      subst this
      have h1 := HX.out.2
      rw [List.take_of_length_le (by have := HR.out.1; omega)] at h1
      have hxr : x = r := by rw [HRE.out]; exact h1
      subst hxr
      have hw := HW.out
      subst hw
      clear h1
      go_wp2
      go_returns
      exact ⟨rfl, rfl⟩

end Go.Proofs.Ytlmieegemckodaa
