/- The contracts of the document's own digest (products by doubles, powers, sums), over any world. -/
import Derived.Test.YtaijldcfoaeogaaGreatGSmRecToDNum
namespace Go.Proofs.YtaijldcfoaeogaaGreat
open Go.RowKit
set_option maxRecDepth 100000

set_option maxHeartbeats 800000 in
set_option maxRecDepth 100000 in
theorem refTimes_any (a b : Nat) (w : World) (hb : b < 18446744073709551616) :
    Calls Tryz.prog 51 #[.int .u64 (a : Int), .int .u64 (b : Int)] w fun e w' => e = .returned (.int .u64 ((a * b % 2305843009213693951 : Nat) : Int)) ∧ w' = w := by
  obtain ⟨r, hr⟩ : ∃ r, r = a * b % 2305843009213693951 := ⟨_, rfl⟩
  rw [← hr]
  have HR := Lib.hid hr
  have HB := Lib.hid hb
  clear hr hb
  go_enter Tryz.func51, Tryz.ntmps51
  go_wp2
  go_loopg [0, 1, 5] b (fun k va vb vo wr => ∃ j x o : Nat, k = j ∧ va = .int .u64 (x : Int) ∧ vb = .int .u64 (j : Int) ∧ vo = .int .u64 (o : Int) ∧ Hid (j < 18446744073709551616 ∧ x < 2305843009213693951 ∧ o < 2305843009213693951 ∧ (o + x * j) % 2305843009213693951 = r) ∧ wr = w)
  case atStart => exact ⟨b, a % 2305843009213693951, 0, rfl, congrArg (Value.int .u64) (by omega), rfl, rfl, Lib.hid ⟨HB.out, by omega, by omega, by rw [HR.out, Nat.zero_add, Nat.mod_mul_mod]⟩, rfl⟩
  case round =>
    obtain ⟨j, x, o, hk, rfl, rfl, rfl, HJ, rfl⟩ := hrel
    have HK := Lib.hid hk
    clear hk
    by_cases hj : j = 0
    · subst hj
      go_wp2
      go_ret
      have h1 := HJ.out.2.2.2
      rw [Nat.mul_zero, Nat.add_zero, Nat.mod_eq_of_lt HJ.out.2.2.1] at h1
      exact ⟨by rw [← h1]; rfl, rfl⟩
    · have hpos : 0 < j := by omega
      have hstep := mul_half o x j
      rw [HJ.out.2.2.2] at hstep
      have hw2 : IntKind.u64.wrap ((x : Int) + (x : Int)) = ((x + x : Nat) : Int) := by have := HJ.out.2.1; rw [IntKind.wrap_u64]; omega
      have hwj : IntKind.u64.wrap ((j : Int) / 2) = ((j / 2 : Nat) : Int) := by have := HJ.out.1; rw [IntKind.wrap_u64]; omega
      obtain ⟨x2, hx2⟩ : ∃ x2, x2 = x + x := ⟨_, rfl⟩
      rw [← hx2] at hw2 hstep
      by_cases hodd : j % 2 = 1
      · rw [if_pos hodd] at hstep
        have hw1 : IntKind.u64.wrap ((o : Int) + (x : Int)) = ((o + x : Nat) : Int) := by have := HJ.out; rw [IntKind.wrap_u64]; omega
        obtain ⟨o2, ho2⟩ : ∃ o2, o2 = o + x := ⟨_, rfl⟩
        rw [← ho2] at hw1 hstep
        have HST := Lib.hid hstep
        clear hstep hx2 ho2 hj
        go_wp2
        go_roundg (j / 2)
        case measure => have := HK.out; omega
        case rel => exact ⟨j / 2, x2 % 2305843009213693951, o2 % 2305843009213693951, rfl, congrArg (Value.int .u64) (by omega), rfl, congrArg (Value.int .u64) (by omega), Lib.hid ⟨by have := HJ.out.1; omega, by omega, by omega, HST.out.symm⟩, rfl⟩
      · rw [if_neg hodd] at hstep
        have HST := Lib.hid hstep
        clear hstep hx2 hj
        go_wp2
        go_roundg (j / 2)
        case measure => have := HK.out; omega
        case rel => exact ⟨j / 2, x2 % 2305843009213693951, o, rfl, congrArg (Value.int .u64) (by omega), rfl, rfl, Lib.hid ⟨by have := HJ.out.1; omega, by omega, HJ.out.2.2.1, HST.out.symm⟩, rfl⟩

set_option maxHeartbeats 800000 in
set_option maxRecDepth 100000 in
theorem refDig_any (a : Option Addr) (m c : Nat) (l : List Nat) (w : World) (h : Rd w a m l) (hm : m ≤ 3000000) :
    Calls Tryz.prog 29 #[.slice a m c] w fun e w' => e = .returned (.tuple #[.int .u64 (m : Int), .int .u64 ((dSum l : Nat) : Int)]) ∧ ∃ nq, w' = w.drewN nq := by
  obtain ⟨r, hr⟩ : ∃ r, r = dSum l := ⟨_, rfl⟩
  rw [← hr]
  have HRE := Lib.hid hr
  have HR := Lib.hid h
  clear h hr
  go_enter Tryz.func29, Tryz.ntmps29
  go_wp2
  go_loopg [4, 5] m (fun k d i wr => ∃ j x nq : Nat, k = m - j ∧ j ≤ m ∧ i = .int .i64 (j : Int) ∧ d = .int .u64 (x : Int) ∧ Hid (x < 2305843009213693951 ∧ x = dFrom 0 (l.take j)) ∧ wr = w.drewN nq)
  case atStart => exact ⟨0, 0, 0, rfl, Nat.zero_le _, rfl, rfl, Lib.hid ⟨by omega, by simp [dFrom]⟩, rfl⟩
  case round =>
    obtain ⟨j, x, n0, hk, hj, rfl, rfl, HX, hw⟩ := hrel
    have HK := Lib.hid hk
    clear hk
    have HRr : Hid (Rd wr a m l) := by rw [hw]; exact Lib.hid HR.out
    by_cases hlt : j < m
    · obtain ⟨b, o, rfl, hc⟩ := HRr.out.2.2 (by omega)
      have hcell := hc j hlt
      have hl := HR.out.1
      have hy : l.getD j 0 < 256 := HR.out.2.1 _ (by simp [List.getD, show j < l.length by omega])
      obtain ⟨y, hye⟩ : ∃ y, y = l.getD j 0 := ⟨_, rfl⟩
      rw [← hye] at hcell hy
      have HY := Lib.hid hye
      have HL := Lib.hid hl
      have HT : Hid (∀ W : World, Calls Tryz.prog 51 #[.int .u64 (x : Int), .int .u64 1000003] W fun e w' => e = .returned (.int .u64 ((x * 1000003 % 2305843009213693951 : Nat) : Int)) ∧ w' = W) := Lib.hid (fun W => refTimes_any x 1000003 W (by omega))
      obtain ⟨t, ht⟩ : ∃ t, t = x * 1000003 % 2305843009213693951 := ⟨_, rfl⟩
      rw [← ht] at HT
      have htl : t < 2305843009213693951 := by rw [ht]; exact Nat.mod_lt _ (by omega)
      have hw1 : IntKind.u64.wrap ((t : Int) + (y : Int)) = ((t + y : Nat) : Int) := by rw [IntKind.wrap_u64]; omega
      have hw2 : IntKind.u64.wrap (((t + y : Nat) : Int) + 1) = ((t + y + 1 : Nat) : Int) := by rw [IntKind.wrap_u64]; omega
      have HS : Hid ((t + y + 1) % 2305843009213693951 = dStep x y) := by
        unfold dStep
        rw [ht]
        exact Lib.hid (by omega)
      obtain ⟨u1, hu1⟩ : ∃ u1, u1 = t + y := ⟨_, rfl⟩
      obtain ⟨u2, hu2⟩ : ∃ u2, u2 = t + y + 1 := ⟨_, rfl⟩
      rw [← hu2] at HS hw2
      rw [← hu1] at hw1 hw2
      have HW := Lib.hid hw
      clear hye hl hc hw ht htl hu1 hu2
      go_wp2
      go_quiet ((go_at_call 51; exact Calls.quiet_of_same (HT.out _)))
      go_wp2
      go_roundg (m - (j + 1))
      case measure => have := HK.out; omega
      case rel => exact ⟨j + 1, u2 % 2305843009213693951, n0 + nq, rfl, by omega, by go_num, congrArg (Value.int .u64) (by omega), Lib.hid ⟨by omega, by
        have h3 : y = l[j]'(by have := HL.out; omega) := by rw [HY.out]; simp [List.getD, show j < l.length by have := HL.out; omega]
        rw [List.take_succ_eq_append_getElem (by have := HL.out; omega), dFrom_snoc, ← HX.out.2, HS.out, ← h3]⟩, by rw [HW.out, World.drewN_drewN]⟩
    · have : j = m := by omega
      subst this
      go_wp2
      go_ret2
      have h1 := HX.out.2
      rw [List.take_of_length_le (by have := HR.out.1; omega)] at h1
      exact ⟨by rw [HRE.out]; unfold dSum; rw [← h1]; rfl, n0, rfl⟩

end Go.Proofs.YtaijldcfoaeogaaGreat
