/- The contracts of digest's Of, Cut and Join, over any world. -/
import Derived.Test.YtaijldcfoaeogaaGreatGSmRecToDNum
import Derived.StillTailTactics
import Derived.Handy
namespace Go.Proofs.YtaijldcfoaeogaaGreat
open Go.RowKit
set_option maxRecDepth 100000

theorem plus_byte {x y : Nat} (hy : y < 256) : (if x * 1000003 % 2305843009213693951 + (y + 1) < 2305843009213693951 then x * 1000003 % 2305843009213693951 + (y + 1) else x * 1000003 % 2305843009213693951 + (y + 1) - 2305843009213693951) = dStep x y := by
  unfold dStep
  split <;> omega

set_option maxHeartbeats 800000 in
set_option maxRecDepth 100000 in
theorem dgOf_any (a : Option Addr) (m c : Nat) (l : List Nat) (w : World) (h : Rd w a m l) (hm : m ≤ 3000000) :
    Calls Tryz.prog 46 #[.slice a m c] w fun e w' => e = .returned (.agg #[.int .u64 (m : Int), .int .u64 ((dSum l : Nat) : Int)]) ∧ w' = w.alloc (.cells #[.int .u64 (m : Int), .int .u64 ((dSum l : Nat) : Int)] 55) := by
  obtain ⟨r, hr⟩ : ∃ r, r = dSum l := ⟨_, rfl⟩
  rw [← hr]
  have HRE := Lib.hid hr
  have HR := Lib.hid h
  clear h hr
  go_enter Tryz.func46, Tryz.ntmps46
  go_wp2
  go_loopg [3, 8] m (fun k d i wr => ∃ j x : Nat, k = m - j ∧ j ≤ m ∧ i = .int .i64 (j : Int) ∧ d = .int .u64 (x : Int) ∧ Hid (x < 2305843009213693951 ∧ x = dFrom 0 (l.take j)) ∧ wr = w.alloc (.cells #[.int .u64 0, .int .u64 0] 55))
  case atStart => exact ⟨0, 0, rfl, Nat.zero_le _, rfl, rfl, Lib.hid ⟨by omega, by simp [dFrom]⟩, rfl⟩
  case round =>
    obtain ⟨j, x, hk, hj, rfl, rfl, HX, hw⟩ := hrel
    have HK := Lib.hid hk
    have HW := Lib.hid hw
    have HRr : Hid (Rd wr a m l) := by rw [hw]; exact Lib.hid (HR.out.later (Below.alloc0 _ _))
    clear hk hw
    by_cases hlt : j < m
    · obtain ⟨b, o, rfl, hc⟩ := HRr.out.2.2 (by omega)
      have hcell := hc j hlt
      have hl := HR.out.1
      have hy : l.getD j 0 < 256 := HR.out.2.1 _ (by simp [List.getD, show j < l.length by omega])
      obtain ⟨y, hye⟩ : ∃ y, y = l.getD j 0 := ⟨_, rfl⟩
      rw [← hye] at hcell hy
      have HY := Lib.hid hye
      have HL := Lib.hid hl
      have HT := Lib.hid (times_any x 1000003 wr HX.out.1 (by omega))
      have HP := Lib.hid (plus_any (x * 1000003 % 2305843009213693951) (y + 1) wr (by omega))
      rw [plus_byte hy] at HP
      have hl2 := dStep_lt x y
      obtain ⟨x2, hx2⟩ : ∃ x2, x2 = dStep x y := ⟨_, rfl⟩
      rw [← hx2] at HP hl2
      obtain ⟨t, ht⟩ : ∃ t, t = x * 1000003 % 2305843009213693951 := ⟨_, rfl⟩
      rw [← ht] at HT HP
      have HX2 := Lib.hid hx2
      have HL2 := Lib.hid hl2
      clear hye hl hc ht hx2 hl2
      go_wp2_with fail
      refine HT.out.mono ?_
      rintro e w1 ⟨rfl, rfl⟩
      go_wp2_with fail
      refine HP.out.mono ?_
      rintro e w2 ⟨rfl, rfl⟩
      go_wp2
      go_roundg (m - (j + 1))
      case measure => have := HK.out; omega
      case rel => exact ⟨j + 1, x2, rfl, by omega, by go_num, rfl, Lib.hid ⟨HL2.out, by
        have h3 : y = l[j]'(by have := HL.out; omega) := by rw [HY.out]; simp [List.getD, show j < l.length by have := HL.out; omega]
        rw [List.take_succ_eq_append_getElem (by have := HL.out; omega), dFrom_snoc, ← HX.out.2, HX2.out, ← h3]⟩, HW.out⟩
    · have : j = m := by omega
      subst this
      have h1 := HX.out.2
      rw [List.take_of_length_le (by have := HR.out.1; omega)] at h1
      have hxr : x = r := by rw [HRE.out]; exact h1
      subst hxr
      have hw := HW.out
      subst hw
      clear h1
      go_wp2
      go_returns
      exact ⟨rfl, rfl⟩

end Go.Proofs.YtaijldcfoaeogaaGreat
