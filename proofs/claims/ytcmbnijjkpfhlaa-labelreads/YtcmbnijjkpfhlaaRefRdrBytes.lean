/- The contract of the document's own Bytes, over any world. -/
import Derived.Test.YtcmbnijjkpfhlaaRefRdr
import Derived.Test.YtcmbnijjkpfhlaaVRdrBytes
import Derived.Test.YtcmbnijjkpfhlaaVRdrHi
namespace Go.Proofs.Ytcmbnijjkpfhlaa
open Go.RowKit

set_option maxHeartbeats 400000 in
theorem refRdrBytes_any (w : World) (g E : Nat) (l : List Nat) (m : Int) (most : Nat) (hm : m = most ∨ (m < 0 ∧ most = 0)) (hm2 : most ≤ 1000000) (h : Rdr w 95 g E l) :
    Calls Try.prog 38 #[.pointer (some ⟨g, 0, none⟩), .int .i64 m] w fun e w' => ∃ a n c, e = .returned (.slice a n c) ∧ n ≤ c ∧ Rd w' a n (rByt E l most).1 ∧ Rdr w' 95 g (rByt E l most).2.1 (rByt E l most).2.2 ∧ w.grownBy w' (some g) := by
  have hN := refNumber_any w g E l most h
  have hle := rNum_le E l most
  obtain ⟨⟨k, E1, l1⟩, hk⟩ : ∃ k, k = rNum E l most := ⟨_, rfl⟩
  rw [← hk] at hN hle
  dsimp only at hN hle
  have HN : Hid (∀ x : Int, x = most → Calls Try.prog 39 #[.pointer (some ⟨g, 0, none⟩), .int .u64 x] w fun e w' => e = .returned (.int .u64 (k : Int)) ∧ Rdr w' 95 g E1 l1 ∧ w.grownBy w' (some g)) := by
    intro x hx
    rw [hx]; exact hN
  have HK := Lib.hid hk.symm
  clear hN hk h
  have hk6 : k ≤ 1000000 := by omega
  clear hle
  rcases hm with rfl | ⟨hneg, rfl⟩
  all_goals
    go_enter Try.func38, Try.ntmps38
    go_wp2_with fail
    refine (HN.out _ (by omega)).mono ?_
    rintro e w1 ⟨rfl, hr1, hg1⟩
    have HR := Lib.hid hr1
    obtain ⟨a, n, c, hg, hr, hc, hmx⟩ := hr1
    have h0 : w1.cell? ⟨g, 0, none⟩ = some (.slice a n c) := by rw [cell_of_row w1 g 0 _ 95 (0, 0) hg]; rfl
    have h1 : w1.cell? ⟨g, 1, none⟩ = some (.int .i64 (E1 : Int)) := by rw [cell_of_row w1 g 1 _ 95 (0, 0) hg]; rfl
    have f0 : w1.frozen? ⟨g, 0, none⟩ = false := by simp [World.frozen?, hg]
    have f1 : w1.frozen? ⟨g, 1, none⟩ = false := by simp [World.frozen?, hg]
    have HG := Lib.hid hg
    have HRd := Lib.hid hr
    have HL := Lib.hid hr.1
    clear hg hr
    by_cases hE : E1 = 0
    · subst hE
      by_cases hk : n < k
      · have hk' : (n : Int) < (k : Int) := by omega
        have HB := Lib.hid (rByt_cut HK.out (by have := HL.out; omega))
        go_wp2
        go_ret
        rw [HB.out]
        exact ⟨_, _, _, rfl, by omega, ⟨rfl, by simp, by omega⟩, Rdr.fail 2 HG.out HRd.out hc hmx, hg1.trans (grown_set _ _ _ _)⟩
      · have hk' : (k : Int) ≤ (n : Int) := by omega
        have HB := Lib.hid (rByt_ok HK.out (by have := HL.out; omega))
        have hs := fun W => slice_from a n c k .i64 (by omega) W
        have hs2 := fun W => slice_to a n c k .i64 (by omega) W
        go_wp2
        go_ret
        rw [HB.out]
        exact ⟨_, _, _, rfl, by omega, (HRd.out.first (by omega)).beside HG.out (grown_set _ _ _ _), Rdr.move (E := 0) (by omega) HG.out HRd.out hc hmx, hg1.trans (grown_set _ _ _ _)⟩
    · have hE' : ((E1 : Int) != 0) = true := by simp; omega
      have hE2 : ((E1 : Int) == 0) = false := by simp; omega
      have HB := Lib.hid (rByt_err HK.out hE)
      go_wp2
      go_ret
      rw [HB.out]
      exact ⟨_, _, _, rfl, by omega, ⟨rfl, by simp, by omega⟩, HR.out, hg1⟩
end Go.Proofs.Ytcmbnijjkpfhlaa
