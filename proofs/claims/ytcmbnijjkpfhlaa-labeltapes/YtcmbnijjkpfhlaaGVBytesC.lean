/- The contract of a reader's Bytes, over any world. -/
import Derived.Test.YtcmbnijjkpfhlaaVRdr
namespace Go.Proofs.Ytcmbnijjkpfhlaa
open Go.RowKit

/-- The string that is read: it, the first error then, and what is left. -/
def rByt (E : Nat) (l : List Nat) (most : Nat) : List Nat × Nat × List Nat :=
  if (rNum E l most).2.1 ≠ 0 then ([], (rNum E l most).2.1, (rNum E l most).2.2)
  else if (rNum E l most).2.2.length < (rNum E l most).1 then ([], 2, (rNum E l most).2.2)
  else ((rNum E l most).2.2.take (rNum E l most).1, 0, (rNum E l most).2.2.drop (rNum E l most).1)

theorem rByt_err {E : Nat} {l : List Nat} {most k E1 : Nat} {l1 : List Nat} (h : rNum E l most = (k, E1, l1)) (hE : E1 ≠ 0) : rByt E l most = ([], E1, l1) := by simp [rByt, h, hE]

theorem rByt_cut {E : Nat} {l : List Nat} {most k : Nat} {l1 : List Nat} (h : rNum E l most = (k, 0, l1)) (hk : l1.length < k) : rByt E l most = ([], 2, l1) := by simp [rByt, h, hk]

theorem rByt_ok {E : Nat} {l : List Nat} {most k : Nat} {l1 : List Nat} (h : rNum E l most = (k, 0, l1)) (hk : ¬ l1.length < k) : rByt E l most = (l1.take k, 0, l1.drop k) := by simp [rByt, h, hk]

theorem u64_wrap {m : Nat} (h : m ≤ 1000000) : IntKind.u64.wrap (m : Int) = m := by rw [IntKind.wrap_u64]; omega

set_option maxHeartbeats 400000 in
theorem bytes_any (w : World) (g E : Nat) (l : List Nat) (m : Int) (most : Nat) (hm : m = most ∨ (m < 0 ∧ most = 0)) (hm2 : most ≤ 1000000) (h : Rdr w 125 g E l) :
    Calls Try.prog 59 #[.pointer (some ⟨g, 0, none⟩), .int .i64 m] w fun e w' => ∃ a n c, e = .returned (.slice a n c) ∧ Rd w' a n (rByt E l most).1 ∧ Rdr w' 125 g (rByt E l most).2.1 (rByt E l most).2.2 ∧ w.grownBy w' (some g) := by
  have hN := number_any w g E l most h
  obtain ⟨⟨k, E1, l1⟩, hk⟩ : ∃ k, k = rNum E l most := ⟨_, rfl⟩
  rw [← hk] at hN
  dsimp only at hN
  have HN : Hid (∀ x : Int, x = most → Calls Try.prog 60 #[.pointer (some ⟨g, 0, none⟩), .int .u64 x] w fun e w' => e = .returned (.int .u64 (k : Int)) ∧ Rdr w' 125 g E1 l1 ∧ w.grownBy w' (some g)) := by
    intro x hx
    rw [hx]; exact hN
  have HK := Lib.hid hk.symm
  clear hN hk h
  go_enter Try.func59, Try.ntmps59
  go_wp2_with fail
  all_goals
    refine (HN.out _ (by omega)).mono ?_
    rintro e w1 ⟨rfl, hr1, hg1⟩
    have HR := Lib.hid hr1
    obtain ⟨a, n, c, hg, hr, hc, hmx⟩ := hr1
    have h0 : w1.cell? ⟨g, 0, none⟩ = some (.slice a n c) := by rw [cell_of_row w1 g 0 _ 125 (0, 0) hg]; rfl
    have h1 : w1.cell? ⟨g, 1, none⟩ = some (.int .i64 (E1 : Int)) := by rw [cell_of_row w1 g 1 _ 125 (0, 0) hg]; rfl
    have f0 : w1.frozen? ⟨g, 0, none⟩ = false := by simp [World.frozen?, hg]
    have f1 : w1.frozen? ⟨g, 1, none⟩ = false := by simp [World.frozen?, hg]
    have HG := Lib.hid hg
    have HRd := Lib.hid hr
    have HL := Lib.hid hr.1
    clear hg hr
    by_cases hE : E1 = 0
    · subst hE
      by_cases hk : n < k
      · have hk' : (n : Int) < (k : Int) := by omega
        have HB := Lib.hid (rByt_cut HK.out (by have := HL.out; omega))
        go_wp2_with fail
        refine (failed_any w1 g 0 l1 HR.out).mono ?_
        rintro e w' ⟨rfl, rfl⟩
        go_wp2
        go_ret
        rw [HB.out]
        exact ⟨_, _, _, rfl, ⟨rfl, by simp, by omega⟩, Rdr.fail 2 HG.out HRd.out hc hmx, hg1.trans (grown_set _ _ _ _)⟩
      · have hk' : (k : Int) ≤ (n : Int) := by omega
        have HB := Lib.hid (rByt_ok HK.out (by have := HL.out; omega))
        have hs := fun W => slice_from a n c k .u64 (by omega) W
        have hs2 := fun W => slice_to a n c k .u64 (by omega) W
        go_wp2_with fail
        refine (failed_any w1 g 0 l1 HR.out).mono ?_
        rintro e w' ⟨rfl, rfl⟩
        go_wp2_with fail
        refine (clone_sl a k c (l1.take k) w1 (HRd.out.first (by omega)) (by omega)).mono ?_
        rintro e w2 ⟨a2, c2, rfl, hr2, _, hb2⟩
        have hgl : g < w1.heap.size := World.block_lt_of_cell? w1 _ h0
        have HG2 : Hid (w2.heap[g]? = some (.cells #[.slice a n c, .int .i64 ((0 : Nat) : Int)] 125 (0, 0))) := (hb2.block g hgl).trans HG.out
        have HRd2 := Lib.hid (HRd.out.later hb2)
        have HR2 := Lib.hid hr2
        have HW := Lib.hid hb2
        have g0 : w2.cell? ⟨g, 0, none⟩ = some (.slice a n c) := by rw [cell_of_row w2 g 0 _ 125 (0, 0) HG2.out]; rfl
        have g1 : w2.frozen? ⟨g, 0, none⟩ = false := by simp [World.frozen?, HG2.out]
        clear hr2 hb2 h0 h1 f0 f1
        go_wp2
        go_ret
        rw [HB.out]
        exact ⟨_, _, _, rfl, HR2.out.beside HG2.out (grown_set _ _ _ _), Rdr.move (E := 0) (by omega) HG2.out HRd2.out hc hmx, (hg1.trans (grownBy_of_below HW.out _)).trans (grown_set _ _ _ _)⟩
    · have hE' : ((E1 : Int) != 0) = true := by simp; omega
      have HB := Lib.hid (rByt_err HK.out hE)
      go_wp2_with fail
      refine (failed_any w1 g E1 l1 HR.out).mono ?_
      rintro e w' ⟨rfl, rfl⟩
      go_wp2
      go_ret
      rw [HB.out]
      exact ⟨_, _, _, rfl, ⟨rfl, by simp, by omega⟩, HR.out, hg1⟩

end Go.Proofs.Ytcmbnijjkpfhlaa

/- The contract of a reader's Bytes, with what room there is, over any world. -/
namespace Go.Proofs.Ytcmbnijjkpfhlaa
open Go.RowKit

set_option maxHeartbeats 400000 in
theorem bytesC_any (w : World) (g E : Nat) (l : List Nat) (m : Int) (most : Nat) (hm : m = most ∨ (m < 0 ∧ most = 0)) (hm2 : most ≤ 1000000) (h : Rdr w 125 g E l) :
    Calls Try.prog 59 #[.pointer (some ⟨g, 0, none⟩), .int .i64 m] w fun e w' => ∃ a n c, e = .returned (.slice a n c) ∧ n ≤ c ∧ Rd w' a n (rByt E l most).1 ∧ Rdr w' 125 g (rByt E l most).2.1 (rByt E l most).2.2 ∧ w.grownBy w' (some g) := by
  have hN := number_any w g E l most h
  obtain ⟨⟨k, E1, l1⟩, hk⟩ : ∃ k, k = rNum E l most := ⟨_, rfl⟩
  rw [← hk] at hN
  dsimp only at hN
  have HN : Hid (∀ x : Int, x = most → Calls Try.prog 60 #[.pointer (some ⟨g, 0, none⟩), .int .u64 x] w fun e w' => e = .returned (.int .u64 (k : Int)) ∧ Rdr w' 125 g E1 l1 ∧ w.grownBy w' (some g)) := by
    intro x hx
    rw [hx]; exact hN
  have HK := Lib.hid hk.symm
  clear hN hk h
  go_enter Try.func59, Try.ntmps59
  go_wp2_with fail
  all_goals
    refine (HN.out _ (by omega)).mono ?_
    rintro e w1 ⟨rfl, hr1, hg1⟩
    have HR := Lib.hid hr1
    obtain ⟨a, n, c, hg, hr, hc, hmx⟩ := hr1
    have h0 : w1.cell? ⟨g, 0, none⟩ = some (.slice a n c) := by rw [cell_of_row w1 g 0 _ 125 (0, 0) hg]; rfl
    have h1 : w1.cell? ⟨g, 1, none⟩ = some (.int .i64 (E1 : Int)) := by rw [cell_of_row w1 g 1 _ 125 (0, 0) hg]; rfl
    have f0 : w1.frozen? ⟨g, 0, none⟩ = false := by simp [World.frozen?, hg]
    have f1 : w1.frozen? ⟨g, 1, none⟩ = false := by simp [World.frozen?, hg]
    have HG := Lib.hid hg
    have HRd := Lib.hid hr
    have HL := Lib.hid hr.1
    clear hg hr
    by_cases hE : E1 = 0
    · subst hE
      by_cases hk : n < k
      · have hk' : (n : Int) < (k : Int) := by omega
        have HB := Lib.hid (rByt_cut HK.out (by have := HL.out; omega))
        go_wp2_with fail
        refine (failed_any w1 g 0 l1 HR.out).mono ?_
        rintro e w' ⟨rfl, rfl⟩
        go_wp2
        go_ret
        rw [HB.out]
        exact ⟨_, _, _, rfl, by omega, ⟨rfl, by simp, by omega⟩, Rdr.fail 2 HG.out HRd.out hc hmx, hg1.trans (grown_set _ _ _ _)⟩
      · have hk' : (k : Int) ≤ (n : Int) := by omega
        have HB := Lib.hid (rByt_ok HK.out (by have := HL.out; omega))
        have hs := fun W => slice_from a n c k .u64 (by omega) W
        have hs2 := fun W => slice_to a n c k .u64 (by omega) W
        go_wp2_with fail
        refine (failed_any w1 g 0 l1 HR.out).mono ?_
        rintro e w' ⟨rfl, rfl⟩
        go_wp2_with fail
        refine (clone_sl a k c (l1.take k) w1 (HRd.out.first (by omega)) (by omega)).mono ?_
        rintro e w2 ⟨a2, c2, rfl, hr2, hc2, hb2⟩
        have hgl : g < w1.heap.size := World.block_lt_of_cell? w1 _ h0
        have HG2 : Hid (w2.heap[g]? = some (.cells #[.slice a n c, .int .i64 ((0 : Nat) : Int)] 125 (0, 0))) := (hb2.block g hgl).trans HG.out
        have HRd2 := Lib.hid (HRd.out.later hb2)
        have HR2 := Lib.hid hr2
        have HW := Lib.hid hb2
        have g0 : w2.cell? ⟨g, 0, none⟩ = some (.slice a n c) := by rw [cell_of_row w2 g 0 _ 125 (0, 0) HG2.out]; rfl
        have g1 : w2.frozen? ⟨g, 0, none⟩ = false := by simp [World.frozen?, HG2.out]
        clear hr2 hb2 h0 h1 f0 f1
        go_wp2
        go_ret
        rw [HB.out]
        exact ⟨_, _, _, rfl, by omega, HR2.out.beside HG2.out (grown_set _ _ _ _), Rdr.move (E := 0) (by omega) HG2.out HRd2.out hc hmx, (hg1.trans (grownBy_of_below HW.out _)).trans (grown_set _ _ _ _)⟩
    · have hE' : ((E1 : Int) != 0) = true := by simp; omega
      have HB := Lib.hid (rByt_err HK.out hE)
      go_wp2_with fail
      refine (failed_any w1 g E1 l1 HR.out).mono ?_
      rintro e w' ⟨rfl, rfl⟩
      go_wp2
      go_ret
      rw [HB.out]
      exact ⟨_, _, _, rfl, by omega, ⟨rfl, by simp, by omega⟩, HR.out, hg1⟩

end Go.Proofs.Ytcmbnijjkpfhlaa
