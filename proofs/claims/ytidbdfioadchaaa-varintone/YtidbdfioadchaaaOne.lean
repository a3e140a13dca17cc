/- VarintOne returns true at every input: what Next reads is put as it was, in at most ten bytes; its error is the document's; the argument reads as it did. No condition. -/
import Derived.Test.YtidbdfioadchaaaLives
import Derived.Test.YtidbdfioadchaaaRefNext
import Derived.Deep.RegionWith
import Derived.Deep.DrawnRows
import Derived.ProofKit
import Derived.OpenShut
import Derived.ShutString
import Derived.ChangeOld
namespace Go.Proofs.Ytidbdfioadchaaa
open Go.ChangeShapes Go.WideShapes Go.ChangeAt Go.RowKit

theorem Rd.take {w : World} {a : Option Addr} {n k : Nat} {l : List Nat} (h : Rd w a n l) (hk : k ≤ n) : Rd w a k (l.take k) := by
  refine ⟨by rw [List.length_take, h.1]; omega, fun x hx => h.2.1 x (List.mem_of_mem_take hx), fun h0 => ?_⟩
  obtain ⟨b, o, e, hc⟩ := h.2.2 (by omega)
  refine ⟨b, o, e, fun j hj => ?_⟩
  rw [hc j (by omega)]
  have h1 : j < l.length := by rw [h.1]; omega
  simp [List.getD, h1, hj]

theorem vEnc_flat (n : Nat) : [n].flatMap vEnc = vEnc n := by simp

/-- Put(nil, n), its slice laid by the caller. -/
theorem put_one (W : World) (N : Nat) (hN : N ≤ 18446744073709551615) (g : Nat) (hc : W.cell? ⟨g, 0, none⟩ = some (.int .u64 (N : Int))) :
    Calls Try.prog 10 #[.slice none 0 0, .slice (some ⟨g, 0, none⟩) 1 1] W fun e w' => ∃ v, e = .returned v ∧ (convert 22 9 v).run Try.prog w' = .ok (.string (strB (vEnc N))) w' ∧ Below W.heap.size W w' := by
  refine (put_any none 0 0 [] (some ⟨g, 0, none⟩) 1 1 [N] W ⟨rfl, by simp, by omega⟩ ⟨rfl, by simpa using hN, fun _ => ⟨g, 0, rfl, fun j hj => ?_⟩⟩ (by omega) (by omega)).mono ?_
  · obtain rfl : j = 0 := by omega
    simpa using hc
  · rintro e w' ⟨v, rfl, ho, hb⟩
    rw [vEnc_flat, List.nil_append] at ho
    exact ⟨v, rfl, ho.conv, hb⟩

attribute [local go_sem ↓] Go.wp_at_zero Go.wp_at_succ
set_option maxHeartbeats 4000000 in
set_option maxRecDepth 100000 in
theorem varintOne_walk (a : Option Addr) (n c : Nat) (l : List Nat) (w : World) (h : Rd w a n l) (hnc : n ≤ c) :
    Calls Try.prog 5 #[.slice a n c] w fun e w' => e = .returned (.bool true) ∧ Below w.heap.size w w' := by
  have HR := Lib.hid h
  clear h
  by_cases hbig : 1000 < n
  · go_enter Try.func5, Try.ntmps5
    go_wp2_with fail
    refine (lives_any w).mono ?_
    rintro e w1 ⟨rfl, hb⟩
    go_wp2_with fail
    refine (lives_any w1).mono ?_
    rintro e w2 ⟨rfl, hb2⟩
    go_wp2
    go_ret
    exact ⟨rfl, hb.trans (hb2.mono hb.size)⟩
  · have hN := fun W (hr : Rd W a n l) => next_any a n c l W hr (by omega)
    have hM := fun W (hr : Rd W a n l) => refNext_any a n c l W hr (by omega)
    obtain ⟨E, hE⟩ : ∃ E, E = vErr l := ⟨_, rfl⟩
    obtain ⟨K, hK⟩ : ∃ K, K = vLen l := ⟨_, rfl⟩
    obtain ⟨X, hX⟩ : ∃ X, X = vNum l := ⟨_, rfl⟩
    rw [← hE, ← hK, ← hX] at hN hM
    have HN := Lib.hid hN
    have HM := Lib.hid hM
    have HE := Lib.hid hE
    have HK := Lib.hid hK
    have HX := Lib.hid hX
    clear hN hM hE hK hX
    by_cases hz : E = 0
    · subst hz
      obtain ⟨f1, f2, f3, f4, f5⟩ := vOne HR.out.2.1 HE.out.symm
      rw [← HK.out] at f2 f3 f4
      rw [← HX.out, ← HK.out] at f1
      rw [← HX.out] at f5
      have hKn : K ≤ n := by have := HR.out.1; omega
      obtain ⟨b, o, rfl, _⟩ := HR.out.2.2 (by omega)
      have F1 := Lib.hid f1
      have F5 := Lib.hid f5
      clear f1 f5
      have hKi : (K : Int) ≤ (c : Int) := by omega
      have hKi2 : (K : Int) ≤ 10 := by omega
      go_enter Try.func5, Try.ntmps5
      go_wp2_with fail
      refine (lives_any w).mono ?_
      rintro e w1 ⟨rfl, hb⟩
      have H1 := Lib.hid (HR.out.later hb)
      go_wp2_with fail
      refine (HN.out w1 H1.out).mono ?_
      rintro e w2 ⟨rfl, rfl⟩
      go_wp2_with fail
      refine (HM.out w1 H1.out).mono ?_
      rintro e w2 ⟨rfl, rfl⟩
      go_wp2_with fail
      have HP := Lib.hid (put_one (w1.alloc (.cells #[.int .u64 (X : Int)] 26)).drew X (by have := F5.out; omega) w1.heap.size (by simp))
      rw [F1.out] at HP
      have hc1 := conv_rd ((H1.out.take hKn).later (Below.refl _ w1).drew) c
      have hc2 := conv_rd ((H1.out.take hKn).later ((Below.refl _ w1).alloc (Nat.le_refl _) (.cells #[.int .u64 (X : Int)] 26)).drew) c
      clear HN HM HE HK HX HR F1 F5
      go_region_with (go_at_call 10; refine HP.out.mono ?_; rintro e w2 ⟨v, rfl, hcv, hb2⟩; have HB2 : Hid (Below w1.heap.size w1 w2) := ((((Below.refl _ _).alloc (Nat.le_refl _) _).drew).trans (hb2.mono (by simp))); have hc3 := conv_rd ((H1.out.take hKn).later HB2.out) c)
      all_goals
        go_wp2
        go_ret
        exact ⟨rfl, hb.trans (HB2.out.mono hb.size)⟩
    · have hne := vNum_err (l := l) (by rw [← HE.out]; exact hz)
      rw [← HK.out, ← HX.out] at hne
      obtain ⟨rfl, rfl⟩ := hne
      have hz' : ((E : Int) != 0) = true := by simp; omega
      go_enter Try.func5, Try.ntmps5
      go_wp2_with fail
      refine (lives_any w).mono ?_
      rintro e w1 ⟨rfl, hb⟩
      have H1 := Lib.hid (HR.out.later hb)
      go_wp2_with fail
      refine (HN.out w1 H1.out).mono ?_
      rintro e w2 ⟨rfl, rfl⟩
      go_wp2_with fail
      refine (HM.out w1 H1.out).mono ?_
      rintro e w2 ⟨rfl, rfl⟩
      go_wp2
      go_ret
      exact ⟨rfl, hb⟩

end Go.Proofs.Ytidbdfioadchaaa
