/- The contract of the document's own reader's Number where the reader lies beside a block, over any world. -/
import Derived.Test.YtkfnjekeegebaaaVRdrNe
import Derived.Test.YtkfnjekeegebaaaRefRdr
namespace Go.Proofs.Ytkfnjekeegebaaa
open Go.RowKit

set_option maxHeartbeats 400000 in
theorem refNumberNe_any (w : World) (g E : Nat) (l : List Nat) (most : Nat) (B : Nat) (h : RdrNe w 67 g E l B) :
    Calls Try.prog 24 #[.pointer (some ⟨g, 0, none⟩), .int .u64 (most : Int)] w fun e w' => e = .returned (.int .u64 ((rNum E l most).1 : Int)) ∧ RdrNe w' 67 g (rNum E l most).2.1 (rNum E l most).2.2 B ∧ w.grownBy w' (some g) := by
  have HR := Lib.hid h
  obtain ⟨a, n, c, hg, hr, hc, hm, hgB, hbB⟩ := h
  have HHi := Lib.hid (And.intro hgB hbB)
  have h0 : w.cell? ⟨g, 0, none⟩ = some (.slice a n c) := by rw [cell_of_row w g 0 _ 67 (0, 0) hg]; rfl
  have h1 : w.cell? ⟨g, 1, none⟩ = some (.int .i64 (E : Int)) := by rw [cell_of_row w g 1 _ 67 (0, 0) hg]; rfl
  have f0 : w.frozen? ⟨g, 0, none⟩ = false := by simp [World.frozen?, hg]
  have f1 : w.frozen? ⟨g, 1, none⟩ = false := by simp [World.frozen?, hg]
  have HG := Lib.hid hg
  have HRd := Lib.hid hr
  clear hg hr hgB hbB
  by_cases hE : E = 0
  · subst hE
    have hN := refNext_any a n c l w HRd.out hm
    obtain ⟨e, he⟩ : ∃ e, e = vErr l := ⟨_, rfl⟩
    obtain ⟨K, hK⟩ : ∃ K, K = vLen l := ⟨_, rfl⟩
    obtain ⟨X, hX⟩ : ∃ X, X = vNum l := ⟨_, rfl⟩
    rw [← he, ← hK, ← hX] at hN
    have HN := Lib.hid hN
    have HE := Lib.hid he
    have HK := Lib.hid hK
    have HX := Lib.hid hX
    clear hN he hK hX
    by_cases hz : e = 0
    · subst hz
      have hKn : K ≤ n := by
        have := (vOne HRd.out.2.1 HE.out.symm).2.2.2.1
        have h2 := HRd.out.1
        have h3 := HK.out
        omega
      have hs := fun W => slice_from a n c K .i64 hKn W
      by_cases hlong : most < X
      · have hlong' : (most : Int) < (X : Int) := by omega
        go_enter Try.func24, Try.ntmps24
        go_wp2_with fail
        refine HN.out.mono ?_
        rintro e w' ⟨rfl, rfl⟩
        go_wp2
        go_ret
        rw [rNum_long HE.out.symm (by rw [← HX.out]; exact hlong)]
        exact ⟨rfl, RdrNe.fail 5 HG.out HRd.out hc hm HHi.out, grown_set _ _ _ _⟩
      · have hlong' : (X : Int) ≤ (most : Int) := by omega
        go_enter Try.func24, Try.ntmps24
        go_wp2_with fail
        refine HN.out.mono ?_
        rintro e w' ⟨rfl, rfl⟩
        go_wp2
        go_ret
        rw [rNum_ok HE.out.symm (by rw [← HX.out]; exact hlong), ← HX.out, ← HK.out]
        exact ⟨rfl, RdrNe.move hKn HG.out HRd.out hc hm HHi.out, grown_set _ _ _ _⟩
    · have hz1 : ((e : Int) == 0) = false := by simp; omega
      have hz2 : ((e : Int) != 0) = true := by simp; omega
      go_enter Try.func24, Try.ntmps24
      go_wp2_with fail
      refine HN.out.mono ?_
      rintro e w' ⟨rfl, rfl⟩
      go_wp2
      go_ret
      rw [rNum_err (by rw [← HE.out]; exact hz), ← HE.out]
      exact ⟨rfl, RdrNe.fail _ HG.out HRd.out hc hm HHi.out, grown_set _ _ _ _⟩
  · have hE' : ((E : Int) != 0) = true := by simp; omega
    go_enter Try.func24, Try.ntmps24
    go_wp2
    go_ret
    rw [rNum_failed hE]
    exact ⟨rfl, HR.out, World.grownBy.refl _ _⟩

end Go.Proofs.Ytkfnjekeegebaaa
