/- ImageReads, walked: over any world. -/
import Derived.Test.YtlmieegemckodaaILives
import Derived.Test.YtlmieegemckodaaILike
import Derived.Test.YtlmieegemckodaaIRefRead
namespace Go.Proofs.Ytlmieegemckodaa
open Go.RowKit Go.Shelf
set_option linter.unusedSimpArgs false

theorem rByt_bytes {l : List Nat} (hb : ∀ y ∈ l, y < 256) (most : Nat) : ∀ y ∈ (rByt 0 l most).1, y < 256 := by
  intro y hy
  unfold rByt at hy
  split at hy
  · cases hy
  · split at hy
    · cases hy
    · exact rNum_bytes (E := 0) (most := most) hb y (List.mem_of_mem_take hy)

theorem imgRd_okF (l : List Nat) (hb : ∀ y ∈ l, y < 256) : okF (imgRd l).2 := by
  have h1 := rByt_bytes hb 9216
  unfold imgRd
  split
  · exact holes_ok
  · split
    · exact holes_ok
    · split
      · exact holes_ok
      · rename_i h2 h3 h4
        obtain ⟨⟨E, M, e, rest⟩, hs⟩ : ∃ p, p = rdSet 0 (rByt 0 l 9216).1 256 := ⟨_, rfl⟩
        rw [← hs] at h3 h4 ⊢
        simp only at h3 h4 ⊢
        have hE : E = 0 := by omega
        subst hE
        obtain ⟨_, _, _, hr⟩ := rdSet_back h1 hs.symm
        exact fillN_ok _ _ _ holes_ok hr (by omega)

theorem imgRd_len (l : List Nat) (hb : ∀ y ∈ l, y < 256) : (imgRd l).2.length = 256 := (imgRd_okF l hb).1

set_option maxHeartbeats 4000000 in
set_option maxRecDepth 100000 in
theorem imageReads_walk (a : Option Addr) (n c : Nat) (l : List Nat) (w : World) (h : Rd w a n l) (hc : n ≤ c) :
    Calls Try.prog 5 #[.slice a n c] w fun e w' => e = .returned (.bool true) ∧ Below w.heap.size w w' := by
  have HR := Lib.hid h
  clear h
  by_cases hn : n ≤ 12000
  · have hn' : decide ((12000 : Int) < (n : Int)) = false := by simp; omega
    go_enter Try.func5, Try.ntmps5
    go_wp2_with fail
    refine (lives9_any w).mono ?_
    rintro e w1 ⟨rfl, hb1⟩
    have HB1 := Lib.hid hb1
    have HOp := Lib.hid (open_any a n c l w1 (HR.out.later hb1) (by omega))
    clear hb1
    go_wp2_with fail
    refine HOp.out.mono ?_
    rintro e w2 ⟨g, rfl, hg, hrd, hb2⟩
    have HB2 : Hid (Below w.heap.size w w2) := Lib.hid (HB1.out.trans (hb2.mono HB1.out.size))
    have HG : Hid (w.heap.size ≤ g ∧ w.heap.size ≤ w1.heap.size ∧ w1.heap.size ≤ w2.heap.size) := Lib.hid ⟨by have := HB1.out.size; omega, HB1.out.size, hb2.size⟩
    have HRe := Lib.hid (imgRead_any w2 g l hrd HR.out.2.1)
    obtain ⟨PR, hPR⟩ : ∃ PR, PR = imgRd l := ⟨_, rfl⟩
    rw [← hPR] at HRe
    have HPR := Lib.hid hPR
    clear hg hrd hb2 hPR HOp
    go_wp2_with fail
    refine HRe.out.mono ?_
    rintro e w3 ⟨hs3, hpost⟩
    have HB3 : Hid (Below w.heap.size w w3) := Lib.hid (HB2.out.trans (hs3.below (by have := HG.out; omega) (by have := HG.out; simp; omega)))
    have hp2 : ∃ v, e = .returned (.tuple #[v, .int .i64 (PR.1 : Int)]) ∧ ((PR.1 ≠ 0 ∧ v = .pointer none) ∨ (PR.1 = 0 ∧ ∃ g' b' q, v = .pointer (some ⟨g', 0, none⟩) ∧ Img w3 g' b' q PR.2)) := by
      rcases hpost with ⟨h1, rfl⟩ | ⟨h1, g', b', q, _, _, _, rfl, h2⟩
      · exact ⟨_, rfl, .inl ⟨h1, rfl⟩⟩
      · exact ⟨_, by rw [h1]; rfl, .inr ⟨h1, g', b', q, rfl, h2⟩⟩
    obtain ⟨v, rfl, hv⟩ := hp2
    have HV := Lib.hid hv
    obtain ⟨gx, hgx⟩ : ∃ gx, gx = w3.heap.size := ⟨_, rfl⟩
    obtain ⟨w4, hw4⟩ : ∃ w4, w4 = w3.alloc (.cells #[.slice a n c, .int .i64 0] 70) := ⟨_, rfl⟩
    have hw4' : w3.alloc (.cells #[.slice a n c, .int .i64 0] 70) = w4 := hw4.symm
    have hgx' : w3.heap.size = gx := hgx.symm
    have HR4 : Hid (Rdr w4 70 gx 0 l) := Lib.hid ⟨a, n, c, by rw [hw4, hgx]; exact heap_alloc_new w3 _, by rw [hw4]; exact (HR.out.later HB3.out).later (Below.alloc0 _ _), hc, by omega⟩
    have HB4 : Hid (Below w3.heap.size w3 w4) := Lib.hid (by rw [hw4]; exact Below.alloc0 _ _)
    have HRR := Lib.hid (refImgRead_any w4 gx l HR4.out)
    rw [← HPR.out] at HRR
    obtain ⟨⟨E, F⟩, hP⟩ : ∃ p, p = PR := ⟨_, rfl⟩
    have HF : Hid (F.length = 256) := Lib.hid (by
      have h1 : PR.2.length = 256 := by rw [HPR.out]; exact imgRd_len l HR.out.2.1
      rw [← hP] at h1
      exact h1)
    rw [← hP] at HRR HV ⊢
    dsimp only at HRR HV ⊢
    have HGx := Lib.hid hgx
    clear hs3 hpost hv hw4 hgx hP HRe
    go_wp2_with fail
    refine HRR.out.mono ?_
    rintro e w5 ⟨rfl, hs5⟩
    have HB35 : Hid (Below w3.heap.size w3 w5) := Lib.hid (HB4.out.trans (hs5.below HB4.out.size (by have := HGx.out; simp; omega)))
    have HB5 : Hid (Below w.heap.size w w5) := Lib.hid (HB3.out.trans (HB35.out.mono HB3.out.size))
    clear hs5 hw4' hgx' HRR
    obtain ⟨g5, hg5⟩ : ∃ g5, g5 = w5.heap.size := ⟨_, rfl⟩
    go_upto_region 5 with (refine wpList_store_img rfl (.tmp 5) (.tmp 26) rfl _ holes F rfl rfl (by rw [zero_img]; exact heap_alloc_last _ _) List.length_replicate HF.out ?_; intro w6 H6)
    rw [← hg5]
    have HA6 : Hid (w6.heap[g5]? = some (arrObj F)) := Lib.hid (by rw [H6.out, hg5]; exact put_same (heap_alloc_last _ _))
    have HB56 : Hid (Below w5.heap.size w5 w6) := Lib.hid (by rw [H6.out]; exact (Below.alloc0 _ _).trans (put_below _ (Nat.le_refl _)))
    have HB6 : Hid (Below w.heap.size w w6) := Lib.hid (HB5.out.trans (HB56.out.mono HB5.out.size))
    clear H6 hg5
    rcases HV.out with ⟨hE, rfl⟩ | ⟨hE, g', b', q, rfl, himg⟩
    · have hE1 : ((E : Int) == 0) = false := by simp; omega
      have hE2 : ((E : Int) != 0) = true := by simp; omega
      clear hE HV
      go_wp2
      go_ret
      exact ⟨rfl, HB6.out⟩
    · subst hE
      have HLk := Lib.hid (like_any w6 g' b' q F ((himg.later HB35.out).later HB56.out))
      clear himg HV
      go_wp2_with (refine wpList_load_img rfl (.tmp 5) rfl g5 F rfl HA6.out HF.out ?_)
      refine HLk.out.mono ?_
      rintro e w7 ⟨rfl, hb7⟩
      have HB7 : Hid (Below w.heap.size w w7) := Lib.hid (HB6.out.trans (hb7.mono HB6.out.size))
      clear hb7
      go_wp2
      go_ret
      exact ⟨rfl, HB7.out⟩
  · have hn' : decide ((12000 : Int) < (n : Int)) = true := by simp; omega
    go_enter Try.func5, Try.ntmps5
    go_wp2_with fail
    refine (lives9_any w).mono ?_
    rintro e w1 ⟨rfl, hb1⟩
    have HB1 := Lib.hid hb1
    clear hb1
    go_wp2_with fail
    refine (lives9_any w1).mono ?_
    rintro e w2 ⟨rfl, hb2⟩
    have HB2 := Lib.hid hb2
    clear hb2
    go_wp2
    go_ret
    exact ⟨rfl, HB1.out.trans (HB2.out.mono HB1.out.size)⟩

end Go.Proofs.Ytlmieegemckodaa
