/- Is an image the document's: Like decides. -/
import Derived.Test.YtaijjogjohbheaaGreatILike
import Derived.Test.YtaijjogjohbheaaGreatGAppGToIEq
namespace Go.Proofs.YtaijjogjohbheaaGreat
open Go.RowKit
set_option maxRecDepth 100000
set_option linter.unusedSimpArgs false

theorem same_len256 {F G : List (List Nat)} (hF : F.length = 256) (hG : G.length = 256) (h : ∀ i, i < 256 → G.getD i [] = F.getD i []) : G = F := by
  refine List.ext_getElem (by omega) fun i h1 h2 => ?_
  have := h i (by omega)
  simpa [List.getD, h1, h2] using this

set_option maxHeartbeats 4000000 in
set_option maxRecDepth 100000 in
theorem like_dec (w : World) (g b n : Nat) (G F : List (List Nat)) (h : Img w g b n G) (hF : okF F) :
    Calls Tryz.prog 31 #[.pointer (some ⟨g, 0, none⟩), .agg (cS F).toArray] w fun e w' => e = .returned (.bool (decide (G = F))) ∧ Below w.heap.size w w' := by
  have HI := Lib.hid h
  have HFO := Lib.hid hF
  obtain ⟨g3, hg3⟩ : ∃ g3, g3 = w.heap.size := ⟨_, rfl⟩
  clear h hF
  go_enter Tryz.func31, Tryz.ntmps31
  go_upto_region 1 with fail
  change Code.wp _ _ _ _ (w.alloc (arrObj F))
  obtain ⟨w2, h2⟩ : ∃ w2, w2 = w.alloc (arrObj F) := ⟨_, rfl⟩
  rw [← h2, ← hg3]
  have HB2 : Hid (Below g3 w w2) := Lib.hid (by rw [h2, hg3]; exact Below.alloc0 _ _)
  have HS2 : Hid (w2.heap.size = g3 + 1) := Lib.hid (by rw [h2, hg3]; simp)
  have HA2 : Hid (w2.heap[g3]? = some (arrObj F)) := Lib.hid (by rw [h2, hg3]; exact heap_alloc_last _ _)
  have HG := Lib.hid hg3
  have HI2 := Lib.hid (HI.out.later (by rw [← HG.out]; exact HB2.out))
  clear h2 hg3
  go_wp2
  go_loopg [8] 256 (fun gk i wr => ∃ k : Nat, gk = 256 - k ∧ k ≤ 256 ∧ i = .int .i64 (k : Int) ∧ Hid (Below w2.heap.size w2 wr) ∧ Hid (∀ i, i < k → G.getD i [] = F.getD i []))
  case atStart => exact ⟨0, rfl, by omega, rfl, Lib.hid (Below.refl _ _), Lib.hid (by intro i hi; omega)⟩
  case round =>
    obtain ⟨k, hgk, hk, rfl, HB, HEQ⟩ := hrel
    have HGK := Lib.hid hgk
    clear hgk
    by_cases hlt : k < 256
    · have hlt' : (k : Int) < 256 := by omega
      have HIr := Lib.hid (HI2.out.later HB.out)
      have hwf : (Lit.int .i64 (k : Int)).wf = true := WalkArith.wf_i64 (by omega)
      obtain ⟨l, hl⟩ : ∃ l, l = fAt G (k : Int) := ⟨_, rfl⟩
      obtain ⟨m, hm⟩ : ∃ m, m = fAt F (k : Int) := ⟨_, rfl⟩
      have hfk : F.getD k [] = m := by rw [hm, fAt_nat]
      have HGKL : Hid (G.getD k [] = l) := Lib.hid (by rw [hl, fAt_nat])
      have hmb : ∀ x ∈ m, x < 256 := by
        rcases HFO.out.at_ (k : Int) with h | h
        · rw [hm, h]; simp
        · rw [hm]; exact h.2
      have hlb : ∀ x ∈ l, x < 256 := by
        rcases HI.out.ok.at_ (k : Int) with h | h
        · rw [hl, h]; simp
        · rw [hl]; exact h.2
      have HNE : Hid (l ≠ m → decide (G = F) = false) := Lib.hid fun h => decide_eq_false fun e => h (by rw [hl, hm, e])
      have HNX : Hid (l = m → ∀ i, i < k + 1 → G.getD i [] = F.getD i []) := Lib.hid fun h i hi => by
        rcases Nat.lt_or_ge i k with h1 | h1
        · exact HEQ.out i h1
        · obtain rfl : i = k := by omega
          rw [HGKL.out, hfk]; exact h
      have HLB := Lib.hid hlb
      have HMB := Lib.hid hmb
      clear hlb hmb HEQ HGKL hm
      rcases HI.out.ok.at_ (k : Int) with h0 | h0
      · have HGet := Lib.hid (get_hole wr g b n G (k : Int) HIr.out hwf h0)
        have hl0 : l = [] := by rw [hl, h0]
        subst hl0
        have HFK := Lib.hid hfk
        clear hl hfk h0 hwf
        go_wp2_with fail
        refine HGet.out.mono ?_
        rintro e w3 ⟨rfl, hb3⟩
        have HB3 := Lib.hid hb3
        have hc : w3.cell? ⟨g3, k, none⟩ = some (.string (strB m)) := by
          have := arr_cell (w := w3) (j := k) ((hb3.block g3 (by have := HB.out.size; have := HS2.out; omega)).trans ((HB.out.block g3 (by have := HS2.out; omega)).trans HA2.out)) (by rw [HFO.out.1]; exact hlt)
          rw [HFK.out] at this
          exact this
        have hcv : ∀ W : World, (convert 40 9 (.slice none 0 0)).run Tryz.prog W = .ok (.string { data := #[] }) W := fun W => conv_rd (w := W) (a := none) (n := 0) (l := []) ⟨rfl, by simp, by simp⟩ 0
        clear hb3
        by_cases hm0 : m = []
        · have HM0 := Lib.hid hm0
          rw [hm0, strB_nil] at hc
          clear hm0
          go_upto_region 5 with fail
          go_quiet (fail)
          go_wp2
          go_roundg (256 - (k + 1))
          case measure => have := HGK.out; omega
          case rel => exact ⟨k + 1, rfl, by omega, by go_num, Lib.hid ((HB.out.trans (HB3.out.mono HB.out.size)).trans ⟨rfl, rfl, rfl, Nat.le_refl _, fun _ _ => rfl⟩), Lib.hid (HNX.out HM0.out.symm)⟩
        · have hse := strB_ne hm0
          have HM0 : Hid (decide (G = F) = false) := Lib.hid (HNE.out fun e => hm0 e.symm)
          generalize strB m = sm at hc hse
          have hse1 : (sm.toList == ([] : List UInt8)) = false := by simp [hse]
          have hse2 : sm.toList.isEmpty = false := by simp [hse]
          clear hse hm0
          go_upto_region 5 with fail
          go_quiet (fail)
          go_wp2
          go_ret
          have hbz : Below w2.heap.size w2 _ := (HB.out.trans (HB3.out.mono HB.out.size)).drew
          exact ⟨by rw [HM0.out]; rfl, by rw [← HG.out]; exact HB2.out.trans ((hbz.mono (show g3 ≤ w2.heap.size by have h1 := HS2.out; omega)).trans (show Below g3 w3.drew _ from ⟨rfl, rfl, rfl, Nat.le_refl _, fun _ _ => rfl⟩))⟩
      · have hne := h0.ne
        have HGet := Lib.hid (get_block wr g b n G (k : Int) HIr.out hwf hne)
        rw [← hl] at HGet hne
        have HFK := Lib.hid hfk
        clear hl hfk h0 hwf
        go_wp2_with fail
        refine HGet.out.mono ?_
        rintro e w3 ⟨a3, c3, rfl, hr3, hb3⟩
        have HB3 := Lib.hid hb3
        have hc : w3.cell? ⟨g3, k, none⟩ = some (.string (strB m)) := by
          have := arr_cell (w := w3) (j := k) ((hb3.block g3 (by have := HB.out.size; have := HS2.out; omega)).trans ((HB.out.block g3 (by have := HS2.out; omega)).trans HA2.out)) (by rw [HFO.out.1]; exact hlt)
          rw [HFK.out] at this
          exact this
        have hcv : ∀ i, (convert 40 9 (.slice a3 32 c3)).run Tryz.prog (w3.drewN i) = .ok (.string (strB l)) (w3.drewN i) := fun i => conv_rd (w := w3.drewN i) hr3 c3
        by_cases hm0 : m = []
        · have HM0 : Hid (decide (G = F) = false) := Lib.hid (HNE.out fun e => hne (e.trans hm0))
          rw [hm0, strB_nil] at hc
          clear hm0 hb3 hr3 hne
          generalize strB l = sl at hcv
          go_upto_region 5 with fail
          go_quiet (fail)
          go_wp2
          go_ret
          have hbz : Below w2.heap.size w2 _ := (HB.out.trans (HB3.out.mono HB.out.size)).drew
          exact ⟨by rw [HM0.out]; rfl, by rw [← HG.out]; exact HB2.out.trans ((hbz.mono (show g3 ≤ w2.heap.size by have h1 := HS2.out; omega)).trans (show Below g3 w3.drew _ from ⟨rfl, rfl, rfl, Nat.le_refl _, fun _ _ => rfl⟩))⟩
        · have hse := strB_ne hm0
          have hsame := strB_same HLB.out HMB.out
          by_cases hlm : l = m
          · have HM0 := Lib.hid hlm
            rw [hlm] at hcv
            clear hsame
            generalize strB m = sm at hc hse hcv
            have hse1 : (sm.toList == ([] : List UInt8)) = false := by simp [hse]
            have hse2 : sm.toList.isEmpty = false := by simp [hse]
            have HSE := Lib.hid hse
            clear hse hm0 hb3 hr3 hne hlm
            go_upto_region 5 with fail
            go_quiet (fail)
            go_wp2
            go_roundg (256 - (k + 1))
            case measure => have := HGK.out; omega
            case rel => exact ⟨k + 1, rfl, by omega, by go_num, Lib.hid ((HB.out.trans (HB3.out.mono HB.out.size)).trans ⟨rfl, rfl, rfl, Nat.le_refl _, fun _ _ => rfl⟩), Lib.hid (HNX.out HM0.out)⟩
          · have HM0 : Hid (decide (G = F) = false) := Lib.hid (HNE.out hlm)
            rw [decide_eq_false hlm] at hsame
            generalize strB m = sm at hc hse hsame
            generalize strB l = sl at hcv hsame
            have hse1 : (sm.toList == ([] : List UInt8)) = false := by simp [hse]
            have hse2 : sm.toList.isEmpty = false := by simp [hse]
            have hse3 : (sm.toList == sl.toList) = false := by rw [Bool.beq_comm]; exact hsame
            have HSE := Lib.hid hse
            clear hse hm0 hb3 hr3 hne hlm
            go_upto_region 5 with fail
            go_quiet (fail)
            go_wp2
            go_ret
            have hbz : Below w2.heap.size w2 _ := (HB.out.trans (HB3.out.mono HB.out.size)).drew
            exact ⟨by rw [HM0.out]; rfl, by rw [← HG.out]; exact HB2.out.trans ((hbz.mono (show g3 ≤ w2.heap.size by have h1 := HS2.out; omega)).trans (show Below g3 w3.drew _ from ⟨rfl, rfl, rfl, Nat.le_refl _, fun _ _ => rfl⟩))⟩
    · obtain rfl : k = 256 := by omega
      have HD : Hid (decide (G = F) = true) := Lib.hid (decide_eq_true (same_len256 HFO.out.1 HI.out.ok.1 HEQ.out))
      clear HEQ
      go_wp2
      go_ret
      exact ⟨by rw [HD.out]; rfl, by rw [← HG.out]; exact HB2.out.trans (HB.out.mono (by rw [HS2.out]; omega))⟩

end Go.Proofs.YtaijjogjohbheaaGreat
