/- Is an image the document's: Like. -/
import Derived.Test.YtaijjogjohbheaaGreatIRefPut
import Derived.BigQuiet
namespace Go.Proofs.YtaijjogjohbheaaGreat
open Go.RowKit
set_option maxRecDepth 100000
set_option linter.unusedSimpArgs false

theorem strB_nil : strB [] = { data := #[] } := rfl

theorem strB_ne {l : List Nat} (h : l ≠ []) : (strB l).toList ≠ [] := by
  intro e
  rw [ByteArray.toList_eq] at e
  have := congrArg List.length e
  have h2 := strB_size l
  simp only [Array.length_toList, List.length_nil] at this
  have h3 : (strB l).size = (strB l).data.size := rfl
  exact h (List.eq_nil_of_length_eq_zero (by omega))

set_option maxHeartbeats 1000000 in
set_option maxRecDepth 100000 in
theorem like_any (w : World) (g b n : Nat) (F : List (List Nat)) (h : Img w g b n F) :
    Calls Tryz.prog 31 #[.pointer (some ⟨g, 0, none⟩), .agg (cS F).toArray] w fun e w' => e = .returned (.bool true) ∧ Below w.heap.size w w' := by
  have HI := Lib.hid h
  obtain ⟨g3, hg3⟩ : ∃ g3, g3 = w.heap.size := ⟨_, rfl⟩
  clear h
  go_enter Tryz.func31, Tryz.ntmps31
  go_upto_region 1 with fail
  change Code.wp _ _ _ _ (w.alloc (arrObj F))
  obtain ⟨w2, h2⟩ : ∃ w2, w2 = w.alloc (arrObj F) := ⟨_, rfl⟩
  rw [← h2, ← hg3]
  have HB2 : Hid (Below g3 w w2) := Lib.hid (by rw [h2, hg3]; exact Below.alloc0 _ _)
  have HS2 : Hid (w2.heap.size = g3 + 1) := Lib.hid (by rw [h2, hg3]; simp)
  have HA2 : Hid (w2.heap[g3]? = some (arrObj F)) := Lib.hid (by rw [h2, hg3]; exact heap_alloc_last _ _)
  have HG := Lib.hid hg3
  have HI2 := Lib.hid (HI.out.later (by rw [← HG.out]; exact HB2.out))
  clear h2 hg3
  go_wp2
  go_loopg [8] 256 (fun gk i wr => ∃ k : Nat, gk = 256 - k ∧ k ≤ 256 ∧ i = .int .i64 (k : Int) ∧ Hid (Below w2.heap.size w2 wr))
  case atStart => exact ⟨0, rfl, by omega, rfl, Lib.hid (Below.refl _ _)⟩
  case round =>
    obtain ⟨k, hgk, hk, rfl, HB⟩ := hrel
    have HGK := Lib.hid hgk
    clear hgk
    by_cases hlt : k < 256
    · have hlt' : (k : Int) < 256 := by omega
      have HIr := Lib.hid (HI2.out.later HB.out)
      have hwf : (Lit.int .i64 (k : Int)).wf = true := WalkArith.wf_i64 (by omega)
      obtain ⟨l, hl⟩ : ∃ l, l = fAt F (k : Int) := ⟨_, rfl⟩
      have hfk : F.getD k [] = l := by rw [hl, fAt_nat]
      rcases HI.out.ok.at_ (k : Int) with h0 | h0
      · have HGet := Lib.hid (get_hole wr g b n F (k : Int) HIr.out hwf h0)
        have hl0 : l = [] := by rw [hl, h0]
        subst hl0
        have HFK := Lib.hid hfk
        clear hl hfk h0 hwf
        go_wp2_with fail
        refine HGet.out.mono ?_
        rintro e w3 ⟨rfl, hb3⟩
        have HB3 := Lib.hid hb3
        have hc : w3.cell? ⟨g3, k, none⟩ = some (.string (strB [])) := by
          have := arr_cell (w := w3) (j := k) ((hb3.block g3 (by have := HB.out.size; have := HS2.out; omega)).trans ((HB.out.block g3 (by have := HS2.out; omega)).trans HA2.out)) (by rw [HI.out.ok.1]; exact hlt)
          rw [HFK.out] at this
          exact this
        rw [strB_nil] at hc
        have hcv : ∀ W : World, (convert 40 9 (.slice none 0 0)).run Tryz.prog W = .ok (.string { data := #[] }) W := fun W => conv_rd (w := W) (a := none) (n := 0) (l := []) ⟨rfl, by simp, by simp⟩ 0
        clear hb3
        go_upto_region 5 with fail
        go_quiet (fail)
        go_wp2
        go_roundg (256 - (k + 1))
        case measure => have := HGK.out; omega
        case rel => exact ⟨k + 1, rfl, by omega, by go_num, Lib.hid ((HB.out.trans (HB3.out.mono HB.out.size)).trans ⟨rfl, rfl, rfl, Nat.le_refl _, fun _ _ => rfl⟩)⟩
      · have hne := h0.ne
        have HGet := Lib.hid (get_block wr g b n F (k : Int) HIr.out hwf hne)
        rw [← hl] at HGet hne
        have HFK := Lib.hid hfk
        clear hl hfk h0 hwf
        go_wp2_with fail
        refine HGet.out.mono ?_
        rintro e w3 ⟨a3, c3, rfl, hr3, hb3⟩
        have HB3 := Lib.hid hb3
        have hc : w3.cell? ⟨g3, k, none⟩ = some (.string (strB l)) := by
          have := arr_cell (w := w3) (j := k) ((hb3.block g3 (by have := HB.out.size; have := HS2.out; omega)).trans ((HB.out.block g3 (by have := HS2.out; omega)).trans HA2.out)) (by rw [HI.out.ok.1]; exact hlt)
          rw [HFK.out] at this
          exact this
        have hcv : ∀ m, (convert 40 9 (.slice a3 32 c3)).run Tryz.prog (w3.drewN m) = .ok (.string (strB l)) (w3.drewN m) := fun m => conv_rd (w := w3.drewN m) hr3 c3
        have hse := strB_ne hne
        generalize strB l = sl at hc hcv hse
        have hse1 : (sl.toList == ([] : List UInt8)) = false := by simp [hse]
        have hse2 : sl.toList.isEmpty = false := by simp [hse]
        have HSE := Lib.hid hse
        clear hse
        clear hb3 hr3 hne
        go_upto_region 5 with fail
        go_quiet (fail)
        go_wp2
        go_roundg (256 - (k + 1))
        case measure => have := HGK.out; omega
        case rel => exact ⟨k + 1, rfl, by omega, by go_num, Lib.hid ((HB.out.trans (HB3.out.mono HB.out.size)).trans ⟨rfl, rfl, rfl, Nat.le_refl _, fun _ _ => rfl⟩)⟩
    · obtain rfl : k = 256 := by omega
      go_wp2
      go_ret
      exact ⟨rfl, by rw [← HG.out]; exact HB2.out.trans (HB.out.mono (by rw [HS2.out]; omega))⟩

end Go.Proofs.YtaijjogjohbheaaGreat
