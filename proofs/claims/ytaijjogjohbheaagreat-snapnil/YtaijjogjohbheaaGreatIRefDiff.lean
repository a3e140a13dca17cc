/- The contract of the document's Diff of images, over any world. -/
import Derived.Test.YtaijjogjohbheaaGreatILawRuns
import Derived.Test.YtaijjogjohbheaaGreatIDiffAll
import Derived.Test.YtaijjogjohbheaaGreatIRefBytes
import Derived.StillTailTactics
import Derived.Deep.DeepCutAuto
namespace Go.Proofs.YtaijjogjohbheaaGreat
open Go.RowKit
set_option maxRecDepth 100000
set_option linter.unusedSimpArgs false

theorem hasF_diff {F G : List (List Nat)} {k : Nat} (hk : k < 256) : hasF (diffF F G) k = (decide (F.getD k [] ≠ []) && !decide (F.getD k [] = G.getD k [])) := by
  have e : (diffF F G).getD k [] = if G.getD k [] = F.getD k [] then [] else F.getD k [] := by
    simp only [diffF, List.getD, List.getElem?_map, List.getElem?_range hk, Option.map_some, Option.getD_some]
  unfold hasF
  rw [e]
  by_cases h : G.getD k [] = F.getD k []
  · rw [if_pos h]; simp only [List.getD] at h ⊢; simp [h]
  · rw [if_neg h]
    have h2 : ¬ F.getD k [] = G.getD k [] := fun e => h e.symm
    simp only [List.getD] at h2 ⊢
    simp [h2]

theorem hasF_gone {F G : List (List Nat)} {k : Nat} (hk : k < 256) : hasF (goneF F G) k = (!decide (F.getD k [] ≠ []) && decide (G.getD k [] ≠ [])) := by
  have e : (goneF F G).getD k [] = if F.getD k [] = [] then G.getD k [] else [] := by
    simp only [goneF, List.getD, List.getElem?_map, List.getElem?_range hk, Option.map_some, Option.getD_some]
  unfold hasF
  rw [e]
  by_cases h : F.getD k [] = []
  · rw [if_pos h]; simp only [List.getD] at h ⊢; simp [h]
  · rw [if_neg h]; simp only [List.getD] at h ⊢; simp [h]

theorem Bl.other' {W : World} {g g' i : Nat} {n : Nat} {Q : Nat → Bool} {v : Value} (h : Bl W g n Q) (hne : g ≠ g') : Bl (W.setCell ⟨g', i, none⟩ v) g n Q := (Below.heap_setCell W _ v g hne).trans h

/-- What the loop of Diff keeps. -/
structure DiffI (w : World) (F G : List (List Nat)) (g3 k : Nat) (wr : World) : Prop where
  fst : wr.heap[g3]? = some (arrObj F)
  snd : wr.heap[g3 + 1]? = some (arrObj G)
  put : Bl wr (g3 + 2) 256 (upB (hasF (diffF F G)) k)
  gone : Bl wr (g3 + 3) 256 (upB (hasF (goneF F G)) k)
  size : wr.heap.size = g3 + 4
  low : Below g3 w wr

theorem DiffI.step {w wr : World} {F G : List (List Nat)} {g3 k : Nat} (h : DiffI w F G g3 k wr) {A B : Bool} (hA : A = hasF (diffF F G) k) (hB : B = hasF (goneF F G) k) :
    DiffI w F G g3 (k + 1) ((wr.setCell ⟨g3 + 2, k, none⟩ (.bool A)).setCell ⟨g3 + 3, k, none⟩ (.bool B)) := by
  have h1 : Below g3 w ((wr.setCell ⟨g3 + 2, k, none⟩ (.bool A)).setCell ⟨g3 + 3, k, none⟩ (.bool B)) := Below.trans (Below.trans h.low (below_set (show g3 ≤ g3 + 2 by omega) _ _)) (below_set (show g3 ≤ g3 + 3 by omega) _ _)
  refine ⟨?_, ?_, ?_, ?_, ?_, h1⟩
  · exact (Below.heap_setCell _ _ _ g3 (by simp)).trans ((Below.heap_setCell _ _ _ g3 (by simp)).trans h.fst)
  · exact (Below.heap_setCell _ _ _ (g3 + 1) (by simp)).trans ((Below.heap_setCell _ _ _ (g3 + 1) (by simp)).trans h.snd)
  · exact ((h.put.set k A).other' (by omega)).same (by rw [hA]; exact upB_succ _ _)
  · exact ((h.gone.other' (g' := g3 + 2) (by omega)).set k B).same (by rw [hB]; exact upB_succ _ _)
  · have := h.size
    simpa using this

theorem DiffI.drew {w wr : World} {F G : List (List Nat)} {g3 k : Nat} (h : DiffI w F G g3 k wr) : DiffI w F G g3 k wr.drew :=
  ⟨h.fst, h.snd, h.put, h.gone, h.size, h.low.drew⟩

set_option maxHeartbeats 4000000 in
set_option maxRecDepth 100000 in
theorem refDiff_any (w : World) (F G : List (List Nat)) (hF : okF F) (hG : okF G) :
    Calls Tryz.prog 35 #[.agg (cS F).toArray, .agg (cS G).toArray] w fun e w' => ∃ v u M N, e = .returned (.tuple #[v, u]) ∧ OwnR w' w.heap.size 127 v M ∧ SetF (diffF F G) M ∧ OwnR w' w.heap.size 127 u N ∧ SetF (goneF F G) N ∧ Below w.heap.size w w' := by
  have HOk := Lib.hid (And.intro hF hG)
  obtain ⟨g3, hg3⟩ : ∃ g3, g3 = w.heap.size := ⟨_, rfl⟩
  clear hF hG
  go_enter Tryz.func35, Tryz.ntmps35
  go_upto_region 1 with fail
  change Code.wp _ _ _ _ ((w.alloc (arrObj F)).alloc (arrObj G))
  obtain ⟨w2, h2⟩ : ∃ w2, w2 = (w.alloc (arrObj F)).alloc (arrObj G) := ⟨_, rfl⟩
  rw [← h2, ← hg3]
  have HB2 : Hid (Below g3 w w2) := Lib.hid (by rw [h2, hg3]; exact (Below.alloc0 _ _).alloc (by simp) _)
  have HS2 : Hid (w2.heap.size = g3 + 2) := Lib.hid (by rw [h2, hg3]; simp)
  have HA2 : Hid (w2.heap[g3]? = some (arrObj F)) := Lib.hid (by rw [h2, hg3]; exact (heap_alloc_old _ _ (by simp)).trans (heap_alloc_last _ _))
  have HC2 : Hid (w2.heap[g3 + 1]? = some (arrObj G)) := Lib.hid (by
    rw [h2, hg3]
    exact heap_alloc2 w _ _)
  have HG := Lib.hid hg3
  clear h2 hg3
  have hmk := run_mk256 w2
  have hs2 := HS2.out
  rw [hs2] at hmk
  clear hs2
  obtain ⟨w4, h4⟩ : ∃ w4, w4 = w2.alloc (.cells (bcells 256 fun _ => false) 4) := ⟨_, rfl⟩
  rw [← h4] at hmk
  have HS4 : Hid (w4.heap.size = g3 + 3) := Lib.hid (by rw [h4]; simp [HS2.out])
  have hmk2 := run_mk256 w4
  have hs4 := HS4.out
  rw [hs4] at hmk2
  clear hs4
  obtain ⟨w5, h5⟩ : ∃ w5, w5 = w4.alloc (.cells (bcells 256 fun _ => false) 4) := ⟨_, rfl⟩
  rw [← h5] at hmk2
  have HB4 : Hid (Below w2.heap.size w2 w4) := Lib.hid (by rw [h4]; exact Below.alloc0 w2 _)
  have HB5 : Hid (Below w4.heap.size w4 w5) := Lib.hid (by rw [h5]; exact Below.alloc0 w4 _)
  have HI5 : Hid (DiffI w F G g3 0 w5) := Lib.hid (by
    refine ⟨?_, ?_, ?_, ?_, ?_, ?_⟩
    · exact (HB5.out.block g3 (by rw [HS4.out]; omega)).trans ((HB4.out.block g3 (by rw [HS2.out]; omega)).trans HA2.out)
    · exact (HB5.out.block (g3 + 1) (by rw [HS4.out]; omega)).trans ((HB4.out.block (g3 + 1) (by rw [HS2.out]; omega)).trans HC2.out)
    · have := bl_new w2 256 (fun _ => false)
      rw [← h4, HS2.out] at this
      exact (this.later HB5.out).same fun j _ => by simp [upB]
    · have := bl_new w4 256 (fun _ => false)
      rw [← h5, HS4.out] at this
      exact this.same fun j _ => by simp [upB]
    · rw [h5]; simp [HS4.out]
    · exact (HB2.out.trans (HB4.out.mono (by rw [HS2.out]; omega))).trans (HB5.out.mono (by rw [HS4.out]; omega)))
  clear h4 h5
  go_wp2
  clear hmk hmk2
  go_loopg [8] 256 (fun gk i wr => ∃ k : Nat, gk = 256 - k ∧ k ≤ 256 ∧ i = .int .i64 (k : Int) ∧ Hid (DiffI w F G g3 k wr))
  case atStart => exact ⟨0, rfl, by omega, rfl, HI5⟩
  case round =>
    obtain ⟨k, hgk, hk, rfl, HI⟩ := hrel
    have HGK := Lib.hid hgk
    clear hgk
    by_cases hlt : k < 256
    · have hlt' : (k : Int) < 256 := by omega
      obtain ⟨A, hA⟩ : ∃ A, A = hasF (diffF F G) k := ⟨_, rfl⟩
      obtain ⟨B, hB⟩ : ∃ B, B = hasF (goneF F G) k := ⟨_, rfl⟩
      have HStep := Lib.hid (fun W (h : DiffI w F G g3 k W) => h.step hA hB)
      have hA2 : A = (decide (F.getD k [] ≠ []) && !decide (F.getD k [] = G.getD k [])) := hA.trans (hasF_diff hlt)
      have hB2 : B = (!decide (F.getD k [] ≠ []) && decide (G.getD k [] ≠ [])) := hB.trans (hasF_gone hlt)
      have hbF : ∀ x ∈ F.getD k [], x < 256 := HOk.out.1.byte _ (getD_memF (by rw [HOk.out.1.1]; exact hlt))
      have hbG : ∀ x ∈ G.getD k [], x < 256 := HOk.out.2.byte _ (getD_memF (by rw [HOk.out.2.1]; exact hlt))
      have hc1 := arr_cell (w := wr) (j := k) HI.out.fst (by rw [HOk.out.1.1]; exact hlt)
      have hc2 := arr_cell (w := wr) (j := k) HI.out.snd (by rw [HOk.out.2.1]; exact hlt)
      have hq1 := HI.out.put.at_ hlt
      have hf1 := HI.out.put.frozen k
      have hq2 := HI.out.gone.at_ hlt
      have hf2 := HI.out.gone.frozen k
      clear hA hB
      obtain ⟨lF, hlF⟩ : ∃ l, l = F.getD k [] := ⟨_, rfl⟩
      obtain ⟨lG, hlG⟩ : ∃ l, l = G.getD k [] := ⟨_, rfl⟩
      rw [← hlF] at hc1 hA2 hB2 hbF
      rw [← hlG] at hc2 hA2 hB2 hbG
      have hn1 := strB_neq lF
      have hn2 := strB_neq lG
      have hn3 := strB_same hbF hbG
      obtain ⟨P, hP⟩ : ∃ P, P = decide (lF ≠ []) := ⟨_, rfl⟩
      rw [← hP] at hn1 hA2 hB2
      generalize decide (lG ≠ []) = U at hn2 hB2
      generalize decide (lF = lG) = V at hn3 hA2
      generalize strB lF = sF at hc1 hn1 hn3
      generalize strB lG = sG at hc2 hn2 hn3
      clear hlF hlG hbF hbG hP
      cases P with
      | false =>
        simp only [Bool.false_and, Bool.not_false, Bool.true_and] at hA2 hB2 hn1
        subst hA2
        subst hB2
        go_upto_region 6 with fail
        go_region
        all_goals
          go_wp2
          go_roundg (256 - (k + 1))
          case measure => have := HGK.out; omega
          case rel => exact ⟨k + 1, rfl, by omega, by go_num, Lib.hid (HStep.out _ HI.out).drew⟩
      | true =>
        simp only [Bool.true_and, Bool.not_true, Bool.false_and] at hA2 hB2 hn1
        subst hA2
        subst hB2
        go_upto_region 6 with fail
        go_region
        all_goals
          go_wp2
          go_roundg (256 - (k + 1))
          case measure => have := HGK.out; omega
          case rel => exact ⟨k + 1, rfl, by omega, by go_num, Lib.hid (HStep.out _ HI.out).drew⟩
    · obtain rfl : k = 256 := by omega
      have HP : Hid (Bl wr (g3 + 2) 256 (hasF (diffF F G))) := Lib.hid (HI.out.put.same fun j hj => by simp [upB, hj])
      have HQ : Hid (Bl wr (g3 + 3) 256 (hasF (goneF F G))) := Lib.hid (HI.out.gone.same fun j hj => by simp [upB, hj])
      go_wp2_with fail
      refine (refRuns256_any _ _ _ HP.out).mono ?_
      rintro e w6 ⟨v, M, rfl, ho, hu, hb⟩
      have HO := Lib.hid ho
      have HU := Lib.hid (SetF.of_up (diffF_len F G) hu)
      have HB6 := Lib.hid hb
      clear ho hu hb
      go_wp2_with fail
      refine (refRuns256_any _ _ _ (HQ.out.later HB6.out)).mono ?_
      rintro e w7 ⟨v7, N, rfl, ho, hu, hb⟩
      have HO7 := Lib.hid ho
      have HU7 := Lib.hid (SetF.of_up (goneF_len F G) hu)
      have HB7 := Lib.hid hb
      clear ho hu hb
      go_wp2
      go_ret2
      have hs := HI.out.size
      have hb67 := HB6.out.trans (HB7.out.mono HB6.out.size)
      refine ⟨_, _, M, N, rfl, (HO.out.kept HB7.out).mono (by rw [hs, HG.out]; omega), HU.out, HO7.out.mono (by have := HB6.out.size; rw [hs, HG.out] at this; omega), HU7.out, ?_⟩
      rw [← HG.out]
      exact HI.out.low.trans (hb67.mono (by rw [hs]; omega))

end Go.Proofs.YtaijjogjohbheaaGreat
