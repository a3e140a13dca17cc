/- LabelReads, walked: over any world. -/
import Derived.Test.YtcmbnijjkpfhlaaLbRefRead
import Derived.Test.YtcmbnijjkpfhlaaLbLives
namespace Go.Proofs.Ytcmbnijjkpfhlaa
open Go.RowKit
set_option linter.unusedSimpArgs false

set_option maxHeartbeats 4000000 in
set_option maxRecDepth 100000 in
theorem labelReads_walk (a : Option Addr) (n c : Nat) (l : List Nat) (w : World) (h : Rd w a n l) (hc : n ≤ c) :
    Calls Try.prog 4 #[.slice a n c] w fun e w' => e = .returned (.bool true) ∧ Below w.heap.size w w' := by
  have HR := Lib.hid h
  clear h
  by_cases hn : n ≤ 300
  · have hd1 : decide (300 < (n : Int)) = false := by simp; omega
    have hd2 : ¬ (300 : Int) < (n : Int) := by omega
    go_enter Try.func4, Try.ntmps4
    go_wp2_with fail
    refine (lives_any w).mono ?_
    rintro e w1 ⟨rfl, hb1⟩
    have H1 := Lib.hid (HR.out.later hb1)
    have HB1 := Lib.hid hb1
    clear hb1
    have hre := read_any a n c l w1 H1.out (by omega) hc
    have hrf := fun W (hW : Below w1.heap.size w1 W) => refRead_any a n c l W (H1.out.later hW) (by omega) hc
    obtain ⟨⟨⟨p, g, m⟩, er⟩, hQ⟩ : ∃ Q, Q = rdLab l := ⟨_, rfl⟩
    rw [← hQ] at hre hrf
    simp only [lbV] at hre hrf
    obtain ⟨s, hs⟩ : ∃ s, s = strB p := ⟨_, rfl⟩
    rw [← hs] at hre hrf
    have HRE := Lib.hid hre
    have HRF := Lib.hid hrf
    have HS := Lib.hid hs
    clear hre hrf hQ hs
    go_wp2_with fail
    refine HRE.out.mono ?_
    rintro e w2 ⟨rfl, hb2⟩
    obtain ⟨w3, hw3⟩ : ∃ w3, w3 = w2.alloc (.cells #[.string s, .int .i64 g, .int .i64 m] 23) := ⟨_, rfl⟩
    obtain ⟨q5, hq5⟩ : ∃ q5, q5 = w2.heap.size := ⟨_, rfl⟩
    have HW3 : Hid (w2.alloc (.cells #[.string s, .int .i64 g, .int .i64 m] 23) = w3 ∧ w2.heap.size = q5) := Lib.hid ⟨hw3.symm, hq5.symm⟩
    have hb23 : Below w2.heap.size w2 w3 := by rw [hw3]; exact Below.alloc0 _ _
    have HB3 : Hid (Below w1.heap.size w1 w3) := Lib.hid (hb2.trans (hb23.mono hb2.size))
    have HQ3 : Hid (w3.heap[q5]? = some (.cells #[.string s, .int .i64 g, .int .i64 m] 23 (0, 0))) := Lib.hid (by rw [hw3, hq5]; exact heap_alloc_new w2 _)
    clear hw3 hq5 hb23 hb2
    go_upto_region 4 with fail
    change Code.wp _ _ _ _ (w2.alloc (.cells #[.string s, .int .i64 g, .int .i64 m] 23))
    rw [HW3.out.1]
    try rw [HW3.out.2]
    go_wp2_with fail
    refine (HRF.out _ HB3.out).mono ?_
    rintro e w4 ⟨rfl, hb4⟩
    obtain ⟨w5, hw5⟩ : ∃ w5, w5 = w4.alloc (.cells #[.string s, .int .i64 g, .int .i64 m] 30) := ⟨_, rfl⟩
    obtain ⟨q8, hq8⟩ : ∃ q8, q8 = w4.heap.size := ⟨_, rfl⟩
    have HW5 : Hid (w4.alloc (.cells #[.string s, .int .i64 g, .int .i64 m] 30) = w5 ∧ w4.heap.size = q8) := Lib.hid ⟨hw5.symm, hq8.symm⟩
    have hb45 : Below w4.heap.size w4 w5 := by rw [hw5]; exact Below.alloc0 _ _
    have hb35 : Below w3.heap.size w3 w5 := hb4.trans (hb45.mono hb4.size)
    have HQ8 : Hid (w5.heap[q8]? = some (.cells #[.string s, .int .i64 g, .int .i64 m] 30 (0, 0))) := Lib.hid (by rw [hw5, hq8]; exact heap_alloc_new w4 _)
    have HQ5 : Hid (w5.heap[q5]? = some (.cells #[.string s, .int .i64 g, .int .i64 m] 23 (0, 0))) := Lib.hid ((hb35.block q5 (lt_of_block HQ3.out)).trans HQ3.out)
    have HB5 : Hid (Below w.heap.size w w5) := Lib.hid (HB1.out.trans ((HB3.out.trans (hb35.mono HB3.out.size)).mono HB1.out.size))
    clear hw5 hq8 hb45 hb35 hb4
    have HK : Hid (∀ W, Below w5.heap.size w5 W → W.cell? ⟨q5, 0, none⟩ = some (.string s) ∧ W.cell? ⟨q5, 1, none⟩ = some (.int .i64 g) ∧ W.cell? ⟨q5, 2, none⟩ = some (.int .i64 m) ∧ W.cell? ⟨q8, 0, none⟩ = some (.string s) ∧ W.cell? ⟨q8, 1, none⟩ = some (.int .i64 g) ∧ W.cell? ⟨q8, 2, none⟩ = some (.int .i64 m)) := by
      refine Lib.hid fun W hW => ?_
      have h1 := lab_cells ((hW.block q5 (lt_of_block HQ5.out)).trans HQ5.out)
      have h2 := lab_cells ((hW.block q8 (lt_of_block HQ8.out)).trans HQ8.out)
      exact ⟨h1.1, h1.2.1, h1.2.2, h2.1, h2.2.1, h2.2.2⟩
    have HOF : Hid (∀ W, Below w5.heap.size w5 W → Calls Try.prog 10 #[.agg #[.string s, .int .i64 g, .int .i64 m]] W fun e w' => e = .returned (.agg #[.string s, .int .i64 g, .int .i64 m]) ∧ Hid (Below w5.heap.size w5 w')) := by
      refine Lib.hid fun W hW => ?_
      have ho := of_any ⟨p, g, m⟩ W
      simp only [lbV, ← HS.out] at ho
      refine ho.mono ?_
      rintro e w' ⟨rfl, hb⟩
      exact ⟨rfl, Lib.hid (hW.trans (hb.mono hW.size))⟩
    go_upto_region 5 with fail
    change Code.wp _ _ _ _ (w4.alloc (.cells #[.string s, .int .i64 g, .int .i64 m] 30))
    rw [HW5.out.1]
    try rw [HW5.out.2]
    have H : Hid (Below w5.heap.size w5 w5.drew) := Lib.hid (Below.refl _ _).drew
    refine wp_region_held_drew (S := fun W => W.cell? ⟨q5, 0, none⟩ = some (.string s) ∧ W.cell? ⟨q5, 1, none⟩ = some (.int .i64 g) ∧ W.cell? ⟨q5, 2, none⟩ = some (.int .i64 m) ∧ W.cell? ⟨q8, 0, none⟩ = some (.string s) ∧ W.cell? ⟨q8, 1, none⟩ = some (.int .i64 g) ∧ W.cell? ⟨q8, 2, none⟩ = some (.int .i64 m)) (by kernel_rfl) (HK.out _ H.out) (fun _ => ?_)
    obtain ⟨w6, hw6⟩ : ∃ w6, w6 = w5.drew := ⟨_, rfl⟩
    rw [← hw6] at H ⊢
    clear hw6
    refine wpAnyH_take (i := 0) (v := ?vr0) rfl (by kernel_rfl) (by kernel_rfl) (by kernel_rfl) (fun _ _ _ h => h) (Or.inl ⟨by rfl, ?hr0⟩) (HK.out _ H.out) ?rr0
    case hr0 => (intro W hW; (try dsimp only at hW); go_simp; try with_reducible rfl)
    simp only [Act.put, List.getElem_toArray, List.getElem_cons_succ, List.getElem_cons_zero, List.setIfInBounds_toArray, List.set_cons_zero, List.set_cons_succ]
    refine wpAnyH_take (i := 1) (v := ?vr1) rfl (by kernel_rfl) (by kernel_rfl) (by kernel_rfl) (fun _ _ _ h => h) (Or.inl ⟨by rfl, ?hr1⟩) (HK.out _ H.out) ?rr1
    case hr1 => (intro W hW; (try dsimp only at hW); go_simp; try with_reducible rfl)
    simp only [Act.put, List.getElem_toArray, List.getElem_cons_succ, List.getElem_cons_zero, List.setIfInBounds_toArray, List.set_cons_zero, List.set_cons_succ]
    refine wpAnyH_take (i := 2) (v := ?vr2) rfl (by kernel_rfl) (by kernel_rfl) (by kernel_rfl) (fun _ _ _ h => h) (Or.inl ⟨by rfl, ?hr2⟩) (HK.out _ H.out) ?rr2
    case hr2 => (intro W hW; (try dsimp only at hW); go_simp; try with_reducible rfl)
    simp only [Act.put, List.getElem_toArray, List.getElem_cons_succ, List.getElem_cons_zero, List.setIfInBounds_toArray, List.set_cons_zero, List.set_cons_succ]
    refine wpAnyH_take (i := 3) (v := ?vr3) rfl (by kernel_rfl) (by kernel_rfl) (by kernel_rfl) (fun _ _ _ h => h) (Or.inl ⟨by rfl, ?hr3⟩) (HK.out _ H.out) ?rr3
    case hr3 => (intro W hW; (try dsimp only at hW); go_simp; try with_reducible rfl)
    simp only [Act.put, List.getElem_toArray, List.getElem_cons_succ, List.getElem_cons_zero, List.setIfInBounds_toArray, List.set_cons_zero, List.set_cons_succ]
    refine wpAnyH_take (i := 4) (v := ?vr4) rfl (by kernel_rfl) (by kernel_rfl) (by kernel_rfl) (fun _ _ _ h => h) (Or.inl ⟨by rfl, ?hr4⟩) (HK.out _ H.out) ?rr4
    case hr4 => (intro W hW; (try dsimp only at hW); go_simp; try with_reducible rfl)
    simp only [Act.put, List.getElem_toArray, List.getElem_cons_succ, List.getElem_cons_zero, List.setIfInBounds_toArray, List.set_cons_zero, List.set_cons_succ]
    refine wpAnyH_take (i := 6) (v := ?vr6) rfl (by kernel_rfl) (by kernel_rfl) (by kernel_rfl) (fun _ _ _ h => h) (Or.inl ⟨by rfl, ?hr6⟩) (HK.out _ H.out) ?rr6
    case hr6 => (intro W hW; (try dsimp only at hW); go_simp; try with_reducible rfl)
    simp only [Act.put, List.getElem_toArray, List.getElem_cons_succ, List.getElem_cons_zero, List.setIfInBounds_toArray, List.set_cons_zero, List.set_cons_succ]
    refine wpAnyH_ready (rs := [5]) (by kernel_rfl) (by simp) ?_
    refine AllReadyH.cons rfl (fun K hK => ?_) AllReadyH.nil
    refine ready_call (f := 10) (vs := #[.agg #[.string s, .int .i64 g, .int .i64 m]]) (by rfl) (by (go_simp; try with_reducible rfl)) ?_
    refine (HOF.out _ H.out).mono ?_
    rintro e w7 ⟨rfl, H7⟩
    refine ⟨_, rfl, hK.out _ _ (HK.out _ H7.out) (fun _ => ?_)⟩
    clear hK K
    simp only [Act.put, List.getElem_toArray, List.getElem_cons_succ, List.getElem_cons_zero, List.setIfInBounds_toArray, List.set_cons_zero, List.set_cons_succ]
    refine wpAnyH_take (i := 7) (v := ?vr7) rfl (by kernel_rfl) (by kernel_rfl) (by kernel_rfl) (fun _ _ _ h => h) (Or.inl ⟨by rfl, ?hr7⟩) (HK.out _ H7.out) ?rr7
    case hr7 => (intro W hW; (try dsimp only at hW); go_simp; try with_reducible rfl)
    simp only [Act.put, List.getElem_toArray, List.getElem_cons_succ, List.getElem_cons_zero, List.setIfInBounds_toArray, List.set_cons_zero, List.set_cons_succ]
    refine wpAnyH_take (i := 8) (v := ?vr8) rfl (by kernel_rfl) (by kernel_rfl) (by kernel_rfl) (fun _ _ _ h => h) (Or.inl ⟨by rfl, ?hr8⟩) (HK.out _ H7.out) ?rr8
    case hr8 => (intro W hW; (try dsimp only at hW); go_simp; try with_reducible rfl)
    simp only [Act.put, List.getElem_toArray, List.getElem_cons_succ, List.getElem_cons_zero, List.setIfInBounds_toArray, List.set_cons_zero, List.set_cons_succ]
    refine wpAnyH_take (i := 9) (v := ?vr9) rfl (by kernel_rfl) (by kernel_rfl) (by kernel_rfl) (fun _ _ _ h => h) (Or.inl ⟨by rfl, ?hr9⟩) (HK.out _ H7.out) ?rr9
    case hr9 => (intro W hW; (try dsimp only at hW); go_simp; try with_reducible rfl)
    simp only [Act.put, List.getElem_toArray, List.getElem_cons_succ, List.getElem_cons_zero, List.setIfInBounds_toArray, List.set_cons_zero, List.set_cons_succ]
    refine wpAnyH_done (by kernel_rfl) ?_ _
    go_wp2
    go_ret
    exact ⟨rfl, HB5.out.trans (H7.out.mono HB5.out.size)⟩
  · have hn' : (300 : Int) < (n : Int) := by omega
    clear hn
    go_enter Try.func4, Try.ntmps4
    go_wp2_with fail
    refine (lives_any w).mono ?_
    rintro e w1 ⟨rfl, hb1⟩
    have HB1 := Lib.hid hb1
    clear hb1
    go_wp2_with fail
    refine (lives_any w1).mono ?_
    rintro e w2 ⟨rfl, hb2⟩
    have HB2 := Lib.hid hb2
    clear hb2
    go_wp2
    go_ret
    exact ⟨rfl, HB1.out.trans (HB2.out.mono HB1.out.size)⟩

end Go.Proofs.Ytcmbnijjkpfhlaa
