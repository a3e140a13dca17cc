/- SegmentReads, walked: over any world. -/
import Derived.Test.YtkfnjekeegebaaaSgBytes
import Derived.Test.YtkfnjekeegebaaaSgRead
import Derived.Test.YtkfnjekeegebaaaSgOf
import Derived.Test.YtkfnjekeegebaaaSgRefRead
namespace Go.Proofs.Ytkfnjekeegebaaa
open Go.RowKit
set_option linter.unusedSimpArgs false

theorem docV_none : docV none = blV 0 N5.zero (strB []) := rfl

/-- What the program reads, and what the document reads. -/
theorem reads_same (l : List Nat) : (rdSg l = (none, 3) ∧ ∃ n : N5, docRd l = ((84, n, []), 0) ∧ 1 < n.n4) ∨
    ∃ x k n t er, rdSg l = (x, er) ∧ docRd l = ((k, n, t), er) ∧ docV x = blV k n (strB t) ∧ ¬ (k = 84 ∧ 1 < n.n4) := by
  by_cases hs : Sealed l
  · unfold rdSg docRd
    rw [if_pos hs, if_pos hs]
    rcases doc_same (l.take (l.length - 4)) with ⟨n, h1, h2, h3⟩ | ⟨h1, h2⟩ | ⟨x, h1, h2, h3⟩
    · rw [h1, h3]
      exact .inl ⟨rfl, n, rfl, h2⟩
    · rw [h1, h2]
      exact .inr ⟨none, 0, N5.zero, [], 3, rfl, rfl, docV_none, by simp⟩
    · rw [h1, h2]
      exact .inr ⟨some x, x.kind, x.nums, x.text, 0, rfl, rfl, rfl, h3⟩
  · unfold rdSg docRd
    rw [if_neg hs, if_neg hs]
    exact .inr ⟨none, 0, N5.zero, [], 4, rfl, rfl, docV_none, by simp⟩

set_option maxHeartbeats 4000000 in
set_option maxRecDepth 100000 in
theorem segmentReads_walk (a : Option Addr) (n c : Nat) (l : List Nat) (w : World) (h : Rd w a n l) (hc : n ≤ c) :
    Calls Try.prog 4 #[.slice a n c] w fun e w' => e = .returned (.bool true) ∧ Below w.heap.size w w' := by
  have HR := Lib.hid h
  clear h
  by_cases hn : n ≤ 500
  · have hd1 : decide (500 < (n : Int)) = false := by simp; omega
    have hd2 : ¬ (500 : Int) < (n : Int) := by omega
    go_enter Try.func4, Try.ntmps4
    go_wp2_with fail
    refine (sgLives_any w).mono ?_
    rintro e w1 ⟨rfl, hb1⟩
    have H1 := Lib.hid (HR.out.later hb1)
    have HB1 := Lib.hid hb1
    clear hb1
    have hre := sread_any a n c l w1 H1.out (by omega) hc
    have hrf := fun W (hW : Below w1.heap.size w1 W) => refReadB_any a n c l W (H1.out.later hW) (by omega) hc
    rcases reads_same l with ⟨h1, N, h2, h3⟩ | ⟨x, k, N, t, er, h1, h2, h3, h4⟩
    · rw [h1] at hre
      rw [h2] at hrf
      have hs0 : strB [] = ⟨#[]⟩ := rfl
      simp only [blV, hs0] at hrf
      obtain ⟨n0, n1, n2, n3, n4⟩ := N
      simp only at hrf h3
      have HRE := Lib.hid hre
      have HRF := Lib.hid hrf
      clear hre hrf h1 h2 hs0
      go_wp2_with fail
      refine HRE.out.mono ?_
      rintro e w2 ⟨hb2, v, rfl, hv, _⟩
      obtain rfl : v = .nilIface := hv
      have HB2 := Lib.hid hb2
      clear hb2
      go_wp2_with fail
      refine (HRF.out _ HB2.out).mono ?_
      rintro e w3 ⟨rfl, hb3⟩
      have HB3 : Hid (Below w.heap.size w (w3.alloc (.cells #[.int .u8 84, .int .i64 n0, .int .i64 n1, .int .i64 n2, .int .i64 n3, .int .i64 n4, .string ⟨#[]⟩] 40))) :=
        Lib.hid ((HB1.out.trans ((HB2.out.trans (hb3.mono HB2.out.size)).mono HB1.out.size)).trans ((Below.alloc0 _ _).mono (Nat.le_trans HB1.out.size (Nat.le_trans HB2.out.size hb3.size))))
      clear hb3
      go_wp2
      go_ret
      exact ⟨rfl, HB3.out⟩
    · rw [h1] at hre
      rw [h2] at hrf
      simp only at hre hrf
      have hof := fun (v : Value) (W : World) (hW : SgV W v x) => sgOf_any v x W hW
      rw [h3] at hof
      have heq := fun w => eq_blk k N (strB t) w
      simp only [blV] at hof hrf heq
      obtain ⟨n0, n1, n2, n3, n4⟩ := N
      simp only at hof hrf heq h4
      obtain ⟨s, hs⟩ : ∃ s, s = strB t := ⟨_, rfl⟩
      rw [← hs] at hof hrf heq
      have HRE := Lib.hid hre
      have HRF := Lib.hid hrf
      have HOF := Lib.hid hof
      have HEQ := Lib.hid heq
      clear hre hrf h1 h2 h3 hof hs heq
      go_wp2_with fail
      refine HRE.out.mono ?_
      rintro e w2 ⟨hb2, v, rfl, hv, _⟩
      have HB2 := Lib.hid hb2
      have HV2 := Lib.hid hv
      clear hb2 hv
      go_wp2_with fail
      refine (HRF.out _ HB2.out).mono ?_
      rintro e w3 ⟨rfl, hb3⟩
      obtain ⟨w4, hw4⟩ : ∃ w4, w4 = w3.alloc (.cells #[.int .u8 (k : Int), .int .i64 n0, .int .i64 n1, .int .i64 n2, .int .i64 n3, .int .i64 n4, .string s] 40) := ⟨_, rfl⟩
      obtain ⟨q, hq⟩ : ∃ q, q = w3.heap.size := ⟨_, rfl⟩
      have HW4 : Hid (w3.alloc (.cells #[.int .u8 (k : Int), .int .i64 n0, .int .i64 n1, .int .i64 n2, .int .i64 n3, .int .i64 n4, .string s] 40) = w4 ∧ w3.heap.size = q) := Lib.hid ⟨hw4.symm, hq.symm⟩
      have hb34 : Below w3.heap.size w3 w4 := by rw [hw4]; exact Below.alloc0 _ _
      have hb24 : Below w2.heap.size w2 w4 := hb3.trans (hb34.mono hb3.size)
      have HV4 := Lib.hid (HV2.out.later hb24)
      have HQ4 : Hid (w4.heap[q]? = some (.cells #[.int .u8 (k : Int), .int .i64 n0, .int .i64 n1, .int .i64 n2, .int .i64 n3, .int .i64 n4, .string s] 40 (0, 0))) := Lib.hid (by rw [hw4, hq]; exact heap_alloc_new w3 _)
      have HB4 : Hid (Below w.heap.size w w4) := Lib.hid (HB1.out.trans ((HB2.out.trans (hb24.mono HB2.out.size)).mono HB1.out.size))
      clear hw4 hq hb34 hb24 hb3
      go_upto_region 5 with fail
      change Code.wp _ _ _ _ (w3.alloc (.cells #[.int .u8 (k : Int), .int .i64 n0, .int .i64 n1, .int .i64 n2, .int .i64 n3, .int .i64 n4, .string s] 40))
      rw [HW4.out.1]
      try rw [HW4.out.2]
      have HK : Hid (∀ W, Below w4.heap.size w4 W → W.cell? ⟨q, 0, none⟩ = some (.int .u8 (k : Int)) ∧ W.cell? ⟨q, 1, none⟩ = some (.int .i64 n0) ∧ W.cell? ⟨q, 2, none⟩ = some (.int .i64 n1) ∧ W.cell? ⟨q, 3, none⟩ = some (.int .i64 n2) ∧ W.cell? ⟨q, 4, none⟩ = some (.int .i64 n3) ∧ W.cell? ⟨q, 5, none⟩ = some (.int .i64 n4) ∧ W.cell? ⟨q, 6, none⟩ = some (.string s)) :=
        Lib.hid fun W hW => seven_cells ((hW.block q (lt_of_block HQ4.out)).trans HQ4.out)
      obtain ⟨z0, z1, z2, z3, z4, z5, z6⟩ := HK.out _ (Below.refl _ w4)
      have hcond : (((k : Int) == 84) = false) ∨ (((k : Int) == 84) = true ∧ decide (1 < n4) = false) := by
        by_cases h84 : k = 84
        · right
          exact ⟨by simp; omega, by simp; omega⟩
        · left
          simp; omega
      clear h4
      have HS5 : Hid (∀ G : Prop, (∀ (_ : True), G) → G) := Lib.hid fun G h => h trivial
      clear HS5
      rcases hcond with hk8 | ⟨hk8, hk9⟩
      · skip
        go_upto_region 7 with fail
        clear z0 z1 z2 z3 z4 z5 z6
        have H : Hid (Below w4.heap.size w4 w4.drew) := Lib.hid (Below.refl _ _).drew
        refine wp_region_held_drew (S := fun W => W.cell? ⟨q, 0, none⟩ = some (.int .u8 (k : Int)) ∧ W.cell? ⟨q, 1, none⟩ = some (.int .i64 n0) ∧ W.cell? ⟨q, 2, none⟩ = some (.int .i64 n1) ∧ W.cell? ⟨q, 3, none⟩ = some (.int .i64 n2) ∧ W.cell? ⟨q, 4, none⟩ = some (.int .i64 n3) ∧ W.cell? ⟨q, 5, none⟩ = some (.int .i64 n4) ∧ W.cell? ⟨q, 6, none⟩ = some (.string s)) (by kernel_rfl) (HK.out _ H.out) (fun _ => ?_)
        obtain ⟨w6, hw6⟩ : ∃ w6, w6 = w4.drew := ⟨_, rfl⟩
        rw [← hw6] at H ⊢
        clear hw6
        refine wpAnyH_take (i := 0) (v := ?vr0) rfl (by kernel_rfl) (by kernel_rfl) (by kernel_rfl) (fun _ _ _ h => h) (Or.inl ⟨by rfl, ?hr0⟩) (HK.out _ H.out) ?rr0
        case hr0 => (intro W hW; (try dsimp only at hW); go_simp; try with_reducible rfl)
        simp only [Act.put, List.getElem_toArray, List.getElem_cons_succ, List.getElem_cons_zero, List.setIfInBounds_toArray, List.set_cons_zero, List.set_cons_succ]
        refine wpAnyH_take (i := 1) (v := ?vr1) rfl (by kernel_rfl) (by kernel_rfl) (by kernel_rfl) (fun _ _ _ h => h) (Or.inl ⟨by rfl, ?hr1⟩) (HK.out _ H.out) ?rr1
        case hr1 => (intro W hW; (try dsimp only at hW); go_simp; try with_reducible rfl)
        simp only [Act.put, List.getElem_toArray, List.getElem_cons_succ, List.getElem_cons_zero, List.setIfInBounds_toArray, List.set_cons_zero, List.set_cons_succ]
        refine wpAnyH_take (i := 2) (v := ?vr2) rfl (by kernel_rfl) (by kernel_rfl) (by kernel_rfl) (fun _ _ _ h => h) (Or.inl ⟨by rfl, ?hr2⟩) (HK.out _ H.out) ?rr2
        case hr2 => (intro W hW; (try dsimp only at hW); go_simp; try with_reducible rfl)
        simp only [Act.put, List.getElem_toArray, List.getElem_cons_succ, List.getElem_cons_zero, List.setIfInBounds_toArray, List.set_cons_zero, List.set_cons_succ]
        refine wpAnyH_take (i := 3) (v := ?vr3) rfl (by kernel_rfl) (by kernel_rfl) (by kernel_rfl) (fun _ _ _ h => h) (Or.inl ⟨by rfl, ?hr3⟩) (HK.out _ H.out) ?rr3
        case hr3 => (intro W hW; (try dsimp only at hW); go_simp; try with_reducible rfl)
        simp only [Act.put, List.getElem_toArray, List.getElem_cons_succ, List.getElem_cons_zero, List.setIfInBounds_toArray, List.set_cons_zero, List.set_cons_succ]
        refine wpAnyH_take (i := 4) (v := ?vr4) rfl (by kernel_rfl) (by kernel_rfl) (by kernel_rfl) (fun _ _ _ h => h) (Or.inl ⟨by rfl, ?hr4⟩) (HK.out _ H.out) ?rr4
        case hr4 => (intro W hW; (try dsimp only at hW); go_simp; try with_reducible rfl)
        simp only [Act.put, List.getElem_toArray, List.getElem_cons_succ, List.getElem_cons_zero, List.setIfInBounds_toArray, List.set_cons_zero, List.set_cons_succ]
        refine wpAnyH_take (i := 6) (v := ?vr6) rfl (by kernel_rfl) (by kernel_rfl) (by kernel_rfl) (fun _ _ _ h => h) (Or.inl ⟨by rfl, ?hr6⟩) (HK.out _ H.out) ?rr6
        case hr6 => (intro W hW; (try dsimp only at hW); go_simp; try with_reducible rfl)
        simp only [Act.put, List.getElem_toArray, List.getElem_cons_succ, List.getElem_cons_zero, List.setIfInBounds_toArray, List.set_cons_zero, List.set_cons_succ]
        refine wpAnyH_ready (rs := [5]) (by kernel_rfl) (by simp) ?_
        refine AllReadyH.cons rfl (fun K hK => ?_) AllReadyH.nil
        refine ready_call (f := 10) (vs := #[v]) (by rfl) (by (go_simp; try with_reducible rfl)) ?_
        refine (HOF.out v _ (HV4.out.later H.out)).mono ?_
        rintro e w7 ⟨rfl, hb7⟩
        have H7 : Hid (Below w4.heap.size w4 w7) := Lib.hid (H.out.trans (hb7.mono H.out.size))
        clear hb7
        refine ⟨_, rfl, hK.out _ _ (HK.out _ H7.out) (fun _ => ?_)⟩
        clear hK K
        simp only [Act.put, List.getElem_toArray, List.getElem_cons_succ, List.getElem_cons_zero, List.setIfInBounds_toArray, List.set_cons_zero, List.set_cons_succ]
        have heq := HEQ.out
        refine wpAnyH_take (i := 7) (v := ?vr7) rfl (by kernel_rfl) (by kernel_rfl) (by kernel_rfl) (fun _ _ _ h => h) (Or.inl ⟨by rfl, ?hr7⟩) (HK.out _ H7.out) ?rr7
        case hr7 => (intro W hW; (try dsimp only at hW); go_simp; try with_reducible rfl)
        simp only [Act.put, List.getElem_toArray, List.getElem_cons_succ, List.getElem_cons_zero, List.setIfInBounds_toArray, List.set_cons_zero, List.set_cons_succ]
        refine wpAnyH_take (i := 8) (v := ?vr8) rfl (by kernel_rfl) (by kernel_rfl) (by kernel_rfl) (fun _ _ _ h => h) (Or.inl ⟨by rfl, ?hr8⟩) (HK.out _ H7.out) ?rr8
        case hr8 => (intro W hW; (try dsimp only at hW); go_simp; try with_reducible rfl)
        simp only [Act.put, List.getElem_toArray, List.getElem_cons_succ, List.getElem_cons_zero, List.setIfInBounds_toArray, List.set_cons_zero, List.set_cons_succ]
        refine wpAnyH_take (i := 9) (v := ?vr9) rfl (by kernel_rfl) (by kernel_rfl) (by kernel_rfl) (fun _ _ _ h => h) (Or.inl ⟨by rfl, ?hr9⟩) (HK.out _ H7.out) ?rr9
        case hr9 => (intro W hW; (try dsimp only at hW); go_simp; try with_reducible rfl)
        simp only [Act.put, List.getElem_toArray, List.getElem_cons_succ, List.getElem_cons_zero, List.setIfInBounds_toArray, List.set_cons_zero, List.set_cons_succ]
        refine wpAnyH_done (by kernel_rfl) ?_ _
        go_wp2
        go_ret
        exact ⟨rfl, HB4.out.trans (H7.out.mono HB4.out.size)⟩
      · have hk9t : ¬ 1 < n4 := by simpa using hk9
        go_upto_region 7 with fail
        clear z0 z1 z2 z3 z4 z5 z6
        have H : Hid (Below w4.heap.size w4 w4.drew) := Lib.hid (Below.refl _ _).drew
        refine wp_region_held_drew (S := fun W => W.cell? ⟨q, 0, none⟩ = some (.int .u8 (k : Int)) ∧ W.cell? ⟨q, 1, none⟩ = some (.int .i64 n0) ∧ W.cell? ⟨q, 2, none⟩ = some (.int .i64 n1) ∧ W.cell? ⟨q, 3, none⟩ = some (.int .i64 n2) ∧ W.cell? ⟨q, 4, none⟩ = some (.int .i64 n3) ∧ W.cell? ⟨q, 5, none⟩ = some (.int .i64 n4) ∧ W.cell? ⟨q, 6, none⟩ = some (.string s)) (by kernel_rfl) (HK.out _ H.out) (fun _ => ?_)
        obtain ⟨w6, hw6⟩ : ∃ w6, w6 = w4.drew := ⟨_, rfl⟩
        rw [← hw6] at H ⊢
        clear hw6
        refine wpAnyH_take (i := 0) (v := ?us0) rfl (by kernel_rfl) (by kernel_rfl) (by kernel_rfl) (fun _ _ _ h => h) (Or.inl ⟨by rfl, ?hs0⟩) (HK.out _ H.out) ?rs0
        case hs0 => (intro W hW; (try dsimp only at hW); go_simp; try with_reducible rfl)
        simp only [Act.put, List.getElem_toArray, List.getElem_cons_succ, List.getElem_cons_zero, List.setIfInBounds_toArray, List.set_cons_zero, List.set_cons_succ]
        refine wpAnyH_take (i := 1) (v := ?us1) rfl (by kernel_rfl) (by kernel_rfl) (by kernel_rfl) (fun _ _ _ h => h) (Or.inl ⟨by rfl, ?hs1⟩) (HK.out _ H.out) ?rs1
        case hs1 => (intro W hW; (try dsimp only at hW); go_simp; try with_reducible rfl)
        simp only [Act.put, List.getElem_toArray, List.getElem_cons_succ, List.getElem_cons_zero, List.setIfInBounds_toArray, List.set_cons_zero, List.set_cons_succ]
        refine wpAnyH_take (i := 2) (v := ?us2) rfl (by kernel_rfl) (by kernel_rfl) (by kernel_rfl) (fun _ _ _ h => h) (Or.inl ⟨by rfl, ?hs2⟩) (HK.out _ H.out) ?rs2
        case hs2 => (intro W hW; (try dsimp only at hW); go_simp; try with_reducible rfl)
        simp only [Act.put, List.getElem_toArray, List.getElem_cons_succ, List.getElem_cons_zero, List.setIfInBounds_toArray, List.set_cons_zero, List.set_cons_succ]
        refine wpAnyH_take (i := 3) (v := ?us3) rfl (by kernel_rfl) (by kernel_rfl) (by kernel_rfl) (fun _ _ _ h => h) (Or.inl ⟨by rfl, ?hs3⟩) (HK.out _ H.out) ?rs3
        case hs3 => (intro W hW; (try dsimp only at hW); go_simp; try with_reducible rfl)
        simp only [Act.put, List.getElem_toArray, List.getElem_cons_succ, List.getElem_cons_zero, List.setIfInBounds_toArray, List.set_cons_zero, List.set_cons_succ]
        refine wpAnyH_take (i := 4) (v := ?us4) rfl (by kernel_rfl) (by kernel_rfl) (by kernel_rfl) (fun _ _ _ h => h) (Or.inl ⟨by rfl, ?hs4⟩) (HK.out _ H.out) ?rs4
        case hs4 => (intro W hW; (try dsimp only at hW); go_simp; try with_reducible rfl)
        simp only [Act.put, List.getElem_toArray, List.getElem_cons_succ, List.getElem_cons_zero, List.setIfInBounds_toArray, List.set_cons_zero, List.set_cons_succ]
        refine wpAnyH_take (i := 6) (v := ?us6) rfl (by kernel_rfl) (by kernel_rfl) (by kernel_rfl) (fun _ _ _ h => h) (Or.inl ⟨by rfl, ?hs6⟩) (HK.out _ H.out) ?rs6
        case hs6 => (intro W hW; (try dsimp only at hW); go_simp; try with_reducible rfl)
        simp only [Act.put, List.getElem_toArray, List.getElem_cons_succ, List.getElem_cons_zero, List.setIfInBounds_toArray, List.set_cons_zero, List.set_cons_succ]
        refine wpAnyH_ready (rs := [5]) (by kernel_rfl) (by simp) ?_
        refine AllReadyH.cons rfl (fun K hK => ?_) AllReadyH.nil
        refine ready_call (f := 10) (vs := #[v]) (by rfl) (by (go_simp; try with_reducible rfl)) ?_
        refine (HOF.out v _ (HV4.out.later H.out)).mono ?_
        rintro e w7 ⟨rfl, hb7⟩
        have H7 : Hid (Below w4.heap.size w4 w7) := Lib.hid (H.out.trans (hb7.mono H.out.size))
        clear hb7
        refine ⟨_, rfl, hK.out _ _ (HK.out _ H7.out) (fun _ => ?_)⟩
        clear hK K
        simp only [Act.put, List.getElem_toArray, List.getElem_cons_succ, List.getElem_cons_zero, List.setIfInBounds_toArray, List.set_cons_zero, List.set_cons_succ]
        have heq := HEQ.out
        refine wpAnyH_take (i := 7) (v := ?us7) rfl (by kernel_rfl) (by kernel_rfl) (by kernel_rfl) (fun _ _ _ h => h) (Or.inl ⟨by rfl, ?hs7⟩) (HK.out _ H7.out) ?rs7
        case hs7 => (intro W hW; (try dsimp only at hW); go_simp; try with_reducible rfl)
        simp only [Act.put, List.getElem_toArray, List.getElem_cons_succ, List.getElem_cons_zero, List.setIfInBounds_toArray, List.set_cons_zero, List.set_cons_succ]
        refine wpAnyH_take (i := 8) (v := ?us8) rfl (by kernel_rfl) (by kernel_rfl) (by kernel_rfl) (fun _ _ _ h => h) (Or.inl ⟨by rfl, ?hs8⟩) (HK.out _ H7.out) ?rs8
        case hs8 => (intro W hW; (try dsimp only at hW); go_simp; try with_reducible rfl)
        simp only [Act.put, List.getElem_toArray, List.getElem_cons_succ, List.getElem_cons_zero, List.setIfInBounds_toArray, List.set_cons_zero, List.set_cons_succ]
        refine wpAnyH_take (i := 9) (v := ?us9) rfl (by kernel_rfl) (by kernel_rfl) (by kernel_rfl) (fun _ _ _ h => h) (Or.inl ⟨by rfl, ?hs9⟩) (HK.out _ H7.out) ?rs9
        case hs9 => (intro W hW; (try dsimp only at hW); go_simp; try with_reducible rfl)
        simp only [Act.put, List.getElem_toArray, List.getElem_cons_succ, List.getElem_cons_zero, List.setIfInBounds_toArray, List.set_cons_zero, List.set_cons_succ]
        refine wpAnyH_done (by kernel_rfl) ?_ _
        go_wp2
        go_ret
        exact ⟨rfl, HB4.out.trans (H7.out.mono HB4.out.size)⟩
  · have hn' : (500 : Int) < (n : Int) := by omega
    clear hn
    go_enter Try.func4, Try.ntmps4
    go_wp2_with fail
    refine (sgLives_any w).mono ?_
    rintro e w1 ⟨rfl, hb1⟩
    have HB1 := Lib.hid hb1
    clear hb1
    go_wp2_with fail
    refine (sgLives_any w1).mono ?_
    rintro e w2 ⟨rfl, hb2⟩
    have HB2 := Lib.hid hb2
    clear hb2
    go_wp2
    go_ret
    exact ⟨rfl, HB1.out.trans (HB2.out.mono HB1.out.size)⟩

end Go.Proofs.Ytkfnjekeegebaaa
