/- The walk of ImageBlocks. -/
import Derived.Test.YtlmieegemckodaaIBlkOps
import Derived.Test.YtlmieegemckodaaReadyAll
import Derived.Test.YtlmieegemckodaaILives
import Derived.Test.YtlmieegemckodaaIBackAll
import Derived.Test.YtlmieegemckodaaISame
import Derived.Test.YtlmieegemckodaaIRunsAll
import Derived.Test.YtlmieegemckodaaIRefBytes
import Derived.Test.YtlmieegemckodaaDRef
import Derived.Deep.DeepCutAuto
import Derived.BigRegion
import Derived.BigQuiet
import Derived.OpenShut
namespace Go.Proofs.Ytlmieegemckodaa
open Go.RowKit
set_option linter.unusedSimpArgs false

set_option maxHeartbeats 4000000 in
set_option maxRecDepth 100000 in
theorem imageBlocks_walk (a : Option Addr) (n c : Nat) (L : List Wr) (I : Int) (C : Bool) (oa : Option Addr) (om oc : Nat) (x : List Nat) (w : World) (h : RdW w a n L) (hI : (Lit.int .i64 I).wf = true) (hx : Rd w oa om x) (hn : n ≤ 300) (hm : om ≤ 500) :
    Calls Try.prog 3 #[.slice a n c, .agg #[.int .i64 I, .bool C, .slice oa om oc]] w fun e w' => e = .returned (.bool true) ∧ Below w.heap.size w w' := by
  have HR := Lib.hid (And.intro h hx)
  have HI := Lib.hid hI
  clear h hx hI
  have hd1 : decide ((300 : Int) < (n : Int)) = false := by simp; omega
  have hd2 : decide ((500 : Int) < (om : Int)) = false := by simp; omega
  obtain ⟨g3, hg3⟩ : ∃ g3, g3 = w.heap.size := ⟨_, rfl⟩
  obtain ⟨w0, hw0⟩ : ∃ w0, w0 = w.alloc (.cells #[.int .i64 I, .bool C, .slice oa om oc] 25) := ⟨_, rfl⟩
  have HB0 : Hid (Below w.heap.size w w0) := Lib.hid (by rw [hw0]; exact Below.alloc0 _ _)
  have HC0 : Hid (w0.heap[g3]? = some (.cells #[.int .i64 I, .bool C, .slice oa om oc] 25 (0, 0))) := Lib.hid (by rw [hw0, hg3]; exact heap_alloc_last _ _)
  have HK0 : Hid (∀ W, Below w0.heap.size w0 W → W.cell? ⟨g3, 0, none⟩ = some (.int .i64 I) ∧ W.cell? ⟨g3, 2, none⟩ = some (.slice oa om oc)) := Lib.hid fun W hW => by
    have hb := (hW.block g3 (lt_of_block HC0.out)).trans HC0.out
    exact ⟨by rw [cell_of_row W g3 0 _ _ _ hb]; rfl, by rw [cell_of_row W g3 2 _ _ _ hb]; rfl⟩
  have hw0' : w.alloc (.cells #[.int .i64 I, .bool C, .slice oa om oc] 25) = w0 := hw0.symm
  have hg3' : w.heap.size = g3 := hg3.symm
  have HG3 := Lib.hid hg3
  clear hw0 hg3
  go_enter Try.func3, Try.ntmps3
  go_wp2_with fail
  refine (lives9_any w0).mono ?_
  rintro e w1 ⟨rfl, hb1⟩
  obtain ⟨k0, k2⟩ := HK0.out w1 hb1
  have HB1 := Lib.hid hb1
  have HM := Lib.hid (made_any w1 a n c L ((HR.out.1.later HB0.out).later hb1) (by omega))
  obtain ⟨X, hX⟩ : ∃ X, X = madeF L := ⟨_, rfl⟩
  rw [← hX] at HM
  clear hX hb1 hw0' hg3'
  go_wp2_with fail
  refine HM.out.mono ?_
  rintro e w2 ⟨ga, ba, rfl, hga, hba, himg, hb2⟩
  have HIA := Lib.hid himg
  have HFX : Hid (okF X) := Lib.hid himg.ok
  have HGA := Lib.hid (And.intro hga hba)
  have HB2 := Lib.hid hb2
  have HBa : Hid (ga < w2.heap.size ∧ ba < w2.heap.size) := Lib.hid ⟨himg.lt, himg.map.lt⟩
  clear hga hba himg hb2 HM k0 k2
  obtain ⟨g6, hg6⟩ : ∃ g6, g6 = w2.heap.size := ⟨_, rfl⟩
  go_upto_region 4 with (refine wpList_store_img rfl (.tmp 6) (.tmp 37) rfl _ holes X rfl rfl (by rw [zero_img]; exact heap_alloc_last _ _) List.length_replicate HFX.out.1 ?_; intro w3 H3)
  rw [← hg6]
  have HA3 : Hid (w3.heap[g6]? = some (arrObj X)) := Lib.hid (by rw [H3.out, hg6]; exact put_same (heap_alloc_last _ _))
  have HB23 : Hid (Below w2.heap.size w2 w3) := Lib.hid (by rw [H3.out]; exact (Below.alloc0 _ _).trans (put_below _ (Nat.le_refl _)))
  have HG6 := Lib.hid hg6
  clear H3 hg6
  have HIA3 := Lib.hid (HIA.out.later HB23.out)
  have HCl := Lib.hid (imgClone_any w3 ga ba n X HIA3.out (by omega))
  go_upto_region 5 with (refine HCl.out.mono ?_; rintro e w4 ⟨gc, bc, rfl, hgc, hbc, himc, hb4⟩)
  have HIC4 := Lib.hid himc
  have HGC := Lib.hid (And.intro hgc hbc)
  have HB34 := Lib.hid hb4
  have HB14 : Hid (Below w1.heap.size w1 w4) := Lib.hid (HB2.out.trans ((HB23.out.trans (hb4.mono HB23.out.size)).mono HB2.out.size))
  have HB04 : Hid (Below w0.heap.size w0 w4) := Lib.hid (HB1.out.trans (HB14.out.mono HB1.out.size))
  have HBd : Hid (Below w4.heap.size w4 w4.drew) := Lib.hid (Below.refl _ _).drew
  have HIA4 : Hid (Img w4.drew ga ba n X) := Lib.hid ((HIA3.out.later hb4).later HBd.out)
  clear hgc hbc himc hb4 HCl HIA3 HIA
  have HSV : Hid (∀ W, Save [ba] w4.drew W → W.cell? ⟨g3, 0, none⟩ = some (.int .i64 I) ∧ W.cell? ⟨g3, 2, none⟩ = some (.slice oa om oc)) := Lib.hid fun W hW => by
    have h1 := HB04.out.trans (HBd.out.mono HB04.out.size)
    have h2 := hW.below (B := w0.heap.size) h1.size (fun k hk => by
      have := List.mem_singleton.1 hk
      have h3 := HGA.out.2
      have h4 := HB1.out.size
      omega)
    exact HK0.out W (h1.trans h2)
  have HS4 := Lib.hid (HSV.out _ (Save.refl _ _))
  obtain ⟨J, hJ⟩ : ∃ J, J = IntKind.i64.wrap (I + 1) := ⟨_, rfl⟩
  obtain ⟨P, hP⟩ : ∃ P, P = okP I om := ⟨_, rfl⟩
  obtain ⟨D, hD⟩ : ∃ D, D = okC J := ⟨_, rfl⟩
  obtain ⟨F5, hF5⟩ : ∃ F5, F5 = putF P X I x := ⟨_, rfl⟩
  obtain ⟨F6, hF6⟩ : ∃ F6, F6 = clrF D F5 J := ⟨_, rfl⟩
  have HPut := Lib.hid (putR_any w4.drew ga ba n X I oa om oc x HIA4.out (by omega) (((HR.out.2.later HB0.out).later HB04.out).later HBd.out))
  rw [← hP, ← hF5] at HPut
  have HClr : Hid (∀ w5 n5, Img w5 ga ba n5 F5 → Calls Try.prog 10 #[.pointer (some ⟨ga, 0, none⟩), .int .i64 J] w5 fun e w' => e = .returned (.int .i64 (errB D)) ∧ Img w' ga ba n5 F6 ∧ Save [ba] w5 w') := Lib.hid fun w5 n5 h5 => by rw [hF6, hD]; exact clearR_any w5 ga ba n5 F5 J h5
  have HE := Lib.hid (And.intro hJ (And.intro hP (And.intro hD (And.intro hF5 hF6))))
  have hJ' := hJ.symm
  clear hJ hP hD hF5 hF6
  refine wp_region_held_drew (S := fun W => W.cell? ⟨g3, 0, none⟩ = some (.int .i64 I) ∧ W.cell? ⟨g3, 2, none⟩ = some (.slice oa om oc)) (by kernel_rfl) HS4.out (fun _ => ?_)
  refine wpAnyH_take (i := 0) (v := ?va0) rfl (by kernel_rfl) (by kernel_rfl) (by kernel_rfl) (fun _ _ _ h => h) (Or.inl ⟨by rfl, ?ha0⟩) HS4.out ?ra0
  case ha0 => (intro W hW; (try dsimp only at hW); go_simp; try with_reducible rfl)
  simp only [Act.put, List.getElem_toArray, List.getElem_cons_succ, List.getElem_cons_zero, List.setIfInBounds_toArray, List.set_cons_zero, List.set_cons_succ]
  refine wpAnyH_take (i := 1) (v := ?va1) rfl (by kernel_rfl) (by kernel_rfl) (by kernel_rfl) (fun _ _ _ h => h) (Or.inl ⟨by rfl, ?ha1⟩) HS4.out ?ra1
  case ha1 => (intro W hW; (try dsimp only at hW); go_simp; try with_reducible rfl)
  simp only [Act.put, List.getElem_toArray, List.getElem_cons_succ, List.getElem_cons_zero, List.setIfInBounds_toArray, List.set_cons_zero, List.set_cons_succ]
  refine wpAnyH_take (i := 2) (v := ?va2) rfl (by kernel_rfl) (by kernel_rfl) (by kernel_rfl) (fun _ _ _ h => h) (Or.inl ⟨by rfl, ?ha2⟩) HS4.out ?ra2
  case ha2 => (intro W hW; (try dsimp only at hW); go_simp; try with_reducible rfl)
  simp only [Act.put, List.getElem_toArray, List.getElem_cons_succ, List.getElem_cons_zero, List.setIfInBounds_toArray, List.set_cons_zero, List.set_cons_succ]
  refine wpAnyH_take (i := 3) (v := ?va3) rfl (by kernel_rfl) (by kernel_rfl) (by kernel_rfl) (fun _ _ _ h => h) (Or.inl ⟨by rfl, ?ha3⟩) HS4.out ?ra3
  case ha3 => (intro W hW; (try dsimp only at hW); go_simp; try with_reducible rfl)
  simp only [Act.put, List.getElem_toArray, List.getElem_cons_succ, List.getElem_cons_zero, List.setIfInBounds_toArray, List.set_cons_zero, List.set_cons_succ]
  refine wpAnyH_take (i := 4) (v := ?va4) rfl (by kernel_rfl) (by kernel_rfl) (by kernel_rfl) (fun _ _ _ h => h) (Or.inl ⟨by rfl, ?ha4⟩) HS4.out ?ra4
  case ha4 => (intro W hW; (try dsimp only at hW); go_simp; try with_reducible rfl)
  simp only [Act.put, List.getElem_toArray, List.getElem_cons_succ, List.getElem_cons_zero, List.setIfInBounds_toArray, List.set_cons_zero, List.set_cons_succ]
  refine wpAnyH_take (i := 6) (v := ?va6) rfl (by kernel_rfl) (by kernel_rfl) (by kernel_rfl) (fun _ _ _ h => h) (Or.inl ⟨by rfl, ?ha6⟩) HS4.out ?ra6
  case ha6 => (intro W hW; (try dsimp only at hW); go_simp; try with_reducible rfl)
  simp only [Act.put, List.getElem_toArray, List.getElem_cons_succ, List.getElem_cons_zero, List.setIfInBounds_toArray, List.set_cons_zero, List.set_cons_succ]
  refine wpAnyH_take (i := 7) (v := ?va7) rfl (by kernel_rfl) (by kernel_rfl) (by kernel_rfl) (fun _ _ _ h => h) (Or.inl ⟨by rfl, ?ha7⟩) HS4.out ?ra7
  case ha7 => (intro W hW; (try dsimp only at hW); go_simp; try with_reducible rfl)
  simp only [Act.put, List.getElem_toArray, List.getElem_cons_succ, List.getElem_cons_zero, List.setIfInBounds_toArray, List.set_cons_zero, List.set_cons_succ]
  refine wpAnyH_take (i := 8) (v := ?va8) rfl (by kernel_rfl) (by kernel_rfl) (by kernel_rfl) (fun _ _ _ h => h) (Or.inl ⟨by rfl, ?ha8⟩) HS4.out ?ra8
  case ha8 => (intro W hW; (try dsimp only at hW); go_simp; try with_reducible rfl)
  simp only [Act.put, List.getElem_toArray, List.getElem_cons_succ, List.getElem_cons_zero, List.setIfInBounds_toArray, List.set_cons_zero, List.set_cons_succ]
  refine wpAnyH_take (i := 9) (v := ?va9) rfl (by kernel_rfl) (by kernel_rfl) (by kernel_rfl) (fun _ _ _ h => h) (Or.inl ⟨by rfl, ?ha9⟩) HS4.out ?ra9
  case ha9 => (intro W hW; (try dsimp only at hW); go_simp; try with_reducible rfl)
  simp only [Act.put, List.getElem_toArray, List.getElem_cons_succ, List.getElem_cons_zero, List.setIfInBounds_toArray, List.set_cons_zero, List.set_cons_succ]
  refine wpAnyH_ready (rs := [5]) (by kernel_rfl) (by simp) ?_
  refine AllReadyH.cons rfl (fun K hK => ?_) AllReadyH.nil
  refine ready_call (f := 9) (vs := #[.pointer (some ⟨ga, 0, none⟩), .int .i64 I, .slice oa om oc]) (by rfl) (by (go_simp; try with_reducible rfl)) ?_
  refine (HPut.out).mono ?_
  rintro e w5 ⟨n5, rfl, hn5, him5, hs5⟩
  have HI5 := Lib.hid him5
  have HV5 := Lib.hid hs5
  have HN5 := Lib.hid hn5
  have HS5 := Lib.hid (HSV.out w5 hs5)
  clear hn5 him5 hs5
  refine ⟨_, rfl, hK.out _ _ HS5.out (fun _ => ?_)⟩
  clear hK K
  simp only [Act.put, List.getElem_toArray, List.getElem_cons_succ, List.getElem_cons_zero, List.setIfInBounds_toArray, List.set_cons_zero, List.set_cons_succ]
  refine wpAnyH_ready (rs := [10]) (by kernel_rfl) (by simp) ?_
  refine AllReadyH.cons rfl (fun K hK => ?_) AllReadyH.nil
  refine ready_call (f := 10) (vs := #[.pointer (some ⟨ga, 0, none⟩), .int .i64 J]) (by rfl) (by (go_simp; try with_reducible rfl)) ?_
  refine (HClr.out w5 n5 HI5.out).mono ?_
  rintro e w6 ⟨rfl, him6, hs6⟩
  have HV6 : Hid (Save [ba] w4.drew w6) := Lib.hid (HV5.out.trans hs6)
  have HI6 := Lib.hid him6
  have HS6 := Lib.hid (HSV.out w6 HV6.out)
  clear him6 hs6
  refine ⟨_, rfl, hK.out _ _ HS6.out (fun _ => ?_)⟩
  clear hK K
  simp only [Act.put, List.getElem_toArray, List.getElem_cons_succ, List.getElem_cons_zero, List.setIfInBounds_toArray, List.set_cons_zero, List.set_cons_succ]
  refine wpAnyH_take (i := 11) (v := ?va11) rfl (by kernel_rfl) (by kernel_rfl) (by kernel_rfl) (fun _ _ _ h => h) (Or.inl ⟨by rfl, ?ha11⟩) HS6.out ?ra11
  case ha11 => (intro W hW; (try dsimp only at hW); go_simp; try with_reducible rfl)
  simp only [Act.put, List.getElem_toArray, List.getElem_cons_succ, List.getElem_cons_zero, List.setIfInBounds_toArray, List.set_cons_zero, List.set_cons_succ]
  refine wpAnyH_take (i := 12) (v := ?va12) rfl (by kernel_rfl) (by kernel_rfl) (by kernel_rfl) (fun _ _ _ h => h) (Or.inl ⟨by rfl, ?ha12⟩) HS6.out ?ra12
  case ha12 => (intro W hW; (try dsimp only at hW); go_simp; try with_reducible rfl)
  simp only [Act.put, List.getElem_toArray, List.getElem_cons_succ, List.getElem_cons_zero, List.setIfInBounds_toArray, List.set_cons_zero, List.set_cons_succ]
  refine wpAnyH_done (by kernel_rfl) ?_ _
  clear hJ'
  go_upto_region 6 with fail
  have HN6 : Hid (n5 < 100000) := Lib.hid (by have := HN5.out; omega)
  have HA6 : Hid (w6.heap[g6]? = some (arrObj X)) := Lib.hid (by
    have h1 := (HB34.out.block g6 (lt_of_block HA3.out)).trans HA3.out
    have h2 := (HBd.out.block g6 (lt_of_block h1)).trans h1
    refine (HV6.out.block g6 (lt_of_block h2) ?_).trans h2
    have h3 := HIA4.out
    have h5 := HG6.out
    have h6 := HBa.out
    simp
    omega)
  have HIC6 : Hid (Img w6 gc bc n X) := Lib.hid ((HIC4.out.later HBd.out).save HV6.out (by have := HGC.out; have := HBa.out; have := HB23.out.size; simp; omega) (by have := HGC.out; have := HBa.out; have := HB23.out.size; simp; omega))
  have HBw6 : Hid (Below w0.heap.size w0 w6) := Lib.hid (by
    have h1 := HB04.out.trans (HBd.out.mono HB04.out.size)
    exact h1.trans (HV6.out.below (B := w0.heap.size) h1.size (fun k hk => by
      have := List.mem_singleton.1 hk
      have h3 := HGA.out.2
      have h4 := HB1.out.size
      omega)))
  have HG60 : Hid (w0.heap.size ≤ g6) := Lib.hid (by have := HG6.out; have := HB1.out.size; have := HB2.out.size; omega)
  have HNe : Hid (g6 ≠ ga ∧ g6 ≠ ba) := Lib.hid (by have := HBa.out; have := HG6.out; omega)
  clear HV6 HV5 HI5 HN5 HS4 HS5 HPut HClr HIA4 HIC4 HA3 HGC HB34 HB14 HB04 HBd HSV HGA HBa HG6 HB23 HB2
  obtain ⟨k0, k2⟩ := HS6.out
  go_cut [10, 11] (fun s1 s2 wx => s1 = .bool P ∧ s2 = .bool D ∧ Hid (Below w6.heap.size w6 wx))
  case first =>
    as_aux_lemma =>
      have HPD : Hid (P = decide (0 ≤ I ∧ I < 256 ∧ om ≤ 32) ∧ D = decide (-1 ≤ I ∧ I < 255)) := Lib.hid ⟨HE.out.2.1, by rw [HE.out.2.2.1, HE.out.1]; exact (wrap_next HI.out).1⟩
      rcases (show (I < -1) ∨ (I = -1) ∨ (0 ≤ I ∧ I < 255 ∧ om ≤ 32) ∨ (0 ≤ I ∧ I < 255 ∧ ¬ om ≤ 32) ∨ (I = 255 ∧ om ≤ 32) ∨ (I = 255 ∧ ¬ om ≤ 32) ∨ (256 ≤ I) by omega) with hc | hc | hc | hc | hc | hc | hc
      · have e0 : decide (0 ≤ I) = false := by simp; omega
        have q0 : decide (-1 ≤ I) = false := by simp; omega
        have HPt : Hid (P = false ∧ D = false) := Lib.hid ⟨by rw [HPD.out.1]; simp; omega, by rw [HPD.out.2]; simp; omega⟩
        clear hc HPD
        go_quiet (fail)
        go_wp2_with fail
        go_meet
        exact ⟨by rw [HPt.out.1], by rw [HPt.out.2], Lib.hid ((Below.refl _ _).trans ⟨rfl, rfl, rfl, Nat.le_refl _, fun _ _ => rfl⟩)⟩
      · have e0 : decide (0 ≤ I) = false := by simp; omega
        have q0 : decide (-1 ≤ I) = true := by simp; omega
        have q1 : decide (I < 255) = true := by simp; omega
        have HPt : Hid (P = false ∧ D = true) := Lib.hid ⟨by rw [HPD.out.1]; simp; omega, by rw [HPD.out.2]; simp; omega⟩
        clear hc HPD
        go_quiet (fail)
        go_wp2_with fail
        go_meet
        exact ⟨by rw [HPt.out.1], by rw [HPt.out.2], Lib.hid ((Below.refl _ _).trans ⟨rfl, rfl, rfl, Nat.le_refl _, fun _ _ => rfl⟩)⟩
      · have e0 : decide (0 ≤ I) = true := by simp; omega
        have e1 : decide (I < 256) = true := by simp; omega
        have e2 : decide ((om : Int) ≤ 32) = true := by simp; omega
        have q0 : decide (-1 ≤ I) = true := by simp; omega
        have q1 : decide (I < 255) = true := by simp; omega
        have HPt : Hid (P = true ∧ D = true) := Lib.hid ⟨by rw [HPD.out.1]; simp; omega, by rw [HPD.out.2]; simp; omega⟩
        clear hc HPD
        go_quiet (fail)
        go_wp2_with fail
        go_meet
        exact ⟨by rw [HPt.out.1], by rw [HPt.out.2], Lib.hid ((Below.refl _ _).trans ⟨rfl, rfl, rfl, Nat.le_refl _, fun _ _ => rfl⟩)⟩
      · have e0 : decide (0 ≤ I) = true := by simp; omega
        have e1 : decide (I < 256) = true := by simp; omega
        have e2 : decide ((om : Int) ≤ 32) = false := by simp; omega
        have q0 : decide (-1 ≤ I) = true := by simp; omega
        have q1 : decide (I < 255) = true := by simp; omega
        have HPt : Hid (P = false ∧ D = true) := Lib.hid ⟨by rw [HPD.out.1]; simp; omega, by rw [HPD.out.2]; simp; omega⟩
        clear hc HPD
        go_quiet (fail)
        go_wp2_with fail
        go_meet
        exact ⟨by rw [HPt.out.1], by rw [HPt.out.2], Lib.hid ((Below.refl _ _).trans ⟨rfl, rfl, rfl, Nat.le_refl _, fun _ _ => rfl⟩)⟩
      · have e0 : decide (0 ≤ I) = true := by simp; omega
        have e1 : decide (I < 256) = true := by simp; omega
        have e2 : decide ((om : Int) ≤ 32) = true := by simp; omega
        have q0 : decide (-1 ≤ I) = true := by simp; omega
        have q1 : decide (I < 255) = false := by simp; omega
        have HPt : Hid (P = true ∧ D = false) := Lib.hid ⟨by rw [HPD.out.1]; simp; omega, by rw [HPD.out.2]; simp; omega⟩
        clear hc HPD
        go_quiet (fail)
        go_wp2_with fail
        go_meet
        exact ⟨by rw [HPt.out.1], by rw [HPt.out.2], Lib.hid ((Below.refl _ _).trans ⟨rfl, rfl, rfl, Nat.le_refl _, fun _ _ => rfl⟩)⟩
      · have e0 : decide (0 ≤ I) = true := by simp; omega
        have e1 : decide (I < 256) = true := by simp; omega
        have e2 : decide ((om : Int) ≤ 32) = false := by simp; omega
        have q0 : decide (-1 ≤ I) = true := by simp; omega
        have q1 : decide (I < 255) = false := by simp; omega
        have HPt : Hid (P = false ∧ D = false) := Lib.hid ⟨by rw [HPD.out.1]; simp; omega, by rw [HPD.out.2]; simp; omega⟩
        clear hc HPD
        go_quiet (fail)
        go_wp2_with fail
        go_meet
        exact ⟨by rw [HPt.out.1], by rw [HPt.out.2], Lib.hid ((Below.refl _ _).trans ⟨rfl, rfl, rfl, Nat.le_refl _, fun _ _ => rfl⟩)⟩
      · have e0 : decide (0 ≤ I) = true := by simp; omega
        have e1 : decide (I < 256) = false := by simp; omega
        have q0 : decide (-1 ≤ I) = true := by simp; omega
        have q1 : decide (I < 255) = false := by simp; omega
        have HPt : Hid (P = false ∧ D = false) := Lib.hid ⟨by rw [HPD.out.1]; simp; omega, by rw [HPD.out.2]; simp; omega⟩
        clear hc HPD
        go_quiet (fail)
        go_wp2_with fail
        go_meet
        exact ⟨by rw [HPt.out.1], by rw [HPt.out.2], Lib.hid ((Below.refl _ _).trans ⟨rfl, rfl, rfl, Nat.le_refl _, fun _ _ => rfl⟩)⟩
  case rest =>
    as_aux_lemma =>
      obtain ⟨rfl, rfl, HBc⟩ := hcut
      have HA7 : Hid (wc.heap[g6]? = some (arrObj X)) := Lib.hid ((HBc.out.block g6 (lt_of_block HA6.out)).trans HA6.out)
      have HI7 := Lib.hid (HI6.out.later HBc.out)
      have HBw7 : Hid (Below w0.heap.size w0 wc) := Lib.hid (HBw6.out.trans (HBc.out.mono HBw6.out.size))
      have HLk := Lib.hid (like_any wc gc bc n X (HIC6.out.later HBc.out))
      obtain ⟨w7, hw7⟩ : ∃ w7, w7 = wc := ⟨_, rfl⟩
      rw [← hw7] at HA7 HI7 HBw7 HLk ⊢
      clear hw7 HBc HA6 HI6 HBw6 HIC6 HS6 k0 k2
      have eT : errB true = 0 := rfl
      have eF : errB false = 1 := rfl
      go_upto_region 7 with fail
      go_cut [104] (fun s wx => s = .bool false ∧ Hid (Below w7.heap.size w7 wx))
      case first =>
        as_aux_lemma =>
          cases P <;> cases D
          all_goals
            go_wp2_with (refine wpList_load_img rfl (.tmp 6) rfl g6 X rfl HA7.out HFX.out.1 ?_)
            refine HLk.out.mono ?_
            rintro e w8 ⟨rfl, hb8⟩
            have HB8 := Lib.hid hb8
            clear hb8
            go_wp2_with fail
            go_meet
            exact ⟨rfl, HB8⟩
      case rest =>
        as_aux_lemma =>
          obtain ⟨rfl, HB8⟩ := hcut
          clear eT eF HLk
          have HA8 : Hid (wc.heap[g6]? = some (arrObj X)) := Lib.hid ((HB8.out.block g6 (lt_of_block HA7.out)).trans HA7.out)
          have HI8 := Lib.hid (HI7.out.later HB8.out)
          have HBw8 : Hid (Below w0.heap.size w0 wc) := Lib.hid (HBw7.out.trans (HB8.out.mono HBw7.out.size))
          obtain ⟨w8, hw8⟩ : ∃ w8, w8 = wc := ⟨_, rfl⟩
          rw [← hw8] at HA8 HI8 HBw8 ⊢
          clear hw8 HB8 HA7 HI7 HBw7
          obtain ⟨k0, k2⟩ := HK0.out w8 HBw8.out
          have HF5 : Hid (okF F5) := Lib.hid (by
            rw [HE.out.2.2.2.1]
            unfold putF
            split
            · rename_i hp
              rw [HE.out.2.1] at hp
              have hp' := of_decide_eq_true hp
              exact HFX.out.set _ (.inr (padB_ok (by rw [HR.out.2.1]; exact hp'.2.2) HR.out.2.2.1))
            · exact HFX.out)
          go_upto_if 105 with fail
          go_cut [] (fun wx => Hid (wx.heap[g6]? = some (arrObj F5) ∧ Save [g6] w8 wx))
          case first =>
            as_aux_lemma =>
              cases P with
              | false =>
                go_wp2_with fail
                go_meet
                exact Lib.hid ⟨by rw [HE.out.2.2.2.1]; exact HA8.out, Save.refl _ _⟩
              | true =>
                have HRP : Hid (Calls Try.prog 12 #[.agg (cS X).toArray, .int .i64 I, .slice oa om oc] w8 fun e w' => e = .returned (.agg (cS F5).toArray) ∧ Below w8.heap.size w8 w') := Lib.hid (by
                  have hp' := of_decide_eq_true HE.out.2.1.symm
                  have h1 := refPut_any w8 X I.toNat oa om oc x HFX.out.1 (by omega) hp'.2.2 ((HR.out.2.later HB0.out).later HBw8.out)
                  rw [show ((I.toNat : Nat) : Int) = I by omega] at h1
                  rw [HE.out.2.2.2.1]
                  exact h1)
                go_wp2_with (refine wpList_load_img rfl (.tmp 6) rfl g6 X rfl HA8.out HFX.out.1 ?_)
                refine HRP.out.mono ?_
                rintro e w9 ⟨rfl, hb9⟩
                have HB9 := Lib.hid hb9
                have HA9 : Hid (w9.heap[g6]? = some (arrObj X)) := Lib.hid ((hb9.block g6 (lt_of_block HA8.out)).trans HA8.out)
                clear hb9
                go_wp2_with (refine wpList_store_img rfl (.tmp 6) (.tmp 111) rfl _ X F5 rfl rfl HA9.out HFX.out.1 HF5.out.1 ?_; intro w10 H10)
                go_meet
                exact Lib.hid ⟨by rw [H10.out]; exact put_same HA9.out, by rw [H10.out]; exact (Save.of_below HB9.out _).put (by simp) _⟩
          case rest =>
            as_aux_lemma =>
              have HA9 := Lib.hid hcut.out.1
              have HV9 := Lib.hid hcut.out.2
              obtain ⟨w9, hw9⟩ : ∃ w9, w9 = wc := ⟨_, rfl⟩
              rw [← hw9] at HA9 HV9 ⊢
              have HI9 : Hid (Img w9 ga ba n5 F6) := Lib.hid (HI8.out.save HV9.out (by have := HNe.out; simp; omega) (by have := HNe.out; simp; omega))
              have HBw9 : Hid (Below w0.heap.size w0 w9) := Lib.hid (HBw8.out.trans (HV9.out.below HBw8.out.size (fun k hk => by
                have h1 := List.mem_singleton.1 hk
                have h2 := HG60.out
                omega)))
              clear hw9 hcut HV9 HI8 HBw8 HA8 k0 k2
              obtain ⟨k0, k2⟩ := HK0.out w9 HBw9.out
              have HF6 : Hid (okF F6) := Lib.hid HI9.out.ok
              go_upto_if 112 with fail
              go_cut [] (fun wx => Hid (wx.heap[g6]? = some (arrObj F6) ∧ Save [g6] w9 wx))
              case first =>
                as_aux_lemma =>
                  cases D with
                  | false =>
                    go_wp2_with fail
                    go_meet
                    exact Lib.hid ⟨by rw [HE.out.2.2.2.2]; exact HA9.out, Save.refl _ _⟩
                  | true =>
                    have hp' := of_decide_eq_true HE.out.2.2.1.symm
                    have hj2 := (wrap_next HI.out).2 (by rw [← HE.out.1]; exact HE.out.2.2.1.symm)
                    obtain ⟨K, hK⟩ : ∃ K : Nat, K = J.toNat := ⟨_, rfl⟩
                    have hKl : K < 256 := by omega
                    have hJ' : IntKind.i64.wrap (I + 1) = (K : Int) := by rw [← HE.out.1]; omega
                    have HKe : Hid (F6 = F5.set K []) := Lib.hid (by rw [HE.out.2.2.2.2, hK]; rfl)
                    have hFl : F5.length = 256 := HF5.out.1
                    have hc := arr_cell HA9.out (j := K) (by rw [hFl]; exact hKl)
                    have hf := arr_frozen (j := K) HA9.out
                    have hset := arr_set (j := K) [] HA9.out
                    obtain ⟨w10, hw10⟩ : ∃ w10, w10 = put w9 g6 (arrObj (F5.set K [])) := ⟨_, rfl⟩
                    have HS10 : Hid (Save [g6] w9 w10) := Lib.hid (by rw [hw10]; exact (Save.refl _ _).put (by simp) _)
                    have HA10 : Hid (w10.heap[g6]? = some (arrObj F6)) := Lib.hid (by rw [hw10, HKe.out]; exact put_same HA9.out)
                    rw [← hw10, strB_nil] at hset
                    clear hw10 hp' hj2 hK hFl
                    go_wp2
                    go_meet
                    exact Lib.hid ⟨HA10.out, HS10.out⟩
              case rest =>
                as_aux_lemma =>
                  have HA10 := Lib.hid hcut.out.1
                  have HV10 := Lib.hid hcut.out.2
                  obtain ⟨w10, hw10⟩ : ∃ w10, w10 = wc := ⟨_, rfl⟩
                  rw [← hw10] at HA10 HV10 ⊢
                  have HI10 : Hid (Img w10 ga ba n5 F6) := Lib.hid (HI9.out.save HV10.out (by have := HNe.out; simp; omega) (by have := HNe.out; simp; omega))
                  have HBw10 : Hid (Below w0.heap.size w0 w10) := Lib.hid (HBw9.out.trans (HV10.out.below HBw9.out.size (fun k hk => by
                    have h1 := List.mem_singleton.1 hk
                    have h2 := HG60.out
                    omega)))
                  clear hw10 hcut HV10 HI9 HBw9 HA9 k0 k2
                  have HBy := Lib.hid (imgBytes_any w10 ga ba n5 F6 HI10.out)
                  go_wp2_with fail
                  refine HBy.out.mono ?_
                  rintro e u1 ⟨v11, M, rfl, hsf, ho11, hb11⟩
                  obtain ⟨B, hB⟩ : ∃ B, B = tEnc (bytesF F6 M) := ⟨_, rfl⟩
                  rw [← hB] at ho11
                  obtain ⟨va, vc, rfl, hrv, hvc⟩ := ho11.sl
                  have HBl : Hid (B.length ≤ 20000) := Lib.hid (by
                    have h1 := bytesF_len9 HF6.out hsf
                    have h2 := vEnc_len10 (n := (bytesF F6 M).length) (by omega)
                    rw [hB]
                    unfold tEnc
                    rw [List.length_append]
                    omega)
                  obtain ⟨bl, hbl⟩ : ∃ bl, bl = B.length := ⟨_, rfl⟩
                  rw [← hbl] at hrv hvc HBl ⊢
                  have HSF := Lib.hid hsf
                  have HRB := Lib.hid hrv
                  have HIR : Hid (imgRd B = (0, F6)) := Lib.hid (by rw [hB]; exact imgRd_put HF6.out hsf)
                  have HBe := Lib.hid (And.intro hB hbl)
                  have HU1 := Lib.hid hb11
                  have HOp := Lib.hid (open_any va bl vc B u1 hrv (by have := HBl.out; omega))
                  clear hsf ho11 hb11 hB hrv hvc hbl HBy
                  go_wp2_with fail
                  refine HOp.out.mono ?_
                  rintro e u2 ⟨gr, rfl, hgr, hrd, hb12⟩
                  have HRe := Lib.hid (imgRead_any u2 gr B hrd HRB.out.2.1)
                  rw [HIR.out] at HRe
                  have HGr := Lib.hid hgr
                  have HU2 := Lib.hid hb12
                  clear hgr hrd hb12 HOp HIR
                  go_wp2_with fail
                  refine HRe.out.mono ?_
                  rintro e u3 ⟨hs13, hpost⟩
                  obtain ⟨gy, yb, qy, hq, rfl, himy⟩ : ∃ g' b' q, q ≤ 300 ∧ e = .returned (.tuple #[.pointer (some ⟨g', 0, none⟩), .int .i64 0]) ∧ Img u3 g' b' q F6 := by
                    rcases hpost with ⟨h1, _⟩ | ⟨_, g', b', q, h1, _, _, h2, h3⟩
                    · exact absurd rfl h1
                    · exact ⟨g', b', q, h1, h2, h3⟩
                  have HU3 : Hid (Below u1.heap.size u1 u3) := Lib.hid (HU2.out.trans (hs13.below HU2.out.size (fun k hk => by
                    have h1 := List.mem_singleton.1 hk
                    have h2 := HGr.out
                    omega)))
                  have HQ := Lib.hid hq
                  have HIY := Lib.hid himy
                  have HRO := Lib.hid (refOf_any va bl vc B u3 (HRB.out.later HU3.out) (by have := HBl.out; omega))
                  obtain ⟨Sm, hSm⟩ : ∃ Sm, Sm = dSum B := ⟨_, rfl⟩
                  rw [← hSm] at HRO
                  have HSm := Lib.hid hSm
                  clear hs13 hpost hq himy hSm HRe HU2
                  go_wp2_with fail
                  refine HRO.out.mono ?_
                  rintro e u4 ⟨rfl, nq, hw14⟩
                  have HU4 : Hid (Below u3.heap.size u3 u4) := Lib.hid (by rw [hw14]; exact ⟨rfl, rfl, rfl, Nat.le_refl _, fun _ _ => rfl⟩)
                  have HU14 : Hid (Below w10.heap.size w10 u4) := Lib.hid (by
                    have h1 := HU3.out.trans (HU4.out.mono HU3.out.size)
                    exact HU1.out.trans (h1.mono HU1.out.size))
                  have HGe := Lib.hid (get_hole u4 ga ba n5 F6 256 (HI10.out.later HU14.out) rfl (fAt_out HF6.out.1 (.inr (by omega))))
                  clear hw14 HRO
                  go_wp2_with fail
                  refine HGe.out.mono ?_
                  rintro e V ⟨rfl, hb15⟩
                  have HIa : Hid (Img V ga ba n5 F6) := Lib.hid ((HI10.out.later HU14.out).later hb15)
                  have HIy : Hid (Img V gy yb qy F6) := Lib.hid ((HIY.out.later HU4.out).later hb15)
                  have HAx : Hid (V.heap[g6]? = some (arrObj F6)) := Lib.hid (by
                    have h1 := (HU14.out.block g6 (lt_of_block HA10.out)).trans HA10.out
                    exact (hb15.block g6 (lt_of_block h1)).trans h1)
                  have HRb : Hid (Rd V va bl B) := Lib.hid (((HRB.out.later HU3.out).later HU4.out).later hb15)
                  have HBwV : Hid (Below w0.heap.size w0 V) := Lib.hid (by
                    have h1 := HBw10.out.trans (HU14.out.mono HBw10.out.size)
                    exact h1.trans (hb15.mono h1.size))
                  clear hb15 HGe HU14 HU4 HU3 HU1 HIY HRB HI10 HA10 HBw10 HGr
                  obtain ⟨ml, hml⟩ : ∃ ml, ml = M.length := ⟨_, rfl⟩
                  have HMl : Hid (ml ≤ 128) := Lib.hid (by rw [hml]; exact HSF.out.len HF6.out.1)
                  have HLa : Hid (∀ W, Below V.heap.size V W → Calls Try.prog 11 #[.pointer (some ⟨ga, 0, none⟩), .agg (cS F6).toArray] W fun e w' => e = .returned (.bool true) ∧ Below W.heap.size W w') := Lib.hid fun W hW => like_any W ga ba n5 F6 (HIa.out.later hW)
                  have HLy : Hid (∀ W, Below V.heap.size V W → Calls Try.prog 11 #[.pointer (some ⟨gy, 0, none⟩), .agg (cS F6).toArray] W fun e w' => e = .returned (.bool true) ∧ Below W.heap.size W w') := Lib.hid fun W hW => like_any W gy yb qy F6 (HIy.out.later hW)
                  have HBk : Hid (∀ W, Below V.heap.size V W → Calls Try.prog 20 #[.pointer (some ⟨ga, 0, none⟩)] W fun e w' => ∃ a1 c1, e = .returned (.slice a1 ml c1) ∧ Hid (RdR w' a1 ml M) ∧ Hid (Below W.heap.size W w')) := Lib.hid fun W hW => (blocks_any W ga ba n5 F6 (HIa.out.later hW)).mono fun e w' he => by
                    obtain ⟨v, M1, rfl, ho, hs, hb⟩ := he
                    obtain ⟨a1, c1, rfl, hr, _, _⟩ := ho.rd
                    rw [hs.unique HSF.out, ← hml] at hr ⊢
                    exact ⟨a1, c1, rfl, Lib.hid hr, Lib.hid hb⟩
                  have HRu : Hid (∀ W (a0 : Option Addr) (c0 : Nat), RdR W a0 ml M → Calls Try.prog 19 #[.slice a0 ml c0] W fun e w' => ∃ a1 c1, e = .returned (.slice a1 ml c1) ∧ Hid (RdR w' a1 ml M) ∧ Hid (Below W.heap.size W w')) := Lib.hid fun W a0 c0 h0 => (lawRuns_any a0 ml c0 M W h0 (by have := HMl.out; omega)).mono fun e w' he => by
                    obtain ⟨v, rfl, ho, hb⟩ := he
                    obtain ⟨a1, c1, rfl, hr, _, _⟩ := ho.rd
                    rw [← hml] at hr ⊢
                    exact ⟨a1, c1, rfl, Lib.hid hr, Lib.hid hb⟩
                  have HRk : Hid (∀ W, Calls Try.prog 21 #[.agg (cS F6).toArray] W fun e w' => ∃ a1 c1, e = .returned (.slice a1 ml c1) ∧ Hid (RdR w' a1 ml M) ∧ Hid (Below W.heap.size W w')) := Lib.hid fun W => (refBlocks_any W F6 HF6.out).mono fun e w' he => by
                    obtain ⟨v, M1, rfl, ho, hs, hb⟩ := he
                    obtain ⟨a1, c1, rfl, hr, _, _⟩ := ho.rd
                    rw [hs.unique HSF.out, ← hml] at hr ⊢
                    exact ⟨a1, c1, rfl, Lib.hid hr, Lib.hid hb⟩
                  have HRy : Hid (∀ W, Calls Try.prog 22 #[.agg (cS F6).toArray] W fun e w' => ∃ a1 c1, e = .returned (.slice a1 bl c1) ∧ Hid (Rd w' a1 bl B) ∧ Hid (Below W.heap.size W w')) := Lib.hid fun W => (refBytes9_any W F6 HF6.out).mono fun e w' he => by
                    obtain ⟨v, M1, rfl, hs, ho, hb⟩ := he
                    rw [hs.unique HSF.out, ← HBe.out.1] at ho
                    obtain ⟨a1, c1, rfl, hr, _⟩ := ho.sl
                    rw [← HBe.out.2] at hr ⊢
                    exact ⟨a1, c1, rfl, Lib.hid hr, Lib.hid hb⟩
                  have HSa : Hid (∀ W, Below V.heap.size V W → Calls Try.prog 23 #[.pointer (some ⟨ga, 0, none⟩), .pointer (some ⟨gy, 0, none⟩)] W fun e w' => e = .returned (.bool true) ∧ Below W.heap.size W w') := Lib.hid fun W hW => by
                    have h1 := same_any W ga ba n5 gy yb qy F6 F6 (HIa.out.later hW) (HIy.out.later hW) HN6.out (by have := HQ.out; omega)
                    rw [decide_eq_true rfl] at h1
                    exact h1
                  have HDg : Hid (∀ W, Below V.heap.size V W → Calls Try.prog 24 #[.pointer (some ⟨ga, 0, none⟩)] W fun e w' => e = .returned (.agg #[.int .u64 (bl : Int), .int .u64 (Sm : Int)]) ∧ Below W.heap.size W w') := Lib.hid fun W hW => (imgDigest_any W ga ba n5 F6 (HIa.out.later hW) HF6.out).mono fun e w' he => by
                    obtain ⟨M1, hs, rfl, hb⟩ := he
                    rw [hs.unique HSF.out, ← HBe.out.1, ← HBe.out.2, ← HSm.out]
                    exact ⟨rfl, hb⟩
                  have HSI : Hid (∀ W, Below V.heap.size V W → W.heap[g6]? = some (arrObj F6) ∧ Rd W va bl B) := Lib.hid fun W hW => ⟨(hW.block g6 (lt_of_block HAx.out)).trans HAx.out, HRb.out.later hW⟩
                  have HBe0 : Hid (Below V.heap.size V V.drew) := Lib.hid (Below.refl _ _).drew
                  have HSe0 := Lib.hid (HSI.out _ HBe0.out)
                  clear hml hn hm hd1 hd2
                  go_upto_region 17 with fail
                  as_aux_lemma =>
                    refine wp_region_held_drew (S := fun W => W.heap[g6]? = some (arrObj F6) ∧ Rd W va bl B) (by kernel_rfl) HSe0.out (fun _ => ?_)
                    refine wpAnyH_take (i := 0) (v := ?vb0) rfl (by kernel_rfl) (by kernel_rfl) (by kernel_rfl) (fun _ _ _ h => h) (Or.inl ⟨by rfl, ?hb0⟩) HSe0.out ?rb0
                    case hb0 => (intro W hW; (try dsimp only at hW); go_simp; try with_reducible rfl)
                    simp only [Act.put, List.getElem_toArray, List.getElem_cons_succ, List.getElem_cons_zero, List.setIfInBounds_toArray, List.set_cons_zero, List.set_cons_succ]
                    refine wpAnyH_take (i := 1) (v := .agg (cS F6).toArray) rfl (by kernel_rfl) (by kernel_rfl) (by kernel_rfl) (fun _ _ _ h => h) (Or.inl ⟨by rfl, ?hb1⟩) HSe0.out ?rb1
                    case hb1 => (intro W hW; exact exec_load_img (by rfl) (by rfl) hW.1 HF6.out.1)
                    simp only [Act.put, List.getElem_toArray, List.getElem_cons_succ, List.getElem_cons_zero, List.setIfInBounds_toArray, List.set_cons_zero, List.set_cons_succ]
                    refine wpAnyH_ready (rs := [2]) (by kernel_rfl) (by simp) ?_
                    refine AllReadyH.cons rfl (fun K hK => ?_) AllReadyH.nil
                    refine ready_call (f := 11) (vs := #[.pointer (some ⟨ga, 0, none⟩), .agg (cS F6).toArray]) (by rfl) (by (go_simp; try with_reducible rfl)) ?_
                    refine (HLa.out _ HBe0.out).mono ?_
                    rintro e xe1 ⟨rfl, hbe1⟩
                    have HBe1 : Hid (Below V.heap.size V xe1) := Lib.hid (HBe0.out.trans (hbe1.mono HBe0.out.size))
                    clear hbe1
                    have HSe1 := Lib.hid (HSI.out _ HBe1.out)
                    refine ⟨_, rfl, hK.out _ _ HSe1.out (fun _ => ?_)⟩
                    clear hK K
                    simp only [Act.put, List.getElem_toArray, List.getElem_cons_succ, List.getElem_cons_zero, List.setIfInBounds_toArray, List.set_cons_zero, List.set_cons_succ]
                    refine wpAnyH_take (i := 3) (v := ?vb3) rfl (by kernel_rfl) (by kernel_rfl) (by kernel_rfl) (fun _ _ _ h => h) (Or.inl ⟨by rfl, ?hb3⟩) HSe1.out ?rb3
                    case hb3 => (intro W hW; (try dsimp only at hW); go_simp; try with_reducible rfl)
                    simp only [Act.put, List.getElem_toArray, List.getElem_cons_succ, List.getElem_cons_zero, List.setIfInBounds_toArray, List.set_cons_zero, List.set_cons_succ]
                    refine wpAnyH_take (i := 4) (v := ?vb4) rfl (by kernel_rfl) (by kernel_rfl) (by kernel_rfl) (fun _ _ _ h => h) (Or.inl ⟨by rfl, ?hb4⟩) HSe1.out ?rb4
                    case hb4 => (intro W hW; (try dsimp only at hW); go_simp; try with_reducible rfl)
                    simp only [Act.put, List.getElem_toArray, List.getElem_cons_succ, List.getElem_cons_zero, List.setIfInBounds_toArray, List.set_cons_zero, List.set_cons_succ]
                    refine wpAnyH_take (i := 7) (v := .agg (cS F6).toArray) rfl (by kernel_rfl) (by kernel_rfl) (by kernel_rfl) (fun _ _ _ h => h) (Or.inl ⟨by rfl, ?hb7⟩) HSe1.out ?rb7
                    case hb7 => (intro W hW; exact exec_load_img (by rfl) (by rfl) hW.1 HF6.out.1)
                    simp only [Act.put, List.getElem_toArray, List.getElem_cons_succ, List.getElem_cons_zero, List.setIfInBounds_toArray, List.set_cons_zero, List.set_cons_succ]
                    refine wpAnyH_ready (rs := [5]) (by kernel_rfl) (by simp) ?_
                    refine AllReadyH.cons rfl (fun K hK => ?_) AllReadyH.nil
                    refine ready_call (f := 20) (vs := #[.pointer (some ⟨ga, 0, none⟩)]) (by rfl) (by (go_simp; try with_reducible rfl)) ?_
                    refine (HBk.out _ HBe1.out).mono ?_
                    rintro e xe2 ⟨ae2, ce2, rfl, HAe2, HQe2⟩
                    have HBe2 : Hid (Below V.heap.size V xe2) := Lib.hid (HBe1.out.trans (HQe2.out.mono HBe1.out.size))
                    have HSe2 := Lib.hid (HSI.out _ HBe2.out)
                    refine ⟨_, rfl, hK.out _ _ HSe2.out (fun _ => ?_)⟩
                    clear hK K
                    simp only [Act.put, List.getElem_toArray, List.getElem_cons_succ, List.getElem_cons_zero, List.setIfInBounds_toArray, List.set_cons_zero, List.set_cons_succ]
                    refine wpAnyH_ready (rs := [6]) (by kernel_rfl) (by simp) ?_
                    refine AllReadyH.cons rfl (fun K hK => ?_) AllReadyH.nil
                    refine ready_call (f := 19) (vs := #[.slice ae2 ml ce2]) (by rfl) (by (go_simp; try with_reducible rfl)) ?_
                    refine (HRu.out _ ae2 ce2 HAe2.out).mono ?_
                    rintro e xe3 ⟨ae3, ce3, rfl, HAe3, HQe3⟩
                    have HBe3 : Hid (Below V.heap.size V xe3) := Lib.hid (HBe2.out.trans (HQe3.out.mono HBe2.out.size))
                    have HSe3 := Lib.hid (HSI.out _ HBe3.out)
                    refine ⟨_, rfl, hK.out _ _ HSe3.out (fun _ => ?_)⟩
                    clear hK K
                    simp only [Act.put, List.getElem_toArray, List.getElem_cons_succ, List.getElem_cons_zero, List.setIfInBounds_toArray, List.set_cons_zero, List.set_cons_succ]
                    refine wpAnyH_ready (rs := [8]) (by kernel_rfl) (by simp) ?_
                    refine AllReadyH.cons rfl (fun K hK => ?_) AllReadyH.nil
                    refine ready_call (f := 21) (vs := #[.agg (cS F6).toArray]) (by rfl) (by (go_simp; try with_reducible rfl)) ?_
                    refine (HRk.out _).mono ?_
                    rintro e xe4 ⟨ae4, ce4, rfl, HAe4, HQe4⟩
                    have HBe4 : Hid (Below V.heap.size V xe4) := Lib.hid (HBe3.out.trans (HQe4.out.mono HBe3.out.size))
                    have HSe4 := Lib.hid (HSI.out _ HBe4.out)
                    refine ⟨_, rfl, hK.out _ _ HSe4.out (fun _ => ?_)⟩
                    clear hK K
                    simp only [Act.put, List.getElem_toArray, List.getElem_cons_succ, List.getElem_cons_zero, List.setIfInBounds_toArray, List.set_cons_zero, List.set_cons_succ]
                    refine wpAnyH_ready (rs := [9]) (by kernel_rfl) (by simp) ?_
                    refine AllReadyH.cons rfl (fun K hK => ?_) AllReadyH.nil
                    refine ready_call (f := 18) (vs := #[.slice ae3 ml ce3, .slice ae4 ml ce4]) (by rfl) (by (go_simp; try with_reducible rfl)) ?_
                    refine (refSame_any ae3 ae4 ml ce3 ce4 M _ (HAe3.out.later HQe4.out) HAe4.out (by have := HMl.out; omega)).mono ?_
                    rintro e xe5 ⟨rfl, hbe5⟩
                    have HBe5 : Hid (Below V.heap.size V xe5) := Lib.hid (HBe4.out.trans (hbe5.mono HBe4.out.size))
                    clear hbe5
                    have HSe5 := Lib.hid (HSI.out _ HBe5.out)
                    refine ⟨_, rfl, hK.out _ _ HSe5.out (fun _ => ?_)⟩
                    clear hK K
                    simp only [Act.put, List.getElem_toArray, List.getElem_cons_succ, List.getElem_cons_zero, List.setIfInBounds_toArray, List.set_cons_zero, List.set_cons_succ]
                    refine wpAnyH_take (i := 10) (v := ?vb10) rfl (by kernel_rfl) (by kernel_rfl) (by kernel_rfl) (fun _ _ _ h => h) (Or.inl ⟨by rfl, ?hb10⟩) HSe5.out ?rb10
                    case hb10 => (intro W hW; (try dsimp only at hW); go_simp; try with_reducible rfl)
                    simp only [Act.put, List.getElem_toArray, List.getElem_cons_succ, List.getElem_cons_zero, List.setIfInBounds_toArray, List.set_cons_zero, List.set_cons_succ]
                    refine wpAnyH_take (i := 11) (v := ?vb11) rfl (by kernel_rfl) (by kernel_rfl) (by kernel_rfl) (fun _ _ _ h => h) (Or.inl ⟨by rfl, ?hb11⟩) HSe5.out ?rb11
                    case hb11 => (intro W hW; (try dsimp only at hW); go_simp; try with_reducible rfl)
                    simp only [Act.put, List.getElem_toArray, List.getElem_cons_succ, List.getElem_cons_zero, List.setIfInBounds_toArray, List.set_cons_zero, List.set_cons_succ]
                    refine wpAnyH_take (i := 12) (v := ?vb12) rfl (by kernel_rfl) (by kernel_rfl) (by kernel_rfl) (fun _ _ _ h => h) (Or.inl ⟨by rfl, ?hb12⟩) HSe5.out ?rb12
                    case hb12 => (intro W hW; (try dsimp only at hW); go_simp; try with_reducible rfl)
                    simp only [Act.put, List.getElem_toArray, List.getElem_cons_succ, List.getElem_cons_zero, List.setIfInBounds_toArray, List.set_cons_zero, List.set_cons_succ]
                    refine wpAnyH_take (i := 13) (v := .string (strB B)) rfl (by kernel_rfl) (by kernel_rfl) (by kernel_rfl) (fun _ _ _ h => h) (Or.inl ⟨by rfl, ?hb13⟩) HSe5.out ?rb13
                    case hb13 => (intro W hW; have hcv := conv_rd hW.2 vc; go_simp; try with_reducible rfl)
                    simp only [Act.put, List.getElem_toArray, List.getElem_cons_succ, List.getElem_cons_zero, List.setIfInBounds_toArray, List.set_cons_zero, List.set_cons_succ]
                    refine wpAnyH_take (i := 14) (v := .agg (cS F6).toArray) rfl (by kernel_rfl) (by kernel_rfl) (by kernel_rfl) (fun _ _ _ h => h) (Or.inl ⟨by rfl, ?hb14⟩) HSe5.out ?rb14
                    case hb14 => (intro W hW; exact exec_load_img (by rfl) (by rfl) hW.1 HF6.out.1)
                    simp only [Act.put, List.getElem_toArray, List.getElem_cons_succ, List.getElem_cons_zero, List.setIfInBounds_toArray, List.set_cons_zero, List.set_cons_succ]
                    refine wpAnyH_ready (rs := [15]) (by kernel_rfl) (by simp) ?_
                    refine AllReadyH.cons rfl (fun K hK => ?_) AllReadyH.nil
                    refine ready_call (f := 22) (vs := #[.agg (cS F6).toArray]) (by rfl) (by (go_simp; try with_reducible rfl)) ?_
                    refine (HRy.out _).mono ?_
                    rintro e xe6 ⟨ae6, ce6, rfl, HAe6, HQe6⟩
                    have HBe6 : Hid (Below V.heap.size V xe6) := Lib.hid (HBe5.out.trans (HQe6.out.mono HBe5.out.size))
                    have HSe6 := Lib.hid (HSI.out _ HBe6.out)
                    refine ⟨_, rfl, hK.out _ _ HSe6.out (fun _ => ?_)⟩
                    clear hK K
                    simp only [Act.put, List.getElem_toArray, List.getElem_cons_succ, List.getElem_cons_zero, List.setIfInBounds_toArray, List.set_cons_zero, List.set_cons_succ]
                    refine wpAnyH_ready (rs := [16]) (by kernel_rfl) (by simp) ?_
                    refine AllReadyH.cons rfl (fun K hK => ?_) AllReadyH.nil
                    refine ready_val (v := .string (strB B)) (by rfl) (by (have hcv := conv_rd HAe6.out ce6; go_simp; try with_reducible rfl)) ?_
                    refine hK.out _ _ HSe6.out (fun _ => ?_)
                    clear hK K
                    simp only [Act.put, List.getElem_toArray, List.getElem_cons_succ, List.getElem_cons_zero, List.setIfInBounds_toArray, List.set_cons_zero, List.set_cons_succ]
                    refine wpAnyH_take (i := 17) (v := .bool true) rfl (by kernel_rfl) (by kernel_rfl) (by kernel_rfl) (fun _ _ _ h => h) (Or.inl ⟨by rfl, ?hb17⟩) HSe6.out ?rb17
                    case hb17 => (intro W hW; go_simp; try with_reducible rfl)
                    simp only [Act.put, List.getElem_toArray, List.getElem_cons_succ, List.getElem_cons_zero, List.setIfInBounds_toArray, List.set_cons_zero, List.set_cons_succ]
                    refine wpAnyH_take (i := 18) (v := ?vb18) rfl (by kernel_rfl) (by kernel_rfl) (by kernel_rfl) (fun _ _ _ h => h) (Or.inl ⟨by rfl, ?hb18⟩) HSe6.out ?rb18
                    case hb18 => (intro W hW; (try dsimp only at hW); go_simp; try with_reducible rfl)
                    simp only [Act.put, List.getElem_toArray, List.getElem_cons_succ, List.getElem_cons_zero, List.setIfInBounds_toArray, List.set_cons_zero, List.set_cons_succ]
                    refine wpAnyH_take (i := 19) (v := ?vb19) rfl (by kernel_rfl) (by kernel_rfl) (by kernel_rfl) (fun _ _ _ h => h) (Or.inl ⟨by rfl, ?hb19⟩) HSe6.out ?rb19
                    case hb19 => (intro W hW; (try dsimp only at hW); go_simp; try with_reducible rfl)
                    simp only [Act.put, List.getElem_toArray, List.getElem_cons_succ, List.getElem_cons_zero, List.setIfInBounds_toArray, List.set_cons_zero, List.set_cons_succ]
                    refine wpAnyH_take (i := 20) (v := ?vb20) rfl (by kernel_rfl) (by kernel_rfl) (by kernel_rfl) (fun _ _ _ h => h) (Or.inl ⟨by rfl, ?hb20⟩) HSe6.out ?rb20
                    case hb20 => (intro W hW; (try dsimp only at hW); go_simp; try with_reducible rfl)
                    simp only [Act.put, List.getElem_toArray, List.getElem_cons_succ, List.getElem_cons_zero, List.setIfInBounds_toArray, List.set_cons_zero, List.set_cons_succ]
                    refine wpAnyH_take (i := 21) (v := .bool true) rfl (by kernel_rfl) (by kernel_rfl) (by kernel_rfl) (fun _ _ _ h => h) (Or.inl ⟨by rfl, ?hb21⟩) HSe6.out ?rb21
                    case hb21 => (intro W hW; go_simp; try with_reducible rfl)
                    simp only [Act.put, List.getElem_toArray, List.getElem_cons_succ, List.getElem_cons_zero, List.setIfInBounds_toArray, List.set_cons_zero, List.set_cons_succ]
                    refine wpAnyH_take (i := 22) (v := ?vb22) rfl (by kernel_rfl) (by kernel_rfl) (by kernel_rfl) (fun _ _ _ h => h) (Or.inl ⟨by rfl, ?hb22⟩) HSe6.out ?rb22
                    case hb22 => (intro W hW; (try dsimp only at hW); go_simp; try with_reducible rfl)
                    simp only [Act.put, List.getElem_toArray, List.getElem_cons_succ, List.getElem_cons_zero, List.setIfInBounds_toArray, List.set_cons_zero, List.set_cons_succ]
                    refine wpAnyH_take (i := 23) (v := ?vb23) rfl (by kernel_rfl) (by kernel_rfl) (by kernel_rfl) (fun _ _ _ h => h) (Or.inl ⟨by rfl, ?hb23⟩) HSe6.out ?rb23
                    case hb23 => (intro W hW; (try dsimp only at hW); go_simp; try with_reducible rfl)
                    simp only [Act.put, List.getElem_toArray, List.getElem_cons_succ, List.getElem_cons_zero, List.setIfInBounds_toArray, List.set_cons_zero, List.set_cons_succ]
                    refine wpAnyH_take (i := 24) (v := ?vb24) rfl (by kernel_rfl) (by kernel_rfl) (by kernel_rfl) (fun _ _ _ h => h) (Or.inl ⟨by rfl, ?hb24⟩) HSe6.out ?rb24
                    case hb24 => (intro W hW; (try dsimp only at hW); go_simp; try with_reducible rfl)
                    simp only [Act.put, List.getElem_toArray, List.getElem_cons_succ, List.getElem_cons_zero, List.setIfInBounds_toArray, List.set_cons_zero, List.set_cons_succ]
                    refine wpAnyH_take (i := 25) (v := .agg (cS F6).toArray) rfl (by kernel_rfl) (by kernel_rfl) (by kernel_rfl) (fun _ _ _ h => h) (Or.inl ⟨by rfl, ?hb25⟩) HSe6.out ?rb25
                    case hb25 => (intro W hW; exact exec_load_img (by rfl) (by rfl) hW.1 HF6.out.1)
                    simp only [Act.put, List.getElem_toArray, List.getElem_cons_succ, List.getElem_cons_zero, List.setIfInBounds_toArray, List.set_cons_zero, List.set_cons_succ]
                    refine wpAnyH_ready (rs := [26]) (by kernel_rfl) (by simp) ?_
                    refine AllReadyH.cons rfl (fun K hK => ?_) AllReadyH.nil
                    refine ready_call (f := 11) (vs := #[.pointer (some ⟨gy, 0, none⟩), .agg (cS F6).toArray]) (by rfl) (by (go_simp; try with_reducible rfl)) ?_
                    refine (HLy.out _ HBe6.out).mono ?_
                    rintro e xe7 ⟨rfl, hbe7⟩
                    have HBe7 : Hid (Below V.heap.size V xe7) := Lib.hid (HBe6.out.trans (hbe7.mono HBe6.out.size))
                    clear hbe7
                    have HSe7 := Lib.hid (HSI.out _ HBe7.out)
                    refine ⟨_, rfl, hK.out _ _ HSe7.out (fun _ => ?_)⟩
                    clear hK K
                    simp only [Act.put, List.getElem_toArray, List.getElem_cons_succ, List.getElem_cons_zero, List.setIfInBounds_toArray, List.set_cons_zero, List.set_cons_succ]
                    refine wpAnyH_take (i := 27) (v := ?vb27) rfl (by kernel_rfl) (by kernel_rfl) (by kernel_rfl) (fun _ _ _ h => h) (Or.inl ⟨by rfl, ?hb27⟩) HSe7.out ?rb27
                    case hb27 => (intro W hW; (try dsimp only at hW); go_simp; try with_reducible rfl)
                    simp only [Act.put, List.getElem_toArray, List.getElem_cons_succ, List.getElem_cons_zero, List.setIfInBounds_toArray, List.set_cons_zero, List.set_cons_succ]
                    refine wpAnyH_take (i := 28) (v := ?vb28) rfl (by kernel_rfl) (by kernel_rfl) (by kernel_rfl) (fun _ _ _ h => h) (Or.inl ⟨by rfl, ?hb28⟩) HSe7.out ?rb28
                    case hb28 => (intro W hW; (try dsimp only at hW); go_simp; try with_reducible rfl)
                    simp only [Act.put, List.getElem_toArray, List.getElem_cons_succ, List.getElem_cons_zero, List.setIfInBounds_toArray, List.set_cons_zero, List.set_cons_succ]
                    refine wpAnyH_take (i := 29) (v := ?vb29) rfl (by kernel_rfl) (by kernel_rfl) (by kernel_rfl) (fun _ _ _ h => h) (Or.inl ⟨by rfl, ?hb29⟩) HSe7.out ?rb29
                    case hb29 => (intro W hW; (try dsimp only at hW); go_simp; try with_reducible rfl)
                    simp only [Act.put, List.getElem_toArray, List.getElem_cons_succ, List.getElem_cons_zero, List.setIfInBounds_toArray, List.set_cons_zero, List.set_cons_succ]
                    refine wpAnyH_take (i := 30) (v := ?vb30) rfl (by kernel_rfl) (by kernel_rfl) (by kernel_rfl) (fun _ _ _ h => h) (Or.inl ⟨by rfl, ?hb30⟩) HSe7.out ?rb30
                    case hb30 => (intro W hW; (try dsimp only at hW); go_simp; try with_reducible rfl)
                    simp only [Act.put, List.getElem_toArray, List.getElem_cons_succ, List.getElem_cons_zero, List.setIfInBounds_toArray, List.set_cons_zero, List.set_cons_succ]
                    refine wpAnyH_ready (rs := [31]) (by kernel_rfl) (by simp) ?_
                    refine AllReadyH.cons rfl (fun K hK => ?_) AllReadyH.nil
                    refine ready_call (f := 23) (vs := #[.pointer (some ⟨ga, 0, none⟩), .pointer (some ⟨gy, 0, none⟩)]) (by rfl) (by (go_simp; try with_reducible rfl)) ?_
                    refine (HSa.out _ HBe7.out).mono ?_
                    rintro e xe8 ⟨rfl, hbe8⟩
                    have HBe8 : Hid (Below V.heap.size V xe8) := Lib.hid (HBe7.out.trans (hbe8.mono HBe7.out.size))
                    clear hbe8
                    have HSe8 := Lib.hid (HSI.out _ HBe8.out)
                    refine ⟨_, rfl, hK.out _ _ HSe8.out (fun _ => ?_)⟩
                    clear hK K
                    simp only [Act.put, List.getElem_toArray, List.getElem_cons_succ, List.getElem_cons_zero, List.setIfInBounds_toArray, List.set_cons_zero, List.set_cons_succ]
                    refine wpAnyH_take (i := 32) (v := ?vb32) rfl (by kernel_rfl) (by kernel_rfl) (by kernel_rfl) (fun _ _ _ h => h) (Or.inl ⟨by rfl, ?hb32⟩) HSe8.out ?rb32
                    case hb32 => (intro W hW; (try dsimp only at hW); go_simp; try with_reducible rfl)
                    simp only [Act.put, List.getElem_toArray, List.getElem_cons_succ, List.getElem_cons_zero, List.setIfInBounds_toArray, List.set_cons_zero, List.set_cons_succ]
                    refine wpAnyH_take (i := 33) (v := ?vb33) rfl (by kernel_rfl) (by kernel_rfl) (by kernel_rfl) (fun _ _ _ h => h) (Or.inl ⟨by rfl, ?hb33⟩) HSe8.out ?rb33
                    case hb33 => (intro W hW; (try dsimp only at hW); go_simp; try with_reducible rfl)
                    simp only [Act.put, List.getElem_toArray, List.getElem_cons_succ, List.getElem_cons_zero, List.setIfInBounds_toArray, List.set_cons_zero, List.set_cons_succ]
                    refine wpAnyH_take (i := 34) (v := ?vb34) rfl (by kernel_rfl) (by kernel_rfl) (by kernel_rfl) (fun _ _ _ h => h) (Or.inl ⟨by rfl, ?hb34⟩) HSe8.out ?rb34
                    case hb34 => (intro W hW; (try dsimp only at hW); go_simp; try with_reducible rfl)
                    simp only [Act.put, List.getElem_toArray, List.getElem_cons_succ, List.getElem_cons_zero, List.setIfInBounds_toArray, List.set_cons_zero, List.set_cons_succ]
                    refine wpAnyH_take (i := 36) (v := ?vb36) rfl (by kernel_rfl) (by kernel_rfl) (by kernel_rfl) (fun _ _ _ h => h) (Or.inl ⟨by rfl, ?hb36⟩) HSe8.out ?rb36
                    case hb36 => (intro W hW; (try dsimp only at hW); go_simp; try with_reducible rfl)
                    simp only [Act.put, List.getElem_toArray, List.getElem_cons_succ, List.getElem_cons_zero, List.setIfInBounds_toArray, List.set_cons_zero, List.set_cons_succ]
                    refine wpAnyH_take (i := 37) (v := ?vb37) rfl (by kernel_rfl) (by kernel_rfl) (by kernel_rfl) (fun _ _ _ h => h) (Or.inl ⟨by rfl, ?hb37⟩) HSe8.out ?rb37
                    case hb37 => (intro W hW; (try dsimp only at hW); go_simp; try with_reducible rfl)
                    simp only [Act.put, List.getElem_toArray, List.getElem_cons_succ, List.getElem_cons_zero, List.setIfInBounds_toArray, List.set_cons_zero, List.set_cons_succ]
                    refine wpAnyH_take (i := 38) (v := ?vb38) rfl (by kernel_rfl) (by kernel_rfl) (by kernel_rfl) (fun _ _ _ h => h) (Or.inl ⟨by rfl, ?hb38⟩) HSe8.out ?rb38
                    case hb38 => (intro W hW; (try dsimp only at hW); go_simp; try with_reducible rfl)
                    simp only [Act.put, List.getElem_toArray, List.getElem_cons_succ, List.getElem_cons_zero, List.setIfInBounds_toArray, List.set_cons_zero, List.set_cons_succ]
                    refine wpAnyH_ready (rs := [35]) (by kernel_rfl) (by simp) ?_
                    refine AllReadyH.cons rfl (fun K hK => ?_) AllReadyH.nil
                    refine ready_call (f := 24) (vs := #[.pointer (some ⟨ga, 0, none⟩)]) (by rfl) (by (go_simp; try with_reducible rfl)) ?_
                    refine (HDg.out _ HBe8.out).mono ?_
                    rintro e xe9 ⟨rfl, hbe9⟩
                    have HBe9 : Hid (Below V.heap.size V xe9) := Lib.hid (HBe8.out.trans (hbe9.mono HBe8.out.size))
                    clear hbe9
                    have HSe9 := Lib.hid (HSI.out _ HBe9.out)
                    refine ⟨_, rfl, hK.out _ _ HSe9.out (fun _ => ?_)⟩
                    clear hK K
                    simp only [Act.put, List.getElem_toArray, List.getElem_cons_succ, List.getElem_cons_zero, List.setIfInBounds_toArray, List.set_cons_zero, List.set_cons_succ]
                    refine wpAnyH_take (i := 39) (v := .bool true) rfl (by kernel_rfl) (by kernel_rfl) (by kernel_rfl) (fun _ _ _ h => h) (Or.inl ⟨by rfl, ?hb39⟩) HSe9.out ?rb39
                    case hb39 => (intro W hW; go_simp; try with_reducible rfl)
                    simp only [Act.put, List.getElem_toArray, List.getElem_cons_succ, List.getElem_cons_zero, List.setIfInBounds_toArray, List.set_cons_zero, List.set_cons_succ]
                    refine wpAnyH_take (i := 40) (v := ?vb40) rfl (by kernel_rfl) (by kernel_rfl) (by kernel_rfl) (fun _ _ _ h => h) (Or.inl ⟨by rfl, ?hb40⟩) HSe9.out ?rb40
                    case hb40 => (intro W hW; (try dsimp only at hW); go_simp; try with_reducible rfl)
                    simp only [Act.put, List.getElem_toArray, List.getElem_cons_succ, List.getElem_cons_zero, List.setIfInBounds_toArray, List.set_cons_zero, List.set_cons_succ]
                    refine wpAnyH_take (i := 41) (v := ?vb41) rfl (by kernel_rfl) (by kernel_rfl) (by kernel_rfl) (fun _ _ _ h => h) (Or.inl ⟨by rfl, ?hb41⟩) HSe9.out ?rb41
                    case hb41 => (intro W hW; (try dsimp only at hW); go_simp; try with_reducible rfl)
                    simp only [Act.put, List.getElem_toArray, List.getElem_cons_succ, List.getElem_cons_zero, List.setIfInBounds_toArray, List.set_cons_zero, List.set_cons_succ]
                    refine wpAnyH_take (i := 42) (v := ?vb42) rfl (by kernel_rfl) (by kernel_rfl) (by kernel_rfl) (fun _ _ _ h => h) (Or.inl ⟨by rfl, ?hb42⟩) HSe9.out ?rb42
                    case hb42 => (intro W hW; (try dsimp only at hW); go_simp; try with_reducible rfl)
                    simp only [Act.put, List.getElem_toArray, List.getElem_cons_succ, List.getElem_cons_zero, List.setIfInBounds_toArray, List.set_cons_zero, List.set_cons_succ]
                    refine wpAnyH_take (i := 43) (v := ?vb43) rfl (by kernel_rfl) (by kernel_rfl) (by kernel_rfl) (fun _ _ _ h => h) (Or.inl ⟨by rfl, ?hb43⟩) HSe9.out ?rb43
                    case hb43 => (intro W hW; (try dsimp only at hW); go_simp; try with_reducible rfl)
                    simp only [Act.put, List.getElem_toArray, List.getElem_cons_succ, List.getElem_cons_zero, List.setIfInBounds_toArray, List.set_cons_zero, List.set_cons_succ]
                    refine wpAnyH_take (i := 44) (v := ?vb44) rfl (by kernel_rfl) (by kernel_rfl) (by kernel_rfl) (fun _ _ _ h => h) (Or.inl ⟨by rfl, ?hb44⟩) HSe9.out ?rb44
                    case hb44 => (intro W hW; (try dsimp only at hW); go_simp; try with_reducible rfl)
                    simp only [Act.put, List.getElem_toArray, List.getElem_cons_succ, List.getElem_cons_zero, List.setIfInBounds_toArray, List.set_cons_zero, List.set_cons_succ]
                    refine wpAnyH_take (i := 45) (v := ?vb45) rfl (by kernel_rfl) (by kernel_rfl) (by kernel_rfl) (fun _ _ _ h => h) (Or.inl ⟨by rfl, ?hb45⟩) HSe9.out ?rb45
                    case hb45 => (intro W hW; (try dsimp only at hW); go_simp; try with_reducible rfl)
                    simp only [Act.put, List.getElem_toArray, List.getElem_cons_succ, List.getElem_cons_zero, List.setIfInBounds_toArray, List.set_cons_zero, List.set_cons_succ]
                    refine wpAnyH_done (by kernel_rfl) ?_ _
                    go_wp2
                    go_ret
                    exact ⟨by simp, by
                      have h1 := HBwV.out.trans (HBe9.out.mono HBwV.out.size)
                      exact HB0.out.trans (h1.mono HB0.out.size)⟩
end Go.Proofs.Ytlmieegemckodaa
