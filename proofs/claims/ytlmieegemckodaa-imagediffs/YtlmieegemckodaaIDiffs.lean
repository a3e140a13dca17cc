/- The walk of ImageDiffs. -/
import Derived.Test.YtlmieegemckodaaIWrites
import Derived.Test.YtlmieegemckodaaIRefDiff
import Derived.Test.YtlmieegemckodaaIRefSame
import Derived.Test.YtlmieegemckodaaILives
import Derived.Test.YtlmieegemckodaaReady
import Derived.Deep.DeepCutAuto
import Derived.BigRegion
import Derived.BigQuiet
namespace Go.Proofs.Ytlmieegemckodaa
open Go.RowKit
set_option linter.unusedSimpArgs false

set_option maxHeartbeats 4000000 in
set_option maxRecDepth 100000 in
theorem imageDiffs_walk (a : Option Addr) (n c : Nat) (L : List Wr) (a' : Option Addr) (n' c' : Nat) (L' : List Wr) (w : World) (h : RdW w a n L) (h' : RdW w a' n' L') (hn : n ≤ 140737488355328) (hn' : n' ≤ 140737488355328) :
    Calls Try.prog 4 #[.slice a n c, .slice a' n' c'] w fun e w' => e = .returned (.bool true) ∧ Below w.heap.size w w' := by
  have HR := Lib.hid (And.intro h h')
  clear h h'
  by_cases hs : n + n' ≤ 300
  · have hd : decide ((300 : Int) < (n : Int) + (n' : Int)) = false := by simp; omega
    go_enter Try.func4, Try.ntmps4
    go_wp2_with fail
    refine (lives9_any w).mono ?_
    rintro e w1 ⟨rfl, hb1⟩
    have HB1 := Lib.hid hb1
    have HM := Lib.hid (made_any w1 a n c L (HR.out.1.later hb1) (by omega))
    clear hb1
    obtain ⟨X, hX⟩ : ∃ X, X = madeF L := ⟨_, rfl⟩
    rw [← hX] at HM
    clear hX
    go_wp2_with fail
    refine HM.out.mono ?_
    rintro e w2 ⟨ga, ba, rfl, hga, hba, himg, hb2⟩
    have HIA := Lib.hid himg
    have HFX : Hid (okF X) := Lib.hid himg.ok
    have HGA := Lib.hid (And.intro hga hba)
    have HB2 : Hid (Below w.heap.size w w2) := Lib.hid (HB1.out.trans (hb2.mono HB1.out.size))
    clear hga hba himg hb2 HM
    obtain ⟨g6, hg6⟩ : ∃ g6, g6 = w2.heap.size := ⟨_, rfl⟩
    go_upto_region 4 with (refine wpList_store_img rfl (.tmp 6) (.tmp 28) rfl _ holes X rfl rfl (by rw [zero_img]; exact heap_alloc_last _ _) List.length_replicate HFX.out.1 ?_; intro w3 H3)
    rw [← hg6]
    have HA3 : Hid (w3.heap[g6]? = some (arrObj X)) := Lib.hid (by rw [H3.out, hg6]; exact put_same (heap_alloc_last _ _))
    have HB23 : Hid (Below w2.heap.size w2 w3) := Lib.hid (by rw [H3.out]; exact (Below.alloc0 _ _).trans (put_below _ (Nat.le_refl _)))
    have HB3 : Hid (Below w.heap.size w w3) := Lib.hid (HB2.out.trans (HB23.out.mono HB2.out.size))
    clear H3 hg6
    obtain ⟨LL, hLL⟩ : ∃ LL, LL = ([] ++ L) ++ L' := ⟨_, rfl⟩
    have HLL := Lib.hid hLL
    clear hLL
    have HLn : Hid (LL.length = n + n') := Lib.hid (by rw [HLL.out]; simp [HR.out.1.len, HR.out.2.len])
    obtain ⟨w4, hw4⟩ : ∃ w4, w4 = w3.alloc (.cells #[] 25) := ⟨_, rfl⟩
    have HB34 : Hid (Below w3.heap.size w3 w4) := Lib.hid (by rw [hw4]; exact Below.alloc0 _ _)
    have HO4 : Hid (OwnW w4 w3.heap.size (.slice (some ⟨w3.heap.size, 0, none⟩) 0 0) []) := Lib.hid (by rw [hw4]; exact ownW_new w3)
    have hw4' := hw4.symm
    clear hw4
    go_wp2_with (first
      | (at_builtin; refine wpList_append_w rfl (.tmp 30) (.tmp 31) rfl _ rfl a n c rfl w3.heap.size [] HO4.out HB34.out.size L ((HR.out.1.later HB3.out).later HB34.out) (by simp; omega) ?_; intro v5 w5 ho5 hb5; have HO5 := Lib.hid ho5; have HB35 := Lib.hid ((HB34.out).trans hb5); clear ho5 hb5 hw4')
      | (at_builtin; refine wpList_append_w rfl (.tmp 32) (.tmp 33) rfl _ rfl a' n' c' rfl w3.heap.size ([] ++ L) HO5.out HB35.out.size L' ((HR.out.2.later HB3.out).later HB35.out) (by have := HR.out.1.len; simp; omega) ?_; intro v6 w6 ho6 hb6; rw [← HLL.out] at ho6; have HO6 := Lib.hid ho6; have HB36 := Lib.hid ((HB35.out).trans hb6); clear ho6 hb6))
    have heach : EachW w6 LL := by
      have hb := HB36.out
      intro r hr
      rw [HLL.out] at hr
      rcases List.mem_append.1 hr with hr | hr
      · exact ((HR.out.1.later HB3.out).later hb).each r (by simpa using hr)
      · exact ((HR.out.2.later HB3.out).later hb).each r hr
    obtain ⟨a7, c7, hv7, hr7⟩ := HO6.out.rd heach
    subst hv7
    have HR7 := Lib.hid hr7
    have HMb := Lib.hid (made_any w6 a7 LL.length c7 LL hr7 (by have := HLn.out; omega))
    have HN := Lib.hid (show LL.length ≤ 300 by have := HLn.out; omega)
    obtain ⟨N, hN⟩ : ∃ N, N = LL.length := ⟨_, rfl⟩
    rw [← hN] at HMb HN ⊢
    obtain ⟨Y, hY⟩ : ∃ Y, Y = madeF LL := ⟨_, rfl⟩
    rw [← hY] at HMb
    clear hY hN hr7 heach
    refine HMb.out.mono ?_
    rintro e w7 ⟨gb, bb, rfl, hgb, hbb, himg, hb7⟩
    have HIB := Lib.hid himg
    have HFY : Hid (okF Y) := Lib.hid himg.ok
    have HB37 : Hid (Below w3.heap.size w3 w7) := Lib.hid (HB36.out.trans (hb7.mono HB36.out.size))
    clear hgb hbb himg hb7 HMb
    obtain ⟨g8, hg8⟩ : ∃ g8, g8 = w7.heap.size := ⟨_, rfl⟩
    go_upto_region 5 with (refine wpList_store_img rfl (.tmp 8) (.tmp 37) rfl _ holes Y rfl rfl (by rw [zero_img]; exact heap_alloc_last _ _) List.length_replicate HFY.out.1 ?_; intro w8 H8)
    rw [← hg8]
    have HY8 : Hid (w8.heap[g8]? = some (arrObj Y)) := Lib.hid (by rw [H8.out, hg8]; exact put_same (heap_alloc_last _ _))
    have HB78 : Hid (Below w7.heap.size w7 w8) := Lib.hid (by rw [H8.out]; exact (Below.alloc0 _ _).trans (put_below _ (Nat.le_refl _)))
    have HB38 : Hid (Below w3.heap.size w3 w8) := Lib.hid (HB37.out.trans (HB78.out.mono HB37.out.size))
    have HX8 : Hid (w8.heap[g6]? = some (arrObj X)) := Lib.hid ((HB38.out.block g6 (lt_of_block HA3.out)).trans HA3.out)
    have HIA8 : Hid (Img w8 ga ba n X) := Lib.hid ((HIA.out.later HB23.out).later HB38.out)
    have HIB8 : Hid (Img w8 gb bb N Y) := Lib.hid (HIB.out.later HB78.out)
    have HB8 : Hid (Below w.heap.size w w8) := Lib.hid (HB3.out.trans (HB38.out.mono HB3.out.size))
    clear H8 hg8 HIA HIB HA3 HB37 HB36 HB35 HO5 HO6 HR7 HB78 HB38 HB34 HO4 HGA HB23
    have HDf := Lib.hid (diff_any w8 gb bb N ga ba n Y X HIB8.out HIA8.out (by have := HN.out; omega))
    go_wp2_with fail
    refine HDf.out.mono ?_
    rintro e w9 ⟨vp, vg, MP, MG, rfl, hop, hmp, hog, hmg, hb9⟩
    have HP9 := Lib.hid (And.intro hop hmp)
    have HG9 := Lib.hid (And.intro hog hmg)
    have HB89 := Lib.hid hb9
    have HY9 : Hid (w9.heap[g8]? = some (arrObj Y)) := Lib.hid ((hb9.block g8 (lt_of_block HY8.out)).trans HY8.out)
    have HX9 : Hid (w9.heap[g6]? = some (arrObj X)) := Lib.hid ((hb9.block g6 (lt_of_block HX8.out)).trans HX8.out)
    clear hop hmp hog hmg hb9 HDf
    have HRf := Lib.hid (refDiff_any w9 Y X HFY.out HFX.out)
    go_wp2_with (first
      | (refine wpList_load_img rfl (.tmp 8) rfl g8 Y rfl HY9.out HFY.out.1 ?_)
      | (refine wpList_load_img rfl (.tmp 6) rfl g6 X rfl HX9.out HFX.out.1 ?_))
    refine HRf.out.mono ?_
    rintro e w10 ⟨up, ug, NP, NG, rfl, hup, hnp, hug, hng, hb10⟩
    have hMP : NP = MP := hnp.unique HP9.out.2
    have hMG : NG = MG := hng.unique HG9.out.2
    subst hMP
    subst hMG
    have HP10 := Lib.hid (And.intro (HP9.out.1.kept hb10) hup)
    have HG10 := Lib.hid (And.intro (HG9.out.1.kept hb10) hug)
    have HLen := Lib.hid (And.intro (hnp.len (diffF_len Y X)) (hng.len (goneF_len Y X)))
    have HB10 : Hid (Below w8.heap.size w8 w10) := Lib.hid (HB89.out.trans (hb10.mono HB89.out.size))
    have HY10 : Hid (w10.heap[g8]? = some (arrObj Y)) := Lib.hid ((HB10.out.block g8 (lt_of_block HY8.out)).trans HY8.out)
    have HX10 : Hid (w10.heap[g6]? = some (arrObj X)) := Lib.hid ((HB10.out.block g6 (lt_of_block HX8.out)).trans HX8.out)
    have HIA10 := Lib.hid (HIA8.out.later HB10.out)
    have HIB10 := Lib.hid (HIB8.out.later HB10.out)
    have HBw : Hid (Below w.heap.size w w10) := Lib.hid (HB8.out.trans (HB10.out.mono HB8.out.size))
    clear hup hnp hug hng hb10 HRf HIA8 HIB8 HX8 HY8 HX9 HY9 HB89 HP9 HG9
    go_upto_region 7 with fail
    obtain ⟨ap, cp, hvp, hrp, hjp1, hjp2⟩ := HP10.out.1.rd
    obtain ⟨aq, cq, hvq, hrq, hjq1, hjq2⟩ := HP10.out.2.rd
    obtain ⟨ag, cg, hvg, hrg, hjg1, hjg2⟩ := HG10.out.1.rd
    obtain ⟨ah, ch, hvh, hrh, hjh1, hjh2⟩ := HG10.out.2.rd
    clear hjp1 hjp2 hjq1 hjq2 hjg1 hjg2 hjh1 hjh2
    subst hvp
    subst hvq
    subst hvg
    subst hvh
    obtain ⟨np, hnp⟩ : ∃ np, np = NP.length := ⟨_, rfl⟩
    obtain ⟨ng, hng⟩ : ∃ ng, ng = NG.length := ⟨_, rfl⟩
    rw [← hnp] at hrp hrq HLen ⊢
    rw [← hng] at hrg hrh HLen ⊢
    have HRP := Lib.hid (And.intro hrp hrq)
    have HRG := Lib.hid (And.intro hrg hrh)
    clear hrp hrq hrg hrh hnp hng HP10 HG10
    obtain ⟨Z, hZ⟩ : ∃ Z, Z = decide (X = Y) := ⟨_, rfl⟩
    have hei := fun W => eql_img X Y HFX.out HFY.out W
    rw [← hZ] at hei
    have HS1 : Hid (∀ W, Below w10.heap.size w10 W → Calls Try.prog 23 #[.pointer (some ⟨ga, 0, none⟩), .pointer (some ⟨gb, 0, none⟩)] W fun e w' => e = .returned (.bool Z) ∧ Below W.heap.size W w') := Lib.hid fun W hW => by
      rw [hZ]; exact same_any W ga ba n gb bb N X Y (HIA10.out.later hW) (HIB10.out.later hW) (by omega) (by have := HN.out; omega)
    have HS2 : Hid (∀ W, Below w10.heap.size w10 W → Calls Try.prog 23 #[.pointer (some ⟨gb, 0, none⟩), .pointer (some ⟨ga, 0, none⟩)] W fun e w' => e = .returned (.bool Z) ∧ Below W.heap.size W w') := Lib.hid fun W hW => by
      rw [hZ, show decide (X = Y) = decide (Y = X) from decide_eq_decide.2 ⟨Eq.symm, Eq.symm⟩]; exact same_any W gb bb N ga ba n Y X (HIB10.out.later hW) (HIA10.out.later hW) (by have := HN.out; omega) (by omega)
    have HRu : Hid (∀ W (a0 : Option Addr) (n0 c0 : Nat) (L0 : List Rn), RdR W a0 n0 L0 → n0 ≤ 128 → Calls Try.prog 19 #[.slice a0 n0 c0] W fun e w' => ∃ a1 c1, e = .returned (.slice a1 n0 c1) ∧ Hid (RdR w' a1 n0 L0) ∧ Hid (Below W.heap.size W w')) := Lib.hid fun W a0 n0 c0 L0 h0 hn0 => (lawRuns_any a0 n0 c0 L0 W h0 (by omega)).mono fun e w' he => by
      obtain ⟨v, rfl, ho, hb⟩ := he
      obtain ⟨a1, c1, rfl, hr, _, _⟩ := ho.rd
      rw [h0.1] at hr ⊢
      exact ⟨a1, c1, rfl, Lib.hid hr, Lib.hid hb⟩
    have HSI : Hid (∀ W, Below w10.heap.size w10 W → W.heap[g6]? = some (arrObj X) ∧ W.heap[g8]? = some (arrObj Y)) := Lib.hid fun W hW => ⟨(hW.block g6 (lt_of_block HX10.out)).trans HX10.out, (hW.block g8 (lt_of_block HY10.out)).trans HY10.out⟩
    have HB0 : Hid (Below w10.heap.size w10 w10.drew) := Lib.hid (Below.refl _ _).drew
    have HS0 := Lib.hid (HSI.out _ HB0.out)
    clear hZ hd hs hn hn'
    refine wp_region_held_drew (S := fun W => W.heap[g6]? = some (arrObj X) ∧ W.heap[g8]? = some (arrObj Y)) (by kernel_rfl) HS0.out (fun _ => ?_)
    refine wpAnyH_take (i := 0) (v := ?vz0) rfl (by kernel_rfl) (by kernel_rfl) (by kernel_rfl) (fun _ _ _ h => h) (Or.inl ⟨by rfl, ?hz0⟩) HS0.out ?rz0
    case hz0 => (intro W hW; (try dsimp only at hW); go_simp; try with_reducible rfl)
    simp only [Act.put, List.getElem_toArray, List.getElem_cons_succ, List.getElem_cons_zero, List.setIfInBounds_toArray, List.set_cons_zero, List.set_cons_succ]
    refine wpAnyH_take (i := 2) (v := ?vz2) rfl (by kernel_rfl) (by kernel_rfl) (by kernel_rfl) (fun _ _ _ h => h) (Or.inl ⟨by rfl, ?hz2⟩) HS0.out ?rz2
    case hz2 => (intro W hW; (try dsimp only at hW); go_simp; try with_reducible rfl)
    simp only [Act.put, List.getElem_toArray, List.getElem_cons_succ, List.getElem_cons_zero, List.setIfInBounds_toArray, List.set_cons_zero, List.set_cons_succ]
    refine wpAnyH_ready (rs := [1]) (by kernel_rfl) (by simp) ?_
    refine AllReadyH.cons rfl (fun K hK => ?_) AllReadyH.nil
    refine ready_call (f := 19) (vs := #[.slice ap np cp]) (by rfl) (by (go_simp; try with_reducible rfl)) ?_
    refine (HRu.out _ ap np cp NP (HRP.out.1.later HB0.out) HLen.out.1).mono ?_
    rintro e vs1 ⟨as1, cs1, rfl, HAs1, HQs1⟩
    have HBs1 : Hid (Below w10.heap.size w10 vs1) := Lib.hid (HB0.out.trans (HQs1.out.mono HB0.out.size))
    have HSs1 := Lib.hid (HSI.out _ HBs1.out)
    refine ⟨_, rfl, hK.out _ _ HSs1.out (fun _ => ?_)⟩
    clear hK K
    simp only [Act.put, List.getElem_toArray, List.getElem_cons_succ, List.getElem_cons_zero, List.setIfInBounds_toArray, List.set_cons_zero, List.set_cons_succ]
    refine wpAnyH_ready (rs := [3]) (by kernel_rfl) (by simp) ?_
    refine AllReadyH.cons rfl (fun K hK => ?_) AllReadyH.nil
    refine ready_call (f := 18) (vs := #[.slice as1 np cs1, .slice aq np cq]) (by rfl) (by (go_simp; try with_reducible rfl)) ?_
    refine (refSame_any as1 aq np cs1 cq NP _ HAs1.out (HRP.out.2.later HBs1.out) (by have := HLen.out.1; omega)).mono ?_
    rintro e vs2 ⟨rfl, hbs2⟩
    have HBs2 : Hid (Below w10.heap.size w10 vs2) := Lib.hid (HBs1.out.trans (hbs2.mono HBs1.out.size))
    clear hbs2
    have HSs2 := Lib.hid (HSI.out _ HBs2.out)
    refine ⟨_, rfl, hK.out _ _ HSs2.out (fun _ => ?_)⟩
    clear hK K
    simp only [Act.put, List.getElem_toArray, List.getElem_cons_succ, List.getElem_cons_zero, List.setIfInBounds_toArray, List.set_cons_zero, List.set_cons_succ]
    refine wpAnyH_take (i := 4) (v := ?vz4) rfl (by kernel_rfl) (by kernel_rfl) (by kernel_rfl) (fun _ _ _ h => h) (Or.inl ⟨by rfl, ?hz4⟩) HSs2.out ?rz4
    case hz4 => (intro W hW; (try dsimp only at hW); go_simp; try with_reducible rfl)
    simp only [Act.put, List.getElem_toArray, List.getElem_cons_succ, List.getElem_cons_zero, List.setIfInBounds_toArray, List.set_cons_zero, List.set_cons_succ]
    refine wpAnyH_take (i := 5) (v := ?vz5) rfl (by kernel_rfl) (by kernel_rfl) (by kernel_rfl) (fun _ _ _ h => h) (Or.inl ⟨by rfl, ?hz5⟩) HSs2.out ?rz5
    case hz5 => (intro W hW; (try dsimp only at hW); go_simp; try with_reducible rfl)
    simp only [Act.put, List.getElem_toArray, List.getElem_cons_succ, List.getElem_cons_zero, List.setIfInBounds_toArray, List.set_cons_zero, List.set_cons_succ]
    refine wpAnyH_take (i := 7) (v := ?vz7) rfl (by kernel_rfl) (by kernel_rfl) (by kernel_rfl) (fun _ _ _ h => h) (Or.inl ⟨by rfl, ?hz7⟩) HSs2.out ?rz7
    case hz7 => (intro W hW; (try dsimp only at hW); go_simp; try with_reducible rfl)
    simp only [Act.put, List.getElem_toArray, List.getElem_cons_succ, List.getElem_cons_zero, List.setIfInBounds_toArray, List.set_cons_zero, List.set_cons_succ]
    refine wpAnyH_ready (rs := [6]) (by kernel_rfl) (by simp) ?_
    refine AllReadyH.cons rfl (fun K hK => ?_) AllReadyH.nil
    refine ready_call (f := 19) (vs := #[.slice ag ng cg]) (by rfl) (by (go_simp; try with_reducible rfl)) ?_
    refine (HRu.out _ ag ng cg NG (HRG.out.1.later HBs2.out) HLen.out.2).mono ?_
    rintro e vs3 ⟨as3, cs3, rfl, HAs3, HQs3⟩
    have HBs3 : Hid (Below w10.heap.size w10 vs3) := Lib.hid (HBs2.out.trans (HQs3.out.mono HBs2.out.size))
    have HSs3 := Lib.hid (HSI.out _ HBs3.out)
    refine ⟨_, rfl, hK.out _ _ HSs3.out (fun _ => ?_)⟩
    clear hK K
    simp only [Act.put, List.getElem_toArray, List.getElem_cons_succ, List.getElem_cons_zero, List.setIfInBounds_toArray, List.set_cons_zero, List.set_cons_succ]
    refine wpAnyH_ready (rs := [8]) (by kernel_rfl) (by simp) ?_
    refine AllReadyH.cons rfl (fun K hK => ?_) AllReadyH.nil
    refine ready_call (f := 18) (vs := #[.slice as3 ng cs3, .slice ah ng ch]) (by rfl) (by (go_simp; try with_reducible rfl)) ?_
    refine (refSame_any as3 ah ng cs3 ch NG _ HAs3.out (HRG.out.2.later HBs3.out) (by have := HLen.out.2; omega)).mono ?_
    rintro e vs4 ⟨rfl, hbs4⟩
    have HBs4 : Hid (Below w10.heap.size w10 vs4) := Lib.hid (HBs3.out.trans (hbs4.mono HBs3.out.size))
    clear hbs4
    have HSs4 := Lib.hid (HSI.out _ HBs4.out)
    refine ⟨_, rfl, hK.out _ _ HSs4.out (fun _ => ?_)⟩
    clear hK K
    simp only [Act.put, List.getElem_toArray, List.getElem_cons_succ, List.getElem_cons_zero, List.setIfInBounds_toArray, List.set_cons_zero, List.set_cons_succ]
    refine wpAnyH_take (i := 9) (v := ?vz9) rfl (by kernel_rfl) (by kernel_rfl) (by kernel_rfl) (fun _ _ _ h => h) (Or.inl ⟨by rfl, ?hz9⟩) HSs4.out ?rz9
    case hz9 => (intro W hW; (try dsimp only at hW); go_simp; try with_reducible rfl)
    simp only [Act.put, List.getElem_toArray, List.getElem_cons_succ, List.getElem_cons_zero, List.setIfInBounds_toArray, List.set_cons_zero, List.set_cons_succ]
    refine wpAnyH_take (i := 10) (v := ?vz10) rfl (by kernel_rfl) (by kernel_rfl) (by kernel_rfl) (fun _ _ _ h => h) (Or.inl ⟨by rfl, ?hz10⟩) HSs4.out ?rz10
    case hz10 => (intro W hW; (try dsimp only at hW); go_simp; try with_reducible rfl)
    simp only [Act.put, List.getElem_toArray, List.getElem_cons_succ, List.getElem_cons_zero, List.setIfInBounds_toArray, List.set_cons_zero, List.set_cons_succ]
    refine wpAnyH_take (i := 11) (v := ?vz11) rfl (by kernel_rfl) (by kernel_rfl) (by kernel_rfl) (fun _ _ _ h => h) (Or.inl ⟨by rfl, ?hz11⟩) HSs4.out ?rz11
    case hz11 => (intro W hW; (try dsimp only at hW); go_simp; try with_reducible rfl)
    simp only [Act.put, List.getElem_toArray, List.getElem_cons_succ, List.getElem_cons_zero, List.setIfInBounds_toArray, List.set_cons_zero, List.set_cons_succ]
    refine wpAnyH_take (i := 12) (v := ?vz12) rfl (by kernel_rfl) (by kernel_rfl) (by kernel_rfl) (fun _ _ _ h => h) (Or.inl ⟨by rfl, ?hz12⟩) HSs4.out ?rz12
    case hz12 => (intro W hW; (try dsimp only at hW); go_simp; try with_reducible rfl)
    simp only [Act.put, List.getElem_toArray, List.getElem_cons_succ, List.getElem_cons_zero, List.setIfInBounds_toArray, List.set_cons_zero, List.set_cons_succ]
    refine wpAnyH_take (i := 14) (v := .agg (cS X).toArray) rfl (by kernel_rfl) (by kernel_rfl) (by kernel_rfl) (fun _ _ _ h => h) (Or.inl ⟨by rfl, ?hz14⟩) HSs4.out ?rz14
    case hz14 => (intro W hW; exact exec_load_img (by rfl) (by rfl) hW.1 HFX.out.1)
    simp only [Act.put, List.getElem_toArray, List.getElem_cons_succ, List.getElem_cons_zero, List.setIfInBounds_toArray, List.set_cons_zero, List.set_cons_succ]
    refine wpAnyH_take (i := 15) (v := .agg (cS Y).toArray) rfl (by kernel_rfl) (by kernel_rfl) (by kernel_rfl) (fun _ _ _ h => h) (Or.inl ⟨by rfl, ?hz15⟩) HSs4.out ?rz15
    case hz15 => (intro W hW; exact exec_load_img (by rfl) (by rfl) hW.2 HFY.out.1)
    simp only [Act.put, List.getElem_toArray, List.getElem_cons_succ, List.getElem_cons_zero, List.setIfInBounds_toArray, List.set_cons_zero, List.set_cons_succ]
    refine wpAnyH_take (i := 16) (v := ?vz16) rfl (by kernel_rfl) (by kernel_rfl) (by kernel_rfl) (fun _ _ _ h => h) (Or.inl ⟨by rfl, ?hz16⟩) HSs4.out ?rz16
    case hz16 => (intro W hW; (try dsimp only at hW); go_simp; try with_reducible rfl)
    simp only [Act.put, List.getElem_toArray, List.getElem_cons_succ, List.getElem_cons_zero, List.setIfInBounds_toArray, List.set_cons_zero, List.set_cons_succ]
    refine wpAnyH_ready (rs := [13]) (by kernel_rfl) (by simp) ?_
    refine AllReadyH.cons rfl (fun K hK => ?_) AllReadyH.nil
    refine ready_call (f := 23) (vs := #[.pointer (some ⟨ga, 0, none⟩), .pointer (some ⟨gb, 0, none⟩)]) (by rfl) (by (go_simp; try with_reducible rfl)) ?_
    refine (HS1.out _ HBs4.out).mono ?_
    rintro e vs5 ⟨rfl, hbs5⟩
    have HBs5 : Hid (Below w10.heap.size w10 vs5) := Lib.hid (HBs4.out.trans (hbs5.mono HBs4.out.size))
    clear hbs5
    have HSs5 := Lib.hid (HSI.out _ HBs5.out)
    refine ⟨_, rfl, hK.out _ _ HSs5.out (fun _ => ?_)⟩
    clear hK K
    simp only [Act.put, List.getElem_toArray, List.getElem_cons_succ, List.getElem_cons_zero, List.setIfInBounds_toArray, List.set_cons_zero, List.set_cons_succ]
    refine wpAnyH_take (i := 17) (v := ?vz17) rfl (by kernel_rfl) (by kernel_rfl) (by kernel_rfl) (fun _ _ _ h => h) (Or.inl ⟨by rfl, ?hz17⟩) HSs5.out ?rz17
    case hz17 => (intro W hW; (try dsimp only at hW); go_simp; try with_reducible rfl)
    simp only [Act.put, List.getElem_toArray, List.getElem_cons_succ, List.getElem_cons_zero, List.setIfInBounds_toArray, List.set_cons_zero, List.set_cons_succ]
    refine wpAnyH_take (i := 18) (v := ?vz18) rfl (by kernel_rfl) (by kernel_rfl) (by kernel_rfl) (fun _ _ _ h => h) (Or.inl ⟨by rfl, ?hz18⟩) HSs5.out ?rz18
    case hz18 => (intro W hW; (try dsimp only at hW); go_simp; try with_reducible rfl)
    simp only [Act.put, List.getElem_toArray, List.getElem_cons_succ, List.getElem_cons_zero, List.setIfInBounds_toArray, List.set_cons_zero, List.set_cons_succ]
    refine wpAnyH_take (i := 19) (v := ?vz19) rfl (by kernel_rfl) (by kernel_rfl) (by kernel_rfl) (fun _ _ _ h => h) (Or.inl ⟨by rfl, ?hz19⟩) HSs5.out ?rz19
    case hz19 => (intro W hW; (try dsimp only at hW); go_simp; try with_reducible rfl)
    simp only [Act.put, List.getElem_toArray, List.getElem_cons_succ, List.getElem_cons_zero, List.setIfInBounds_toArray, List.set_cons_zero, List.set_cons_succ]
    refine wpAnyH_take (i := 20) (v := ?vz20) rfl (by kernel_rfl) (by kernel_rfl) (by kernel_rfl) (fun _ _ _ h => h) (Or.inl ⟨by rfl, ?hz20⟩) HSs5.out ?rz20
    case hz20 => (intro W hW; (try dsimp only at hW); go_simp; try with_reducible rfl)
    simp only [Act.put, List.getElem_toArray, List.getElem_cons_succ, List.getElem_cons_zero, List.setIfInBounds_toArray, List.set_cons_zero, List.set_cons_succ]
    refine wpAnyH_take (i := 21) (v := ?vz21) rfl (by kernel_rfl) (by kernel_rfl) (by kernel_rfl) (fun _ _ _ h => h) (Or.inl ⟨by rfl, ?hz21⟩) HSs5.out ?rz21
    case hz21 => (intro W hW; (try dsimp only at hW); go_simp; try with_reducible rfl)
    simp only [Act.put, List.getElem_toArray, List.getElem_cons_succ, List.getElem_cons_zero, List.setIfInBounds_toArray, List.set_cons_zero, List.set_cons_succ]
    refine wpAnyH_take (i := 23) (v := .agg (cS X).toArray) rfl (by kernel_rfl) (by kernel_rfl) (by kernel_rfl) (fun _ _ _ h => h) (Or.inl ⟨by rfl, ?hz23⟩) HSs5.out ?rz23
    case hz23 => (intro W hW; exact exec_load_img (by rfl) (by rfl) hW.1 HFX.out.1)
    simp only [Act.put, List.getElem_toArray, List.getElem_cons_succ, List.getElem_cons_zero, List.setIfInBounds_toArray, List.set_cons_zero, List.set_cons_succ]
    refine wpAnyH_take (i := 24) (v := .agg (cS Y).toArray) rfl (by kernel_rfl) (by kernel_rfl) (by kernel_rfl) (fun _ _ _ h => h) (Or.inl ⟨by rfl, ?hz24⟩) HSs5.out ?rz24
    case hz24 => (intro W hW; exact exec_load_img (by rfl) (by rfl) hW.2 HFY.out.1)
    simp only [Act.put, List.getElem_toArray, List.getElem_cons_succ, List.getElem_cons_zero, List.setIfInBounds_toArray, List.set_cons_zero, List.set_cons_succ]
    refine wpAnyH_take (i := 25) (v := ?vz25) rfl (by kernel_rfl) (by kernel_rfl) (by kernel_rfl) (fun _ _ _ h => h) (Or.inl ⟨by rfl, ?hz25⟩) HSs5.out ?rz25
    case hz25 => (intro W hW; (try dsimp only at hW); go_simp; try with_reducible rfl)
    simp only [Act.put, List.getElem_toArray, List.getElem_cons_succ, List.getElem_cons_zero, List.setIfInBounds_toArray, List.set_cons_zero, List.set_cons_succ]
    refine wpAnyH_ready (rs := [22]) (by kernel_rfl) (by simp) ?_
    refine AllReadyH.cons rfl (fun K hK => ?_) AllReadyH.nil
    refine ready_call (f := 23) (vs := #[.pointer (some ⟨gb, 0, none⟩), .pointer (some ⟨ga, 0, none⟩)]) (by rfl) (by (go_simp; try with_reducible rfl)) ?_
    refine (HS2.out _ HBs5.out).mono ?_
    rintro e vs6 ⟨rfl, hbs6⟩
    have HBs6 : Hid (Below w10.heap.size w10 vs6) := Lib.hid (HBs5.out.trans (hbs6.mono HBs5.out.size))
    clear hbs6
    have HSs6 := Lib.hid (HSI.out _ HBs6.out)
    refine ⟨_, rfl, hK.out _ _ HSs6.out (fun _ => ?_)⟩
    clear hK K
    simp only [Act.put, List.getElem_toArray, List.getElem_cons_succ, List.getElem_cons_zero, List.setIfInBounds_toArray, List.set_cons_zero, List.set_cons_succ]
    refine wpAnyH_take (i := 26) (v := ?vz26) rfl (by kernel_rfl) (by kernel_rfl) (by kernel_rfl) (fun _ _ _ h => h) (Or.inl ⟨by rfl, ?hz26⟩) HSs6.out ?rz26
    case hz26 => (intro W hW; (try dsimp only at hW); go_simp; try with_reducible rfl)
    simp only [Act.put, List.getElem_toArray, List.getElem_cons_succ, List.getElem_cons_zero, List.setIfInBounds_toArray, List.set_cons_zero, List.set_cons_succ]
    refine wpAnyH_take (i := 27) (v := ?vz27) rfl (by kernel_rfl) (by kernel_rfl) (by kernel_rfl) (fun _ _ _ h => h) (Or.inl ⟨by rfl, ?hz27⟩) HSs6.out ?rz27
    case hz27 => (intro W hW; (try dsimp only at hW); go_simp; try with_reducible rfl)
    simp only [Act.put, List.getElem_toArray, List.getElem_cons_succ, List.getElem_cons_zero, List.setIfInBounds_toArray, List.set_cons_zero, List.set_cons_succ]
    refine wpAnyH_take (i := 28) (v := ?vz28) rfl (by kernel_rfl) (by kernel_rfl) (by kernel_rfl) (fun _ _ _ h => h) (Or.inl ⟨by rfl, ?hz28⟩) HSs6.out ?rz28
    case hz28 => (intro W hW; (try dsimp only at hW); go_simp; try with_reducible rfl)
    simp only [Act.put, List.getElem_toArray, List.getElem_cons_succ, List.getElem_cons_zero, List.setIfInBounds_toArray, List.set_cons_zero, List.set_cons_succ]
    refine wpAnyH_done (by kernel_rfl) ?_ _
    go_wp2
    go_ret
    exact ⟨by simp, HBw.out.trans (HBs6.out.mono HBw.out.size)⟩
  · have hd : decide ((300 : Int) < (n : Int) + (n' : Int)) = true := by simp; omega
    go_enter Try.func4, Try.ntmps4
    go_wp2_with fail
    refine (lives9_any w).mono ?_
    rintro e w1 ⟨rfl, hb1⟩
    have HB1 := Lib.hid hb1
    have HL2 := Lib.hid (lives9_any w1)
    clear hb1
    go_wp2_with fail
    refine HL2.out.mono ?_
    rintro e w2 ⟨rfl, hb2⟩
    have HB2 := Lib.hid (HB1.out.trans (hb2.mono HB1.out.size))
    clear hb2
    go_wp2
    go_ret
    exact ⟨rfl, HB2.out⟩

end Go.Proofs.Ytlmieegemckodaa
