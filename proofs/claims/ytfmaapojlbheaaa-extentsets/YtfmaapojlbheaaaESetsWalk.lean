/- ExtentSets, walked: over any world. -/
import Derived.Test.YtfmaapojlbheaaaESetsEnd
import Derived.Test.YtfmaapojlbheaaaOrders
import Derived.BigRegion
import Derived.BigQuiet
import Derived.Deep.DeepCutAuto
import Derived.Deep.RegionHeld3
namespace Go.Proofs.Ytfmaapojlbheaaa
open Go.RowKit Go.Shelf
set_option linter.unusedSimpArgs false
attribute [local go_sem] Oper.semAt_some

theorem Bl.drew {w : World} {g n : Nat} {Q : Nat → Bool} (h : Bl w g n Q) : Bl w.drew g n Q := h

theorem bl3_0 (w : World) : Bl (((w.alloc (.cells (bcells 601 fun _ => false) 4)).alloc (.cells (bcells 601 fun _ => false) 4)).alloc (.cells (bcells 601 fun _ => false) 4)).drew w.heap.size 601 fun _ => false :=
  Bl.drew (((bl_new w 601 _).later (Below.alloc0 _ _)).later (Below.alloc0 _ _))

theorem bl3_1 (w : World) : Bl (((w.alloc (.cells (bcells 601 fun _ => false) 4)).alloc (.cells (bcells 601 fun _ => false) 4)).alloc (.cells (bcells 601 fun _ => false) 4)).drew (w.heap.size + 1) 601 fun _ => false := by
  have h := bl_new (w.alloc (.cells (bcells 601 fun _ => false) 4)) 601 fun _ => false
  rw [World.size_alloc] at h
  exact Bl.drew (h.later (Below.alloc0 _ _))

theorem bl3_2 (w : World) : Bl (((w.alloc (.cells (bcells 601 fun _ => false) 4)).alloc (.cells (bcells 601 fun _ => false) 4)).alloc (.cells (bcells 601 fun _ => false) 4)).drew (w.heap.size + 1 + 1) 601 fun _ => false := by
  have h := bl_new ((w.alloc (.cells (bcells 601 fun _ => false) 4)).alloc (.cells (bcells 601 fun _ => false) 4)) 601 fun _ => false
  rw [World.size_alloc, World.size_alloc] at h
  exact Bl.drew h

/-- Three rows of truths that are made, and all that lay there. -/
def Rows4 (w0 W : World) (g1 g2 g3 : Nat) (Q1 Q2 Q3 : Nat → Bool) : Prop := Bl W g1 601 Q1 ∧ Bl W g2 601 Q2 ∧ Bl W g3 601 Q3 ∧ Below w0.heap.size w0 W

theorem Bl.other {W : World} {g g' i : Nat} {Q : Nat → Bool} {v : Value} (h : Bl W g 601 Q) (hne : g ≠ g') : Bl (W.setCell ⟨g', i, none⟩ v) g 601 Q := (Below.heap_setCell W _ v g hne).trans h

theorem Rows4.drew {w0 W : World} {g1 g2 g3 : Nat} {Q1 Q2 Q3 : Nat → Bool} (h : Rows4 w0 W g1 g2 g3 Q1 Q2 Q3) : Rows4 w0 W.drew g1 g2 g3 Q1 Q2 Q3 := ⟨h.1, h.2.1, h.2.2.1, h.2.2.2.trans (Below.refl _ _).drew⟩

theorem Rows4.set1 {w0 W : World} {g1 g2 g3 : Nat} {Q1 Q2 Q3 : Nat → Bool} (h : Rows4 w0 W g1 g2 g3 Q1 Q2 Q3) (hg : w0.heap.size ≤ g1 ∧ w0.heap.size ≤ g2 ∧ w0.heap.size ≤ g3 ∧ g1 ≠ g2 ∧ g1 ≠ g3 ∧ g2 ≠ g3) (i : Nat) (r : Bool) : Rows4 w0 (W.setCell ⟨g1, i, none⟩ (.bool r)) g1 g2 g3 (updB Q1 i r) Q2 Q3 :=
  ⟨h.1.set i r, h.2.1.other (Ne.symm hg.2.2.2.1), h.2.2.1.other (Ne.symm hg.2.2.2.2.1), h.2.2.2.trans (below_set hg.1 _ _)⟩

theorem Rows4.set2 {w0 W : World} {g1 g2 g3 : Nat} {Q1 Q2 Q3 : Nat → Bool} (h : Rows4 w0 W g1 g2 g3 Q1 Q2 Q3) (hg : w0.heap.size ≤ g1 ∧ w0.heap.size ≤ g2 ∧ w0.heap.size ≤ g3 ∧ g1 ≠ g2 ∧ g1 ≠ g3 ∧ g2 ≠ g3) (i : Nat) (r : Bool) : Rows4 w0 (W.setCell ⟨g2, i, none⟩ (.bool r)) g1 g2 g3 Q1 (updB Q2 i r) Q3 :=
  ⟨h.1.other hg.2.2.2.1, h.2.1.set i r, h.2.2.1.other (Ne.symm hg.2.2.2.2.2), h.2.2.2.trans (below_set hg.2.1 _ _)⟩

theorem Rows4.set3 {w0 W : World} {g1 g2 g3 : Nat} {Q1 Q2 Q3 : Nat → Bool} (h : Rows4 w0 W g1 g2 g3 Q1 Q2 Q3) (hg : w0.heap.size ≤ g1 ∧ w0.heap.size ≤ g2 ∧ w0.heap.size ≤ g3 ∧ g1 ≠ g2 ∧ g1 ≠ g3 ∧ g2 ≠ g3) (i : Nat) (r : Bool) : Rows4 w0 (W.setCell ⟨g3, i, none⟩ (.bool r)) g1 g2 g3 Q1 Q2 (updB Q3 i r) :=
  ⟨h.1.other hg.2.2.2.2.1, h.2.1.other hg.2.2.2.2.2, h.2.2.1.set i r, h.2.2.2.trans (below_set hg.2.2.1 _ _)⟩

theorem updB_step {F : Nat → Bool} {j : Nat} {r : Bool} (h : r = F j) (t : Nat) : updB (fun t => if t < j then F t else false) j r t = if t < j + 1 then F t else false := by
  unfold updB
  by_cases h1 : t = j
  · subst h1; rw [if_pos rfl, if_pos (by omega), h]
  · rw [if_neg h1]
    by_cases h2 : t < j
    · simp [h2, show t < j + 1 by omega]
    · simp [h2, show ¬ t < j + 1 by omega]

theorem Rows4.fin {w0 W : World} {g1 g2 g3 j : Nat} {F1 F2 F3 : Nat → Bool} {r1 r2 r3 : Bool} (h : Rows4 w0 W g1 g2 g3 (updB (fun t => if t < j then F1 t else false) j r1) (updB (fun t => if t < j then F2 t else false) j r2) (updB (fun t => if t < j then F3 t else false) j r3)) (h1 : r1 = F1 j) (h2 : r2 = F2 j) (h3 : r3 = F3 j) :
    Rows4 w0 W g1 g2 g3 (fun t => if t < j + 1 then F1 t else false) (fun t => if t < j + 1 then F2 t else false) (fun t => if t < j + 1 then F3 t else false) :=
  ⟨h.1.same fun t _ => updB_step h1 t, h.2.1.same fun t _ => updB_step h2 t, h.2.2.1.same fun t _ => updB_step h3 t, h.2.2.2⟩

set_option maxHeartbeats 8000000 in
set_option maxRecDepth 100000 in
theorem extentSets_walk (a b d : Option Addr) (n m k ca cb cd : Nat) (A0 B0 D0 : List Rn) (w : World) (ha : RdR w a n A0) (hb : RdR w b m B0) (hd : RdR w d k D0) (hn : n + m + k ≤ 100) :
    Calls Try.prog 3 #[.slice a n ca, .slice b m cb, .slice d k cd] w fun e w' => e = .returned (.bool true) ∧ Below w.heap.size w w' := by
  have hlt : decide ((100 : Int) < (n : Int) + (m : Int) + (k : Int)) = false := by simp; omega
  have HA0 := Lib.hid ha
  have HB0 := Lib.hid hb
  have HD0 := Lib.hid hd
  have HIA : Hid (∀ r ∈ A0.map smR, -300 < r.f ∧ r.f < 300 ∧ -300 < r.t ∧ r.t < 300) := Lib.hid (by rintro r hr; obtain ⟨q, _, rfl⟩ := List.mem_map.1 hr; exact smR_in q)
  have HIB : Hid (∀ r ∈ B0.map smR, -300 < r.f ∧ r.f < 300 ∧ -300 < r.t ∧ r.t < 300) := Lib.hid (by rintro r hr; obtain ⟨q, _, rfl⟩ := List.mem_map.1 hr; exact smR_in q)
  have HID : Hid (∀ r ∈ D0.map smR, -300 < r.f ∧ r.f < 300 ∧ -300 < r.t ∧ r.t < 300) := Lib.hid (by rintro r hr; obtain ⟨q, _, rfl⟩ := List.mem_map.1 hr; exact smR_in q)
  have HOk : Hid (∀ (L : List Rn), (∀ r ∈ L, -300 < r.f ∧ r.f < 300 ∧ -300 < r.t ∧ r.t < 300) → ∀ r ∈ L, r.ok) := Lib.hid fun L hL r hr => by have := hL r hr; exact ⟨by omega, by omega, by omega, by omega⟩
  clear ha hb hd
  refine enter_sets _ w _ _ rfl ?_
  simp only [Try.ntmps3, List.size_toArray, List.length_cons, List.length_nil, Nat.reduceAdd, Nat.reduceSub, Array.replicate_succ, Array.replicate_zero, List.push_toArray, List.append_toArray, List.nil_append, List.cons_append]
  go_wp2_with fail
  refine (lives_any _).mono ?_
  rintro e w1 ⟨rfl, hb1⟩
  obtain ⟨gr, hgr⟩ : ∃ gr, gr = w.heap.size := ⟨_, rfl⟩
  have c0 : w1.heap[gr]? = some (.cells #[.bool false] 4 (0, 0)) := by rw [hgr]; exact (hb1.block w.heap.size (by simp)).trans (heap_alloc_new w _)
  have HGR : Hid (w.heap.size ≤ gr) := Lib.hid (by omega)
  have HB1 : Hid (Below w.heap.size w w1) := Lib.hid ((Below.alloc0 w _).trans (hb1.mono (by simp)))
  have HC := Lib.hid c0
  rw [← hgr]
  clear hb1 c0 hgr
  obtain ⟨A, hA⟩ : ∃ A, A = A0.map smR := ⟨_, rfl⟩
  obtain ⟨B, hB⟩ : ∃ B, B = B0.map smR := ⟨_, rfl⟩
  obtain ⟨D, hD⟩ : ∃ D, D = D0.map smR := ⟨_, rfl⟩
  have HSA : Hid (∀ W, Below w.heap.size w W → Calls Try.prog 7 #[.slice a n ca] W fun e w' => ∃ a' c', e = .returned (.slice a' n c') ∧ RdR w' a' n A ∧ Below W.heap.size W w') := Lib.hid fun W hW => by rw [hA]; exact small_any a n ca A0 W (HA0.out.later hW) (by omega)
  have HSB : Hid (∀ W, Below w.heap.size w W → Calls Try.prog 7 #[.slice b m cb] W fun e w' => ∃ a' c', e = .returned (.slice a' m c') ∧ RdR w' a' m B ∧ Below W.heap.size W w') := Lib.hid fun W hW => by rw [hB]; exact small_any b m cb B0 W (HB0.out.later hW) (by omega)
  have HSD : Hid (∀ W, Below w.heap.size w W → Calls Try.prog 7 #[.slice d k cd] W fun e w' => ∃ a' c', e = .returned (.slice a' k c') ∧ RdR w' a' k D ∧ Below W.heap.size W w') := Lib.hid fun W hW => by rw [hD]; exact small_any d k cd D0 W (HD0.out.later hW) (by omega)
  rw [← hA] at HIA
  rw [← hB] at HIB
  rw [← hD] at HID
  clear hA hB hD HA0 HB0 HD0
  go_wp2_with fail
  refine (HSA.out _ HB1.out).mono ?_
  rintro e w2 ⟨a1, c1, rfl, hr1, hb2⟩
  have HR1 := Lib.hid hr1
  have HB2 := Lib.hid hb2
  have HBW2 : Hid (Below w.heap.size w w2) := Lib.hid (HB1.out.trans (HB2.out.mono HB1.out.size))
  clear hr1 hb2 HSA
  go_wp2_with fail
  refine (HSB.out _ HBW2.out).mono ?_
  rintro e w3 ⟨a2, c2, rfl, hr2, hb3⟩
  have HR2 := Lib.hid hr2
  have HB3 := Lib.hid hb3
  have HBW3 : Hid (Below w.heap.size w w3) := Lib.hid (HBW2.out.trans (HB3.out.mono HBW2.out.size))
  clear hr2 hb3 HSB
  go_wp2_with fail
  refine (HSD.out _ HBW3.out).mono ?_
  rintro e w4 ⟨a3, c3, rfl, hr3, hb4⟩
  have HB4 := Lib.hid hb4
  have HR13 := Lib.hid ((HR1.out.later HB3.out).later HB4.out)
  have HR23 := Lib.hid (HR2.out.later HB4.out)
  have HR33 := Lib.hid hr3
  have HC4 : Hid (w4.heap[gr]? = some (.cells #[.bool false] 4 (0, 0))) := Lib.hid (by
    have h1 := lt_of_block HC.out
    have h2 := HB2.out.size
    have h3 := HB3.out.size
    exact (HB4.out.block gr (by omega)).trans ((HB3.out.block gr (by omega)).trans ((HB2.out.block gr h1).trans HC.out)))
  have HBW4 : Hid (Below w.heap.size w w4) := Lib.hid (HBW3.out.trans (HB4.out.mono HBW3.out.size))
  clear hr3 hb4 HSD HR1 HR2 HB1 HB2 HB3 HB4 HBW2 HBW3 HC
  go_wp2_with fail
  refine (in_any a1 n c1 A w4 HR13.out (by omega)).mono ?_
  rintro e w5 ⟨gp, rfl, hgp, hbp, hb5⟩
  have HBP := Lib.hid hbp
  have HB5 := Lib.hid hb5
  clear hbp hb5
  go_wp2_with fail
  refine (in_any a2 m c2 B w5 (HR23.out.later HB5.out) (by omega)).mono ?_
  rintro e w6 ⟨gq, rfl, hgq, hbq, hb6⟩
  have HBQ := Lib.hid hbq
  have HB6 := Lib.hid hb6
  clear hbq hb6
  go_wp2_with fail
  refine (in_any a3 k c3 D w6 ((HR33.out.later HB5.out).later HB6.out) (by omega)).mono ?_
  rintro e w7 ⟨go, rfl, hgo, hbo, hb7⟩
  have HB7 := Lib.hid hb7
  have HBO := Lib.hid hbo
  clear hbo hb7
  go_wp2_with fail
  obtain ⟨w8, hw8⟩ : ∃ w8, w8 = w7.alloc (.cells #[.slice (some ⟨gp, 0, none⟩) 601 601] 25) := ⟨_, rfl⟩
  obtain ⟨bp, hbp⟩ : ∃ bp, bp = w7.heap.size := ⟨_, rfl⟩
  have HC8 : Hid (w8.heap[bp]? = some (.cells #[.slice (some ⟨gp, 0, none⟩) 601 601] 25 (0, 0))) := Lib.hid (by rw [hw8, hbp]; exact heap_alloc_new w7 _)
  have hb8 : Below w7.heap.size w7 w8 := by rw [hw8]; exact Below.alloc0 _ _
  have hb48 : Below w4.heap.size w4 w8 := (HB5.out.trans (HB6.out.mono HB5.out.size)).trans ((HB7.out.trans (hb8.mono HB7.out.size)).mono (Nat.le_trans HB5.out.size HB6.out.size))
  rw [← hw8, ← hbp]
  have HR18 := Lib.hid (HR13.out.later hb48)
  have HR28 := Lib.hid (HR23.out.later hb48)
  have HR38 := Lib.hid (HR33.out.later hb48)
  have HBP8 := Lib.hid (((HBP.out.later HB6.out).later HB7.out).later hb8)
  have HBQ8 := Lib.hid ((HBQ.out.later HB7.out).later hb8)
  have HBO8 := Lib.hid (HBO.out.later hb8)
  have HCR8 : Hid (w8.heap[gr]? = some (.cells #[.bool false] 4 (0, 0))) := Lib.hid ((hb48.block gr (lt_of_block HC4.out)).trans HC4.out)
  have HBW8 : Hid (Below w.heap.size w w8) := Lib.hid (HBW4.out.trans (hb48.mono HBW4.out.size))
  clear hw8 hbp hb8 hb48 HR13 HR23 HR33 HBP HBQ HBO HC4 HB5 HB6 HB7 HBW4 hgp hgq hgo
  refine (of_any a1 n c1 A w8 HR18.out (by omega) (HOk.out A HIA.out)).mono ?_
  rintro e w9 ⟨v9, M, rfl, ho9, hs9, hm9, hl9, hb9⟩
  obtain ⟨sA, xA, hvA, hrA, _, hloA⟩ := ho9.rd
  obtain ⟨nA, hnA⟩ : ∃ nA, nA = M.length := ⟨_, rfl⟩
  rw [← hnA] at hvA hrA hl9
  subst hvA
  have HTA := Lib.hid (told_of hs9 hm9 HIA.out)
  have hnA2 : nA ≤ 200 := by omega
  have HRA := Lib.hid hrA
  have HB9 := Lib.hid hb9
  clear ho9 hs9 hm9 hl9 hb9 hrA hloA hnA
  go_wp2_with fail
  refine (of_any a2 m c2 B w9 (HR28.out.later HB9.out) (by omega) (HOk.out B HIB.out)).mono ?_
  rintro e w10 ⟨v10, N, rfl, ho10, hs10, hm10, hl10, hb10⟩
  obtain ⟨sB, xB, hvB, hrB, _, hloB⟩ := ho10.rd
  obtain ⟨nB, hnB⟩ : ∃ nB, nB = N.length := ⟨_, rfl⟩
  rw [← hnB] at hvB hrB hl10
  subst hvB
  have HTB := Lib.hid (told_of hs10 hm10 HIB.out)
  have hnB2 : nB ≤ 200 := by omega
  have HRB := Lib.hid hrB
  have HB10 := Lib.hid hb10
  clear ho10 hs10 hm10 hl10 hb10 hrB hloB hnB
  go_wp2_with fail
  refine (of_any a3 k c3 D w10 ((HR38.out.later HB9.out).later HB10.out) (by omega) (HOk.out D HID.out)).mono ?_
  rintro e w11 ⟨v11, O, rfl, ho11, hs11, hm11, hl11, hb11⟩
  obtain ⟨sC, xC, hvC, hrC, _, hloC⟩ := ho11.rd
  obtain ⟨nC, hnC⟩ : ∃ nC, nC = O.length := ⟨_, rfl⟩
  rw [← hnC] at hvC hrC hl11
  subst hvC
  have HTC := Lib.hid (told_of hs11 hm11 HID.out)
  have hnC2 : nC ≤ 200 := by omega
  have hb8s : Below w8.heap.size w8 w11 := (HB9.out.trans (HB10.out.mono HB9.out.size)).trans (hb11.mono (Nat.le_trans HB9.out.size HB10.out.size))
  have HRA2 := Lib.hid ((HRA.out.later HB10.out).later hb11)
  have HRB2 := Lib.hid (HRB.out.later hb11)
  have HRC2 := Lib.hid hrC
  have HBP2 := Lib.hid (HBP8.out.later hb8s)
  have HBQ2 := Lib.hid (HBQ8.out.later hb8s)
  have HBO2 := Lib.hid (HBO8.out.later hb8s)
  have HCR2 : Hid (w11.heap[gr]? = some (.cells #[.bool false] 4 (0, 0))) := Lib.hid ((hb8s.block gr (lt_of_block HCR8.out)).trans HCR8.out)
  have HCP2 : Hid (w11.heap[bp]? = some (.cells #[.slice (some ⟨gp, 0, none⟩) 601 601] 25 (0, 0))) := Lib.hid ((hb8s.block bp (lt_of_block HC8.out)).trans HC8.out)
  have HBW := Lib.hid (HBW8.out.trans (hb8s.mono HBW8.out.size))
  obtain ⟨P, hP⟩ : ∃ P, P = inP A := ⟨_, rfl⟩
  obtain ⟨Q, hQ⟩ : ∃ Q, Q = inP B := ⟨_, rfl⟩
  obtain ⟨U, hU⟩ : ∃ U, U = inP D := ⟨_, rfl⟩
  rw [← hP] at HTA HBP2
  rw [← hQ] at HTB HBQ2
  rw [← hU] at HTC HBO2
  clear ho11 hs11 hm11 hl11 hb11 hrC hloC hnC hb8s HB9 HB10 HRA HRB HR18 HR28 HR38 HBP8 HBQ8 HBO8 HC8 HCR8 HBW8 hP hQ hU HIA HIB HID HOk
  have hmk := fun W => run_mkB W
  go_upto_region 6 with fail
  go_cut [16, 17, 18] from 57 to 59 (fun s1 s2 s3 wx => ∃ g1 g2 g3 : Nat, s1 = .slice (some ⟨g1, 0, none⟩) 601 601 ∧ s2 = .slice (some ⟨g2, 0, none⟩) 601 601 ∧ s3 = .slice (some ⟨g3, 0, none⟩) 601 601 ∧ Hid (w11.heap.size ≤ g1 ∧ w11.heap.size ≤ g2 ∧ w11.heap.size ≤ g3 ∧ g1 ≠ g2 ∧ g1 ≠ g3 ∧ g2 ≠ g3) ∧ Hid (Bl wx g1 601 (fun _ => false)) ∧ Hid (Bl wx g2 601 (fun _ => false)) ∧ Hid (Bl wx g3 601 (fun _ => false)) ∧ Hid (Below w11.heap.size w11 wx))
  case first =>
    go_region
    all_goals
      go_wp2_with fail
      go_meet
      refine ⟨_, _, _, rfl, rfl, rfl, Lib.hid ⟨?_, ?_, ?_, ?_, ?_, ?_⟩, Lib.hid ?_, Lib.hid ?_, Lib.hid ?_, Lib.hid (((((Below.refl _ w11).alloc (Nat.le_refl _) _).alloc (by simp) _).alloc (by simp; omega) _).trans ⟨rfl, rfl, rfl, Nat.le_refl _, fun _ _ => rfl⟩)⟩
      all_goals first | omega | exact bl3_0 w11 | exact bl3_1 w11 | exact bl3_2 w11
  case rest =>
    obtain ⟨g1, g2, g3, rfl, rfl, rfl, HG, HB1, HB2, HB3, HBS⟩ := hcut
    have HG0 := HG
    clear hmk
    have hcp : wc.cell? ⟨bp, 0, none⟩ = some (.slice (some ⟨gp, 0, none⟩) 601 601) := by
      rw [cell_of_row wc bp 0 _ 25 (0, 0) ((HBS.out.block bp (lt_of_block HCP2.out)).trans HCP2.out)]; rfl
    go_wp2
    clear hcp
    go_loopg [19, 62] 601 (fun k ct i wr => ∃ j : Nat, k = 601 - j ∧ j ≤ 601 ∧ i = .int .i64 (j : Int) ∧ ct = .int .i64 ((cntT P j : Nat) : Int) ∧ Hid (Bl wr g1 601 fun t => if t < j then (P t || Q t || U t) else false) ∧ Hid (Bl wr g2 601 fun t => if t < j then (P t && Q t && U t) else false) ∧ Hid (Bl wr g3 601 fun t => if t < j then (P t && !Q t && !U t) else false) ∧ Hid (Below w11.heap.size w11 wr))
    case atStart => exact ⟨0, rfl, Nat.zero_le _, rfl, by rw [cntT_zero]; rfl, Lib.hid (HB1.out.same fun j _ => by simp), Lib.hid (HB2.out.same fun j _ => by simp), Lib.hid (HB3.out.same fun j _ => by simp), HBS⟩
    case round =>
      obtain ⟨j, hk, hj, rfl, rfl, HL1, HL2, HL3, HBr⟩ := hrel
      have HK := Lib.hid hk
      clear hk HB1 HB2 HB3 HBS
      have hcpb : wr.heap[bp]? = some (.cells #[.slice (some ⟨gp, 0, none⟩) 601 601] 25 (0, 0)) := (HBr.out.block bp (lt_of_block HCP2.out)).trans HCP2.out
      have hcp : wr.cell? ⟨bp, 0, none⟩ = some (.slice (some ⟨gp, 0, none⟩) 601 601) := by rw [cell_of_row wr bp 0 _ 25 (0, 0) hcpb]; rfl
      have HCPB := Lib.hid hcpb
      clear hcpb
      by_cases hlt6 : j < 601
      · have hp := (HBP2.out.later HBr.out).at_ hlt6
        have hq := (HBQ2.out.later HBr.out).at_ hlt6
        have hu := (HBO2.out.later HBr.out).at_ hlt6
        have ho1 := HL1.out.at_ hlt6
        have ho2 := HL2.out.at_ hlt6
        have ho3 := HL3.out.at_ hlt6
        have hf1 := HL1.out.frozen j
        have hf2 := HL2.out.frozen j
        have hf3 := HL3.out.frozen j
        simp only [Nat.lt_irrefl, if_false] at ho1 ho2 ho3
        obtain ⟨vp, hvp⟩ : ∃ vp, vp = P j := ⟨_, rfl⟩
        obtain ⟨vq, hvq⟩ : ∃ vq, vq = Q j := ⟨_, rfl⟩
        obtain ⟨vu, hvu⟩ : ∃ vu, vu = U j := ⟨_, rfl⟩
        rw [← hvp] at hp
        rw [← hvq] at hq
        rw [← hvu] at hu
        obtain ⟨n1, n2, n3, n4, n5, n6⟩ := HG.out
        have HVP := Lib.hid (And.intro hvp (And.intro hvq hvu))
        clear hvp hvq hvu
        have HS0 : Hid (wr.cell? ⟨bp, 0, none⟩ = some (.slice (some ⟨gp, 0, none⟩) 601 601) ∧ wr.cell? ⟨gp, j, none⟩ = some (.bool vp) ∧ wr.cell? ⟨gq, j, none⟩ = some (.bool vq) ∧ wr.cell? ⟨go, j, none⟩ = some (.bool vu)) := Lib.hid ⟨hcp, hp, hq, hu⟩
        have HO0 : Hid (wr.drew.cell? ⟨g1, j, none⟩ = some (.bool false) ∧ wr.drew.frozen? ⟨g1, j, none⟩ = false) := Lib.hid ⟨ho1, hf1⟩
        have HR0 : Hid (Rows4 w11 wr g1 g2 g3 (fun t => if t < j then (P t || Q t || U t) else false) (fun t => if t < j then (P t && Q t && U t) else false) (fun t => if t < j then (P t && !Q t && !U t) else false)) := Lib.hid ⟨HL1.out, HL2.out, HL3.out, HBr.out⟩
        have HSF : Hid (∀ W, Below w11.heap.size w11 W → W.cell? ⟨bp, 0, none⟩ = some (.slice (some ⟨gp, 0, none⟩) 601 601) ∧ W.cell? ⟨gp, j, none⟩ = some (.bool vp) ∧ W.cell? ⟨gq, j, none⟩ = some (.bool vq) ∧ W.cell? ⟨go, j, none⟩ = some (.bool vu)) := Lib.hid fun W hW => by
          refine ⟨?_, ?_, ?_, ?_⟩
          · rw [cell_of_row W bp 0 _ 25 (0, 0) ((hW.block bp (lt_of_block HCP2.out)).trans HCP2.out)]; rfl
          · rw [HVP.out.1]; exact (HBP2.out.later hW).at_ hlt6
          · rw [HVP.out.2.1]; exact (HBQ2.out.later hW).at_ hlt6
          · rw [HVP.out.2.2]; exact (HBO2.out.later hW).at_ hlt6
        clear hp hq hu ho1 ho2 ho3 hf1 hf2 hf3 n1 n2 n3 n4 n5 n6 hcp HCPB HL1 HL2 HL3
        go_upto_region 11 with fail
        go_cut [62] from 62 to 139 (fun i wx => i = .int .i64 (j : Int) ∧ Hid (Rows4 w11 wx g1 g2 g3 (fun t => if t < j + 1 then (P t || Q t || U t) else false) (fun t => if t < j + 1 then (P t && Q t && U t) else false) (fun t => if t < j + 1 then (P t && !Q t && !U t) else false)))
        case first =>
          cases vp <;> cases vq
          ·
            as_aux_lemma =>
            refine wp_region_noPanic ?_
            refine wp_region_held_drew (S := fun W => W.cell? ⟨bp, 0, none⟩ = some (.slice (some ⟨gp, 0, none⟩) 601 601) ∧ W.cell? ⟨gp, j, none⟩ = some (.bool false) ∧ W.cell? ⟨gq, j, none⟩ = some (.bool false) ∧ W.cell? ⟨go, j, none⟩ = some (.bool vu)) (by kernel_rfl) HS0.out (fun _ => ?_)
            refine wpAnyH_take (i := 0) (v := ?va0) rfl (by kernel_rfl) (by kernel_rfl) (by kernel_rfl) (fun _ _ _ h => h) (Or.inl ⟨by rfl, ?ha0⟩) HS0.out ?ra0
            case ha0 => (intro W hW; (try dsimp only at hW); go_simp; try with_reducible rfl)
            simp only [Act.put, List.getElem_toArray, List.getElem_cons_succ, List.getElem_cons_zero, List.setIfInBounds_toArray, List.set_cons_zero, List.set_cons_succ]
            refine wpAnyH_take (i := 1) (v := ?va1) rfl (by kernel_rfl) (by kernel_rfl) (by kernel_rfl) (fun _ _ _ h => h) (Or.inl ⟨by rfl, ?ha1⟩) HS0.out ?ra1
            case ha1 => (intro W hW; (try dsimp only at hW); go_simp; try with_reducible rfl)
            simp only [Act.put, List.getElem_toArray, List.getElem_cons_succ, List.getElem_cons_zero, List.setIfInBounds_toArray, List.set_cons_zero, List.set_cons_succ]
            refine wpAnyH_take (i := 2) (v := ?va2) rfl (by kernel_rfl) (by kernel_rfl) (by kernel_rfl) (fun _ _ _ h => h) (Or.inl ⟨by rfl, ?ha2⟩) HS0.out ?ra2
            case ha2 => (intro W hW; (try dsimp only at hW); go_simp; try with_reducible rfl)
            simp only [Act.put, List.getElem_toArray, List.getElem_cons_succ, List.getElem_cons_zero, List.setIfInBounds_toArray, List.set_cons_zero, List.set_cons_succ]
            refine wpAnyH_take (i := 3) (v := ?va3) rfl (by kernel_rfl) (by kernel_rfl) (by kernel_rfl) (fun _ _ _ h => h) (Or.inl ⟨by rfl, ?ha3⟩) HS0.out ?ra3
            case ha3 => (intro W hW; (try dsimp only at hW); go_simp; try with_reducible rfl)
            simp only [Act.put, List.getElem_toArray, List.getElem_cons_succ, List.getElem_cons_zero, List.setIfInBounds_toArray, List.set_cons_zero, List.set_cons_succ]
            refine wpAnyH_take (i := 4) (v := ?va4) rfl (by kernel_rfl) (by kernel_rfl) (by kernel_rfl) (fun _ _ _ h => h) (Or.inl ⟨by rfl, ?ha4⟩) HS0.out ?ra4
            case ha4 => (intro W hW; (try dsimp only at hW); go_simp; try with_reducible rfl)
            simp only [Act.put, List.getElem_toArray, List.getElem_cons_succ, List.getElem_cons_zero, List.setIfInBounds_toArray, List.set_cons_zero, List.set_cons_succ]
            refine wpAnyH_take (i := 5) (v := ?va5) rfl (by kernel_rfl) (by kernel_rfl) (by kernel_rfl) (fun _ _ _ h => h) (Or.inl ⟨by rfl, ?ha5⟩) HS0.out ?ra5
            case ha5 => (intro W hW; (try dsimp only at hW); go_simp; try with_reducible rfl)
            simp only [Act.put, List.getElem_toArray, List.getElem_cons_succ, List.getElem_cons_zero, List.setIfInBounds_toArray, List.set_cons_zero, List.set_cons_succ]
            refine wpAnyH_take (i := 6) (v := ?va6) rfl (by kernel_rfl) (by kernel_rfl) (by kernel_rfl) (fun _ _ _ h => h) (Or.inl ⟨by rfl, ?ha6⟩) HS0.out ?ra6
            case ha6 => (intro W hW; (try dsimp only at hW); go_simp; try with_reducible rfl)
            simp only [Act.put, List.getElem_toArray, List.getElem_cons_succ, List.getElem_cons_zero, List.setIfInBounds_toArray, List.set_cons_zero, List.set_cons_succ]
            refine wpAnyH_take (i := 7) (v := ?va7) rfl (by kernel_rfl) (by kernel_rfl) (by kernel_rfl) (fun _ _ _ h => h) (Or.inl ⟨by rfl, ?ha7⟩) HS0.out ?ra7
            case ha7 => (intro W hW; (try dsimp only at hW); go_simp; try with_reducible rfl)
            simp only [Act.put, List.getElem_toArray, List.getElem_cons_succ, List.getElem_cons_zero, List.setIfInBounds_toArray, List.set_cons_zero, List.set_cons_succ]
            refine wpAnyH_take (i := 8) (v := ?va8) rfl (by kernel_rfl) (by kernel_rfl) (by kernel_rfl) (fun _ _ _ h => h) (Or.inl ⟨by rfl, ?ha8⟩) HS0.out ?ra8
            case ha8 => (intro W hW; (try dsimp only at hW); go_simp; try with_reducible rfl)
            simp only [Act.put, List.getElem_toArray, List.getElem_cons_succ, List.getElem_cons_zero, List.setIfInBounds_toArray, List.set_cons_zero, List.set_cons_succ]
            refine wpAnyH_take (i := 9) (v := ?va9) rfl (by kernel_rfl) (by kernel_rfl) (by kernel_rfl) (fun _ _ _ h => h) (Or.inl ⟨by rfl, ?ha9⟩) HS0.out ?ra9
            case ha9 => (intro W hW; (try dsimp only at hW); go_simp; try with_reducible rfl)
            simp only [Act.put, List.getElem_toArray, List.getElem_cons_succ, List.getElem_cons_zero, List.setIfInBounds_toArray, List.set_cons_zero, List.set_cons_succ]
            refine wpAnyH_take (i := 10) (v := ?va10) rfl (by kernel_rfl) (by kernel_rfl) (by kernel_rfl) (fun _ _ _ h => h) (Or.inl ⟨by rfl, ?ha10⟩) HS0.out ?ra10
            case ha10 => (intro W hW; (try dsimp only at hW); go_simp; try with_reducible rfl)
            simp only [Act.put, List.getElem_toArray, List.getElem_cons_succ, List.getElem_cons_zero, List.setIfInBounds_toArray, List.set_cons_zero, List.set_cons_succ]
            refine wpAnyH_take (i := 11) (v := ?va11) rfl (by kernel_rfl) (by kernel_rfl) (by kernel_rfl) (fun _ _ _ h => h) (Or.inl ⟨by rfl, ?ha11⟩) HS0.out ?ra11
            case ha11 => (intro W hW; (try dsimp only at hW); go_simp; try with_reducible rfl)
            simp only [Act.put, List.getElem_toArray, List.getElem_cons_succ, List.getElem_cons_zero, List.setIfInBounds_toArray, List.set_cons_zero, List.set_cons_succ]
            refine wpAnyH_take (i := 12) (v := ?va12) rfl (by kernel_rfl) (by kernel_rfl) (by kernel_rfl) (fun _ _ _ h => h) (Or.inl ⟨by rfl, ?ha12⟩) HS0.out ?ra12
            case ha12 => (intro W hW; (try dsimp only at hW); go_simp; try with_reducible rfl)
            simp only [Act.put, List.getElem_toArray, List.getElem_cons_succ, List.getElem_cons_zero, List.setIfInBounds_toArray, List.set_cons_zero, List.set_cons_succ]
            refine wpAnyH_take (i := 13) (v := ?va13) rfl (by kernel_rfl) (by kernel_rfl) (by kernel_rfl) (fun _ _ _ h => h) (Or.inl ⟨by rfl, ?ha13⟩) HS0.out ?ra13
            case ha13 => (intro W hW; (try dsimp only at hW); go_simp; try with_reducible rfl)
            simp only [Act.put, List.getElem_toArray, List.getElem_cons_succ, List.getElem_cons_zero, List.setIfInBounds_toArray, List.set_cons_zero, List.set_cons_succ]
            refine wpAnyH_take (i := 14) (v := ?va14) rfl (by kernel_rfl) (by kernel_rfl) (by kernel_rfl) (fun _ _ _ h => h) (Or.inl ⟨by rfl, ?ha14⟩) HS0.out ?ra14
            case ha14 => (intro W hW; (try dsimp only at hW); go_simp; try with_reducible rfl)
            simp only [Act.put, List.getElem_toArray, List.getElem_cons_succ, List.getElem_cons_zero, List.setIfInBounds_toArray, List.set_cons_zero, List.set_cons_succ]
            refine wpAnyH_take (i := 15) (v := ?va15) rfl (by kernel_rfl) (by kernel_rfl) (by kernel_rfl) (fun _ _ _ h => h) (Or.inl ⟨by rfl, ?ha15⟩) HS0.out ?ra15
            case ha15 => (intro W hW; (try dsimp only at hW); go_simp; try with_reducible rfl)
            simp only [Act.put, List.getElem_toArray, List.getElem_cons_succ, List.getElem_cons_zero, List.setIfInBounds_toArray, List.set_cons_zero, List.set_cons_succ]
            refine wpAnyH_take (i := 16) (v := ?va16) rfl (by kernel_rfl) (by kernel_rfl) (by kernel_rfl) (fun _ _ _ h => h) (Or.inl ⟨by rfl, ?ha16⟩) HS0.out ?ra16
            case ha16 => (intro W hW; (try dsimp only at hW); go_simp; try with_reducible rfl)
            simp only [Act.put, List.getElem_toArray, List.getElem_cons_succ, List.getElem_cons_zero, List.setIfInBounds_toArray, List.set_cons_zero, List.set_cons_succ]
            refine wpAnyH_take (i := 17) (v := ?va17) rfl (by kernel_rfl) (by kernel_rfl) (by kernel_rfl) (fun _ _ _ h => h) (Or.inl ⟨by rfl, ?ha17⟩) HS0.out ?ra17
            case ha17 => (intro W hW; (try dsimp only at hW); go_simp; try with_reducible rfl)
            simp only [Act.put, List.getElem_toArray, List.getElem_cons_succ, List.getElem_cons_zero, List.setIfInBounds_toArray, List.set_cons_zero, List.set_cons_succ]
            refine wpAnyH_take (i := 18) (v := ?va18) rfl (by kernel_rfl) (by kernel_rfl) (by kernel_rfl) (fun _ _ _ h => h) (Or.inl ⟨by rfl, ?ha18⟩) HS0.out ?ra18
            case ha18 => (intro W hW; (try dsimp only at hW); go_simp; try with_reducible rfl)
            simp only [Act.put, List.getElem_toArray, List.getElem_cons_succ, List.getElem_cons_zero, List.setIfInBounds_toArray, List.set_cons_zero, List.set_cons_succ]
            refine wpAnyH_take (i := 19) (v := ?va19) rfl (by kernel_rfl) (by kernel_rfl) (by kernel_rfl) (fun _ _ _ h => h) (Or.inl ⟨by rfl, ?ha19⟩) HS0.out ?ra19
            case ha19 => (intro W hW; (try dsimp only at hW); go_simp; try with_reducible rfl)
            simp only [Act.put, List.getElem_toArray, List.getElem_cons_succ, List.getElem_cons_zero, List.setIfInBounds_toArray, List.set_cons_zero, List.set_cons_succ]
            refine wpAnyH_take (i := 20) (v := ?va20) rfl (by kernel_rfl) (by kernel_rfl) (by kernel_rfl) (fun _ _ _ h => h) (Or.inl ⟨by rfl, ?ha20⟩) HS0.out ?ra20
            case ha20 => (intro W hW; (try dsimp only at hW); go_simp; try with_reducible rfl)
            simp only [Act.put, List.getElem_toArray, List.getElem_cons_succ, List.getElem_cons_zero, List.setIfInBounds_toArray, List.set_cons_zero, List.set_cons_succ]
            refine wpAnyH_take (i := 21) (v := ?va21) rfl (by kernel_rfl) (by kernel_rfl) (by kernel_rfl) (fun _ _ _ h => h) (Or.inl ⟨by rfl, ?ha21⟩) HS0.out ?ra21
            case ha21 => (intro W hW; (try dsimp only at hW); go_simp; try with_reducible rfl)
            simp only [Act.put, List.getElem_toArray, List.getElem_cons_succ, List.getElem_cons_zero, List.setIfInBounds_toArray, List.set_cons_zero, List.set_cons_succ]
            refine wpAnyH_take (i := 22) (v := ?va22) rfl (by kernel_rfl) (by kernel_rfl) (by kernel_rfl) (fun _ _ _ h => h) (Or.inl ⟨by rfl, ?ha22⟩) HS0.out ?ra22
            case ha22 => (intro W hW; (try dsimp only at hW); go_simp; try with_reducible rfl)
            simp only [Act.put, List.getElem_toArray, List.getElem_cons_succ, List.getElem_cons_zero, List.setIfInBounds_toArray, List.set_cons_zero, List.set_cons_succ]
            refine wpAnyH_take (i := 23) (v := ?va23) rfl (by kernel_rfl) (by kernel_rfl) (by kernel_rfl) (fun _ _ _ h => h) (Or.inl ⟨by rfl, ?ha23⟩) HS0.out ?ra23
            case ha23 => (intro W hW; (try dsimp only at hW); go_simp; try with_reducible rfl)
            simp only [Act.put, List.getElem_toArray, List.getElem_cons_succ, List.getElem_cons_zero, List.setIfInBounds_toArray, List.set_cons_zero, List.set_cons_succ]
            refine wpAnyH_take (i := 24) (v := ?va24) rfl (by kernel_rfl) (by kernel_rfl) (by kernel_rfl) (fun _ _ _ h => h) (Or.inl ⟨by rfl, ?ha24⟩) HS0.out ?ra24
            case ha24 => (intro W hW; (try dsimp only at hW); go_simp; try with_reducible rfl)
            simp only [Act.put, List.getElem_toArray, List.getElem_cons_succ, List.getElem_cons_zero, List.setIfInBounds_toArray, List.set_cons_zero, List.set_cons_succ]
            refine wpAnyH_take (i := 25) (v := ?va25) rfl (by kernel_rfl) (by kernel_rfl) (by kernel_rfl) (fun _ _ _ h => h) (Or.inl ⟨by rfl, ?ha25⟩) HS0.out ?ra25
            case ha25 => (intro W hW; (try dsimp only at hW); go_simp; try with_reducible rfl)
            simp only [Act.put, List.getElem_toArray, List.getElem_cons_succ, List.getElem_cons_zero, List.setIfInBounds_toArray, List.set_cons_zero, List.set_cons_succ]
            refine wpAnyH_take (i := 26) (v := ?va26) rfl (by kernel_rfl) (by kernel_rfl) (by kernel_rfl) (fun _ _ _ h => h) (Or.inl ⟨by rfl, ?ha26⟩) HS0.out ?ra26
            case ha26 => (intro W hW; (try dsimp only at hW); go_simp; try with_reducible rfl)
            simp only [Act.put, List.getElem_toArray, List.getElem_cons_succ, List.getElem_cons_zero, List.setIfInBounds_toArray, List.set_cons_zero, List.set_cons_succ]
            refine wpAnyH_take (i := 27) (v := undef) rfl (by kernel_rfl) (by kernel_rfl) (by kernel_rfl) (fun _ _ _ h => h) (Or.inr ⟨by rfl, rfl⟩) HS0.out ?ra27
            simp only [Act.put, List.getElem_toArray, List.getElem_cons_succ, List.getElem_cons_zero, List.setIfInBounds_toArray, List.set_cons_zero, List.set_cons_succ]
            refine wpAnyH_take (i := 28) (v := undef) rfl (by kernel_rfl) (by kernel_rfl) (by kernel_rfl) (fun _ _ _ h => h) (Or.inr ⟨by rfl, rfl⟩) HS0.out ?ra28
            simp only [Act.put, List.getElem_toArray, List.getElem_cons_succ, List.getElem_cons_zero, List.setIfInBounds_toArray, List.set_cons_zero, List.set_cons_succ]
            refine wpAnyH_take (i := 29) (v := undef) rfl (by kernel_rfl) (by kernel_rfl) (by kernel_rfl) (fun _ _ _ h => h) (Or.inr ⟨by rfl, rfl⟩) HS0.out ?ra29
            simp only [Act.put, List.getElem_toArray, List.getElem_cons_succ, List.getElem_cons_zero, List.setIfInBounds_toArray, List.set_cons_zero, List.set_cons_succ]
            refine wpAnyH_take (i := 30) (v := undef) rfl (by kernel_rfl) (by kernel_rfl) (by kernel_rfl) (fun _ _ _ h => h) (Or.inr ⟨by rfl, rfl⟩) HS0.out ?ra30
            simp only [Act.put, List.getElem_toArray, List.getElem_cons_succ, List.getElem_cons_zero, List.setIfInBounds_toArray, List.set_cons_zero, List.set_cons_succ]
            refine wpAnyH_take (i := 31) (v := ?va31) rfl (by kernel_rfl) (by kernel_rfl) (by kernel_rfl) (fun _ _ _ h => h) (Or.inl ⟨by rfl, ?ha31⟩) HS0.out ?ra31
            case ha31 => (intro W hW; (try dsimp only at hW); go_simp; try with_reducible rfl)
            simp only [Act.put, List.getElem_toArray, List.getElem_cons_succ, List.getElem_cons_zero, List.setIfInBounds_toArray, List.set_cons_zero, List.set_cons_succ]
            refine wpAnyH_take (i := 32) (v := ?va32) rfl (by kernel_rfl) (by kernel_rfl) (by kernel_rfl) (fun _ _ _ h => h) (Or.inl ⟨by rfl, ?ha32⟩) HS0.out ?ra32
            case ha32 => (intro W hW; (try dsimp only at hW); go_simp; try with_reducible rfl)
            simp only [Act.put, List.getElem_toArray, List.getElem_cons_succ, List.getElem_cons_zero, List.setIfInBounds_toArray, List.set_cons_zero, List.set_cons_succ]
            refine wpAnyH_take (i := 33) (v := undef) rfl (by kernel_rfl) (by kernel_rfl) (by kernel_rfl) (fun _ _ _ h => h) (Or.inr ⟨by rfl, rfl⟩) HS0.out ?ra33
            simp only [Act.put, List.getElem_toArray, List.getElem_cons_succ, List.getElem_cons_zero, List.setIfInBounds_toArray, List.set_cons_zero, List.set_cons_succ]
            refine wpAnyH_take (i := 34) (v := undef) rfl (by kernel_rfl) (by kernel_rfl) (by kernel_rfl) (fun _ _ _ h => h) (Or.inr ⟨by rfl, rfl⟩) HS0.out ?ra34
            simp only [Act.put, List.getElem_toArray, List.getElem_cons_succ, List.getElem_cons_zero, List.setIfInBounds_toArray, List.set_cons_zero, List.set_cons_succ]
            refine wpAnyH_take (i := 35) (v := undef) rfl (by kernel_rfl) (by kernel_rfl) (by kernel_rfl) (fun _ _ _ h => h) (Or.inr ⟨by rfl, rfl⟩) HS0.out ?ra35
            simp only [Act.put, List.getElem_toArray, List.getElem_cons_succ, List.getElem_cons_zero, List.setIfInBounds_toArray, List.set_cons_zero, List.set_cons_succ]
            refine wpAnyH_take (i := 36) (v := undef) rfl (by kernel_rfl) (by kernel_rfl) (by kernel_rfl) (fun _ _ _ h => h) (Or.inr ⟨by rfl, rfl⟩) HS0.out ?ra36
            simp only [Act.put, List.getElem_toArray, List.getElem_cons_succ, List.getElem_cons_zero, List.setIfInBounds_toArray, List.set_cons_zero, List.set_cons_succ]
            refine wpAnyH_take (i := 37) (v := ?va37) rfl (by kernel_rfl) (by kernel_rfl) (by kernel_rfl) (fun _ _ _ h => h) (Or.inl ⟨by rfl, ?ha37⟩) HS0.out ?ra37
            case ha37 => (intro W hW; (try dsimp only at hW); go_simp; try with_reducible rfl)
            simp only [Act.put, List.getElem_toArray, List.getElem_cons_succ, List.getElem_cons_zero, List.setIfInBounds_toArray, List.set_cons_zero, List.set_cons_succ]
            refine wpAnyH_take (i := 38) (v := ?va38) rfl (by kernel_rfl) (by kernel_rfl) (by kernel_rfl) (fun _ _ _ h => h) (Or.inl ⟨by rfl, ?ha38⟩) HS0.out ?ra38
            case ha38 => (intro W hW; (try dsimp only at hW); go_simp; try with_reducible rfl)
            simp only [Act.put, List.getElem_toArray, List.getElem_cons_succ, List.getElem_cons_zero, List.setIfInBounds_toArray, List.set_cons_zero, List.set_cons_succ]
            refine wpAnyH_take (i := 39) (v := ?va39) rfl (by kernel_rfl) (by kernel_rfl) (by kernel_rfl) (fun _ _ _ h => h) (Or.inl ⟨by rfl, ?ha39⟩) HS0.out ?ra39
            case ha39 => (intro W hW; (try dsimp only at hW); go_simp; try with_reducible rfl)
            simp only [Act.put, List.getElem_toArray, List.getElem_cons_succ, List.getElem_cons_zero, List.setIfInBounds_toArray, List.set_cons_zero, List.set_cons_succ]
            refine wpAnyH_take (i := 40) (v := ?va40) rfl (by kernel_rfl) (by kernel_rfl) (by kernel_rfl) (fun _ _ _ h => h) (Or.inl ⟨by rfl, ?ha40⟩) HS0.out ?ra40
            case ha40 => (intro W hW; (try dsimp only at hW); go_simp; try with_reducible rfl)
            simp only [Act.put, List.getElem_toArray, List.getElem_cons_succ, List.getElem_cons_zero, List.setIfInBounds_toArray, List.set_cons_zero, List.set_cons_succ]
            refine wpAnyH_take (i := 41) (v := ?va41) rfl (by kernel_rfl) (by kernel_rfl) (by kernel_rfl) (fun _ _ _ h => h) (Or.inl ⟨by rfl, ?ha41⟩) HS0.out ?ra41
            case ha41 => (intro W hW; (try dsimp only at hW); go_simp; try with_reducible rfl)
            simp only [Act.put, List.getElem_toArray, List.getElem_cons_succ, List.getElem_cons_zero, List.setIfInBounds_toArray, List.set_cons_zero, List.set_cons_succ]
            refine wpAnyH_take (i := 42) (v := ?va42) rfl (by kernel_rfl) (by kernel_rfl) (by kernel_rfl) (fun _ _ _ h => h) (Or.inl ⟨by rfl, ?ha42⟩) HS0.out ?ra42
            case ha42 => (intro W hW; (try dsimp only at hW); go_simp; try with_reducible rfl)
            simp only [Act.put, List.getElem_toArray, List.getElem_cons_succ, List.getElem_cons_zero, List.setIfInBounds_toArray, List.set_cons_zero, List.set_cons_succ]
            refine wpAnyH_take (i := 43) (v := undef) rfl (by kernel_rfl) (by kernel_rfl) (by kernel_rfl) (fun _ _ _ h => h) (Or.inr ⟨by rfl, rfl⟩) HS0.out ?ra43
            simp only [Act.put, List.getElem_toArray, List.getElem_cons_succ, List.getElem_cons_zero, List.setIfInBounds_toArray, List.set_cons_zero, List.set_cons_succ]
            refine wpAnyH_take (i := 44) (v := undef) rfl (by kernel_rfl) (by kernel_rfl) (by kernel_rfl) (fun _ _ _ h => h) (Or.inr ⟨by rfl, rfl⟩) HS0.out ?ra44
            simp only [Act.put, List.getElem_toArray, List.getElem_cons_succ, List.getElem_cons_zero, List.setIfInBounds_toArray, List.set_cons_zero, List.set_cons_succ]
            refine wpAnyH_take (i := 45) (v := undef) rfl (by kernel_rfl) (by kernel_rfl) (by kernel_rfl) (fun _ _ _ h => h) (Or.inr ⟨by rfl, rfl⟩) HS0.out ?ra45
            simp only [Act.put, List.getElem_toArray, List.getElem_cons_succ, List.getElem_cons_zero, List.setIfInBounds_toArray, List.set_cons_zero, List.set_cons_succ]
            refine wpAnyH_take (i := 46) (v := undef) rfl (by kernel_rfl) (by kernel_rfl) (by kernel_rfl) (fun _ _ _ h => h) (Or.inr ⟨by rfl, rfl⟩) HS0.out ?ra46
            simp only [Act.put, List.getElem_toArray, List.getElem_cons_succ, List.getElem_cons_zero, List.setIfInBounds_toArray, List.set_cons_zero, List.set_cons_succ]
            refine wpAnyH_take (i := 47) (v := undef) rfl (by kernel_rfl) (by kernel_rfl) (by kernel_rfl) (fun _ _ _ h => h) (Or.inr ⟨by rfl, rfl⟩) HS0.out ?ra47
            simp only [Act.put, List.getElem_toArray, List.getElem_cons_succ, List.getElem_cons_zero, List.setIfInBounds_toArray, List.set_cons_zero, List.set_cons_succ]
            refine wpAnyH_take (i := 48) (v := ?va48) rfl (by kernel_rfl) (by kernel_rfl) (by kernel_rfl) (fun _ _ _ h => h) (Or.inl ⟨by rfl, ?ha48⟩) HS0.out ?ra48
            case ha48 => (intro W hW; (try dsimp only at hW); go_simp; try with_reducible rfl)
            simp only [Act.put, List.getElem_toArray, List.getElem_cons_succ, List.getElem_cons_zero, List.setIfInBounds_toArray, List.set_cons_zero, List.set_cons_succ]
            refine wpAnyH_take (i := 49) (v := ?va49) rfl (by kernel_rfl) (by kernel_rfl) (by kernel_rfl) (fun _ _ _ h => h) (Or.inl ⟨by rfl, ?ha49⟩) HS0.out ?ra49
            case ha49 => (intro W hW; (try dsimp only at hW); go_simp; try with_reducible rfl)
            simp only [Act.put, List.getElem_toArray, List.getElem_cons_succ, List.getElem_cons_zero, List.setIfInBounds_toArray, List.set_cons_zero, List.set_cons_succ]
            refine wpAnyH_take (i := 50) (v := undef) rfl (by kernel_rfl) (by kernel_rfl) (by kernel_rfl) (fun _ _ _ h => h) (Or.inr ⟨by rfl, rfl⟩) HS0.out ?ra50
            simp only [Act.put, List.getElem_toArray, List.getElem_cons_succ, List.getElem_cons_zero, List.setIfInBounds_toArray, List.set_cons_zero, List.set_cons_succ]
            refine wpAnyH_take (i := 51) (v := undef) rfl (by kernel_rfl) (by kernel_rfl) (by kernel_rfl) (fun _ _ _ h => h) (Or.inr ⟨by rfl, rfl⟩) HS0.out ?ra51
            simp only [Act.put, List.getElem_toArray, List.getElem_cons_succ, List.getElem_cons_zero, List.setIfInBounds_toArray, List.set_cons_zero, List.set_cons_succ]
            refine wpAnyH_take (i := 52) (v := undef) rfl (by kernel_rfl) (by kernel_rfl) (by kernel_rfl) (fun _ _ _ h => h) (Or.inr ⟨by rfl, rfl⟩) HS0.out ?ra52
            simp only [Act.put, List.getElem_toArray, List.getElem_cons_succ, List.getElem_cons_zero, List.setIfInBounds_toArray, List.set_cons_zero, List.set_cons_succ]
            refine wpAnyH_take (i := 53) (v := undef) rfl (by kernel_rfl) (by kernel_rfl) (by kernel_rfl) (fun _ _ _ h => h) (Or.inr ⟨by rfl, rfl⟩) HS0.out ?ra53
            simp only [Act.put, List.getElem_toArray, List.getElem_cons_succ, List.getElem_cons_zero, List.setIfInBounds_toArray, List.set_cons_zero, List.set_cons_succ]
            refine wpAnyH_take (i := 54) (v := undef) rfl (by kernel_rfl) (by kernel_rfl) (by kernel_rfl) (fun _ _ _ h => h) (Or.inr ⟨by rfl, rfl⟩) HS0.out ?ra54
            simp only [Act.put, List.getElem_toArray, List.getElem_cons_succ, List.getElem_cons_zero, List.setIfInBounds_toArray, List.set_cons_zero, List.set_cons_succ]
            refine wpAnyH_take (i := 55) (v := ?va55) rfl (by kernel_rfl) (by kernel_rfl) (by kernel_rfl) (fun _ _ _ h => h) (Or.inl ⟨by rfl, ?ha55⟩) HS0.out ?ra55
            case ha55 => (intro W hW; (try dsimp only at hW); go_simp; try with_reducible rfl)
            simp only [Act.put, List.getElem_toArray, List.getElem_cons_succ, List.getElem_cons_zero, List.setIfInBounds_toArray, List.set_cons_zero, List.set_cons_succ]
            refine wpAnyH_take (i := 56) (v := ?va56) rfl (by kernel_rfl) (by kernel_rfl) (by kernel_rfl) (fun _ _ _ h => h) (Or.inl ⟨by rfl, ?ha56⟩) HS0.out ?ra56
            case ha56 => (intro W hW; (try dsimp only at hW); go_simp; try with_reducible rfl)
            simp only [Act.put, List.getElem_toArray, List.getElem_cons_succ, List.getElem_cons_zero, List.setIfInBounds_toArray, List.set_cons_zero, List.set_cons_succ]
            obtain ⟨o1, f1⟩ := HO0.out
            refine wpAnyH_ready (rs := [57]) (by kernel_rfl) (by simp) ?_
            refine AllReadyH.cons rfl (fun K hK => ?_) AllReadyH.nil
            go_simp
            have HE1 := Lib.hid (HR0.out.set1 HG.out j vu).drew
            have HS1 := Lib.hid (HSF.out _ HE1.out.2.2.2)
            have HO1 : Hid (((wr.setCell ⟨g1, j, none⟩ (.bool vu)).drew).cell? ⟨g2, j, none⟩ = some (.bool false) ∧ ((wr.setCell ⟨g1, j, none⟩ (.bool vu)).drew).frozen? ⟨g2, j, none⟩ = false) := Lib.hid ⟨by rw [HE1.out.2.1.at_ hlt6]; simp, HE1.out.2.1.frozen j⟩
            obtain ⟨e1, he1⟩ : ∃ e1, e1 = (wr.setCell ⟨g1, j, none⟩ (.bool vu)).drew := ⟨_, rfl⟩
            rw [← he1] at HE1 HS1 HO1 ⊢
            clear he1 o1 f1
            refine hK.out _ _ HS1.out (fun _ => ?_)
            clear hK K
            refine wpAnyH_take (i := 58) (v := ?va58) rfl (by kernel_rfl) (by kernel_rfl) (by kernel_rfl) (fun _ _ _ h => h) (Or.inl ⟨by rfl, ?ha58⟩) HS1.out ?ra58
            case ha58 => (intro W hW; (try dsimp only at hW); go_simp; try with_reducible rfl)
            simp only [Act.put, List.getElem_toArray, List.getElem_cons_succ, List.getElem_cons_zero, List.setIfInBounds_toArray, List.set_cons_zero, List.set_cons_succ]
            obtain ⟨o1, f1⟩ := HO1.out
            refine wpAnyH_ready (rs := [59]) (by kernel_rfl) (by simp) ?_
            refine AllReadyH.cons rfl (fun K hK => ?_) AllReadyH.nil
            go_simp
            have HE2 := Lib.hid (HE1.out.set2 HG.out j false)
            have HS2 := Lib.hid (HSF.out _ HE2.out.2.2.2)
            have HO2 : Hid ((e1.setCell ⟨g2, j, none⟩ (.bool false)).cell? ⟨g3, j, none⟩ = some (.bool false) ∧ (e1.setCell ⟨g2, j, none⟩ (.bool false)).frozen? ⟨g3, j, none⟩ = false) := Lib.hid ⟨by rw [HE2.out.2.2.1.at_ hlt6]; simp, HE2.out.2.2.1.frozen j⟩
            obtain ⟨e2, he2⟩ : ∃ e2, e2 = e1.setCell ⟨g2, j, none⟩ (.bool false) := ⟨_, rfl⟩
            rw [← he2] at HE2 HS2 HO2 ⊢
            clear he2 o1 f1
            refine hK.out _ _ HS2.out (fun _ => ?_)
            clear hK K
            refine wpAnyH_take (i := 60) (v := ?va60) rfl (by kernel_rfl) (by kernel_rfl) (by kernel_rfl) (fun _ _ _ h => h) (Or.inl ⟨by rfl, ?ha60⟩) HS2.out ?ra60
            case ha60 => (intro W hW; (try dsimp only at hW); go_simp; try with_reducible rfl)
            simp only [Act.put, List.getElem_toArray, List.getElem_cons_succ, List.getElem_cons_zero, List.setIfInBounds_toArray, List.set_cons_zero, List.set_cons_succ]
            obtain ⟨o1, f1⟩ := HO2.out
            refine wpAnyH_ready (rs := [61]) (by kernel_rfl) (by simp) ?_
            refine AllReadyH.cons rfl (fun K hK => ?_) AllReadyH.nil
            go_simp
            have HE3 := Lib.hid (HE2.out.set3 HG.out j false)
            have HS3 := Lib.hid (HSF.out _ HE3.out.2.2.2)
            obtain ⟨e3, he3⟩ : ∃ e3, e3 = e2.setCell ⟨g3, j, none⟩ (.bool false) := ⟨_, rfl⟩
            rw [← he3] at HE3 HS3 ⊢
            clear he3 o1 f1
            refine hK.out _ _ HS3.out (fun _ => ?_)
            clear hK K
            refine wpAnyH_done (by kernel_rfl) ?_ _
            refine NoPanic.normal ?_
            go_wp2_with fail
            go_meet
            exact ⟨rfl, Lib.hid (HE3.out.fin (by rw [← HVP.out.1, ← HVP.out.2.1, ← HVP.out.2.2]; cases vu <;> rfl) (by rw [← HVP.out.1, ← HVP.out.2.1, ← HVP.out.2.2]; cases vu <;> rfl) (by rw [← HVP.out.1, ← HVP.out.2.1, ← HVP.out.2.2]; cases vu <;> rfl))⟩
          ·
            as_aux_lemma =>
            refine wp_region_noPanic ?_
            refine wp_region_held_drew (S := fun W => W.cell? ⟨bp, 0, none⟩ = some (.slice (some ⟨gp, 0, none⟩) 601 601) ∧ W.cell? ⟨gp, j, none⟩ = some (.bool false) ∧ W.cell? ⟨gq, j, none⟩ = some (.bool true) ∧ W.cell? ⟨go, j, none⟩ = some (.bool vu)) (by kernel_rfl) HS0.out (fun _ => ?_)
            refine wpAnyH_take (i := 0) (v := ?vb0) rfl (by kernel_rfl) (by kernel_rfl) (by kernel_rfl) (fun _ _ _ h => h) (Or.inl ⟨by rfl, ?hb0⟩) HS0.out ?rb0
            case hb0 => (intro W hW; (try dsimp only at hW); go_simp; try with_reducible rfl)
            simp only [Act.put, List.getElem_toArray, List.getElem_cons_succ, List.getElem_cons_zero, List.setIfInBounds_toArray, List.set_cons_zero, List.set_cons_succ]
            refine wpAnyH_take (i := 1) (v := ?vb1) rfl (by kernel_rfl) (by kernel_rfl) (by kernel_rfl) (fun _ _ _ h => h) (Or.inl ⟨by rfl, ?hb1⟩) HS0.out ?rb1
            case hb1 => (intro W hW; (try dsimp only at hW); go_simp; try with_reducible rfl)
            simp only [Act.put, List.getElem_toArray, List.getElem_cons_succ, List.getElem_cons_zero, List.setIfInBounds_toArray, List.set_cons_zero, List.set_cons_succ]
            refine wpAnyH_take (i := 2) (v := ?vb2) rfl (by kernel_rfl) (by kernel_rfl) (by kernel_rfl) (fun _ _ _ h => h) (Or.inl ⟨by rfl, ?hb2⟩) HS0.out ?rb2
            case hb2 => (intro W hW; (try dsimp only at hW); go_simp; try with_reducible rfl)
            simp only [Act.put, List.getElem_toArray, List.getElem_cons_succ, List.getElem_cons_zero, List.setIfInBounds_toArray, List.set_cons_zero, List.set_cons_succ]
            refine wpAnyH_take (i := 3) (v := ?vb3) rfl (by kernel_rfl) (by kernel_rfl) (by kernel_rfl) (fun _ _ _ h => h) (Or.inl ⟨by rfl, ?hb3⟩) HS0.out ?rb3
            case hb3 => (intro W hW; (try dsimp only at hW); go_simp; try with_reducible rfl)
            simp only [Act.put, List.getElem_toArray, List.getElem_cons_succ, List.getElem_cons_zero, List.setIfInBounds_toArray, List.set_cons_zero, List.set_cons_succ]
            refine wpAnyH_take (i := 4) (v := ?vb4) rfl (by kernel_rfl) (by kernel_rfl) (by kernel_rfl) (fun _ _ _ h => h) (Or.inl ⟨by rfl, ?hb4⟩) HS0.out ?rb4
            case hb4 => (intro W hW; (try dsimp only at hW); go_simp; try with_reducible rfl)
            simp only [Act.put, List.getElem_toArray, List.getElem_cons_succ, List.getElem_cons_zero, List.setIfInBounds_toArray, List.set_cons_zero, List.set_cons_succ]
            refine wpAnyH_take (i := 5) (v := ?vb5) rfl (by kernel_rfl) (by kernel_rfl) (by kernel_rfl) (fun _ _ _ h => h) (Or.inl ⟨by rfl, ?hb5⟩) HS0.out ?rb5
            case hb5 => (intro W hW; (try dsimp only at hW); go_simp; try with_reducible rfl)
            simp only [Act.put, List.getElem_toArray, List.getElem_cons_succ, List.getElem_cons_zero, List.setIfInBounds_toArray, List.set_cons_zero, List.set_cons_succ]
            refine wpAnyH_take (i := 6) (v := ?vb6) rfl (by kernel_rfl) (by kernel_rfl) (by kernel_rfl) (fun _ _ _ h => h) (Or.inl ⟨by rfl, ?hb6⟩) HS0.out ?rb6
            case hb6 => (intro W hW; (try dsimp only at hW); go_simp; try with_reducible rfl)
            simp only [Act.put, List.getElem_toArray, List.getElem_cons_succ, List.getElem_cons_zero, List.setIfInBounds_toArray, List.set_cons_zero, List.set_cons_succ]
            refine wpAnyH_take (i := 7) (v := ?vb7) rfl (by kernel_rfl) (by kernel_rfl) (by kernel_rfl) (fun _ _ _ h => h) (Or.inl ⟨by rfl, ?hb7⟩) HS0.out ?rb7
            case hb7 => (intro W hW; (try dsimp only at hW); go_simp; try with_reducible rfl)
            simp only [Act.put, List.getElem_toArray, List.getElem_cons_succ, List.getElem_cons_zero, List.setIfInBounds_toArray, List.set_cons_zero, List.set_cons_succ]
            refine wpAnyH_take (i := 8) (v := ?vb8) rfl (by kernel_rfl) (by kernel_rfl) (by kernel_rfl) (fun _ _ _ h => h) (Or.inl ⟨by rfl, ?hb8⟩) HS0.out ?rb8
            case hb8 => (intro W hW; (try dsimp only at hW); go_simp; try with_reducible rfl)
            simp only [Act.put, List.getElem_toArray, List.getElem_cons_succ, List.getElem_cons_zero, List.setIfInBounds_toArray, List.set_cons_zero, List.set_cons_succ]
            refine wpAnyH_take (i := 9) (v := ?vb9) rfl (by kernel_rfl) (by kernel_rfl) (by kernel_rfl) (fun _ _ _ h => h) (Or.inl ⟨by rfl, ?hb9⟩) HS0.out ?rb9
            case hb9 => (intro W hW; (try dsimp only at hW); go_simp; try with_reducible rfl)
            simp only [Act.put, List.getElem_toArray, List.getElem_cons_succ, List.getElem_cons_zero, List.setIfInBounds_toArray, List.set_cons_zero, List.set_cons_succ]
            refine wpAnyH_take (i := 10) (v := ?vb10) rfl (by kernel_rfl) (by kernel_rfl) (by kernel_rfl) (fun _ _ _ h => h) (Or.inl ⟨by rfl, ?hb10⟩) HS0.out ?rb10
            case hb10 => (intro W hW; (try dsimp only at hW); go_simp; try with_reducible rfl)
            simp only [Act.put, List.getElem_toArray, List.getElem_cons_succ, List.getElem_cons_zero, List.setIfInBounds_toArray, List.set_cons_zero, List.set_cons_succ]
            refine wpAnyH_take (i := 11) (v := ?vb11) rfl (by kernel_rfl) (by kernel_rfl) (by kernel_rfl) (fun _ _ _ h => h) (Or.inl ⟨by rfl, ?hb11⟩) HS0.out ?rb11
            case hb11 => (intro W hW; (try dsimp only at hW); go_simp; try with_reducible rfl)
            simp only [Act.put, List.getElem_toArray, List.getElem_cons_succ, List.getElem_cons_zero, List.setIfInBounds_toArray, List.set_cons_zero, List.set_cons_succ]
            refine wpAnyH_take (i := 12) (v := ?vb12) rfl (by kernel_rfl) (by kernel_rfl) (by kernel_rfl) (fun _ _ _ h => h) (Or.inl ⟨by rfl, ?hb12⟩) HS0.out ?rb12
            case hb12 => (intro W hW; (try dsimp only at hW); go_simp; try with_reducible rfl)
            simp only [Act.put, List.getElem_toArray, List.getElem_cons_succ, List.getElem_cons_zero, List.setIfInBounds_toArray, List.set_cons_zero, List.set_cons_succ]
            refine wpAnyH_take (i := 13) (v := ?vb13) rfl (by kernel_rfl) (by kernel_rfl) (by kernel_rfl) (fun _ _ _ h => h) (Or.inl ⟨by rfl, ?hb13⟩) HS0.out ?rb13
            case hb13 => (intro W hW; (try dsimp only at hW); go_simp; try with_reducible rfl)
            simp only [Act.put, List.getElem_toArray, List.getElem_cons_succ, List.getElem_cons_zero, List.setIfInBounds_toArray, List.set_cons_zero, List.set_cons_succ]
            refine wpAnyH_take (i := 14) (v := ?vb14) rfl (by kernel_rfl) (by kernel_rfl) (by kernel_rfl) (fun _ _ _ h => h) (Or.inl ⟨by rfl, ?hb14⟩) HS0.out ?rb14
            case hb14 => (intro W hW; (try dsimp only at hW); go_simp; try with_reducible rfl)
            simp only [Act.put, List.getElem_toArray, List.getElem_cons_succ, List.getElem_cons_zero, List.setIfInBounds_toArray, List.set_cons_zero, List.set_cons_succ]
            refine wpAnyH_take (i := 15) (v := ?vb15) rfl (by kernel_rfl) (by kernel_rfl) (by kernel_rfl) (fun _ _ _ h => h) (Or.inl ⟨by rfl, ?hb15⟩) HS0.out ?rb15
            case hb15 => (intro W hW; (try dsimp only at hW); go_simp; try with_reducible rfl)
            simp only [Act.put, List.getElem_toArray, List.getElem_cons_succ, List.getElem_cons_zero, List.setIfInBounds_toArray, List.set_cons_zero, List.set_cons_succ]
            refine wpAnyH_take (i := 16) (v := ?vb16) rfl (by kernel_rfl) (by kernel_rfl) (by kernel_rfl) (fun _ _ _ h => h) (Or.inl ⟨by rfl, ?hb16⟩) HS0.out ?rb16
            case hb16 => (intro W hW; (try dsimp only at hW); go_simp; try with_reducible rfl)
            simp only [Act.put, List.getElem_toArray, List.getElem_cons_succ, List.getElem_cons_zero, List.setIfInBounds_toArray, List.set_cons_zero, List.set_cons_succ]
            refine wpAnyH_take (i := 17) (v := undef) rfl (by kernel_rfl) (by kernel_rfl) (by kernel_rfl) (fun _ _ _ h => h) (Or.inr ⟨by rfl, rfl⟩) HS0.out ?rb17
            simp only [Act.put, List.getElem_toArray, List.getElem_cons_succ, List.getElem_cons_zero, List.setIfInBounds_toArray, List.set_cons_zero, List.set_cons_succ]
            refine wpAnyH_take (i := 18) (v := undef) rfl (by kernel_rfl) (by kernel_rfl) (by kernel_rfl) (fun _ _ _ h => h) (Or.inr ⟨by rfl, rfl⟩) HS0.out ?rb18
            simp only [Act.put, List.getElem_toArray, List.getElem_cons_succ, List.getElem_cons_zero, List.setIfInBounds_toArray, List.set_cons_zero, List.set_cons_succ]
            refine wpAnyH_take (i := 19) (v := undef) rfl (by kernel_rfl) (by kernel_rfl) (by kernel_rfl) (fun _ _ _ h => h) (Or.inr ⟨by rfl, rfl⟩) HS0.out ?rb19
            simp only [Act.put, List.getElem_toArray, List.getElem_cons_succ, List.getElem_cons_zero, List.setIfInBounds_toArray, List.set_cons_zero, List.set_cons_succ]
            refine wpAnyH_take (i := 20) (v := undef) rfl (by kernel_rfl) (by kernel_rfl) (by kernel_rfl) (fun _ _ _ h => h) (Or.inr ⟨by rfl, rfl⟩) HS0.out ?rb20
            simp only [Act.put, List.getElem_toArray, List.getElem_cons_succ, List.getElem_cons_zero, List.setIfInBounds_toArray, List.set_cons_zero, List.set_cons_succ]
            refine wpAnyH_take (i := 21) (v := ?vb21) rfl (by kernel_rfl) (by kernel_rfl) (by kernel_rfl) (fun _ _ _ h => h) (Or.inl ⟨by rfl, ?hb21⟩) HS0.out ?rb21
            case hb21 => (intro W hW; (try dsimp only at hW); go_simp; try with_reducible rfl)
            simp only [Act.put, List.getElem_toArray, List.getElem_cons_succ, List.getElem_cons_zero, List.setIfInBounds_toArray, List.set_cons_zero, List.set_cons_succ]
            refine wpAnyH_take (i := 22) (v := ?vb22) rfl (by kernel_rfl) (by kernel_rfl) (by kernel_rfl) (fun _ _ _ h => h) (Or.inl ⟨by rfl, ?hb22⟩) HS0.out ?rb22
            case hb22 => (intro W hW; (try dsimp only at hW); go_simp; try with_reducible rfl)
            simp only [Act.put, List.getElem_toArray, List.getElem_cons_succ, List.getElem_cons_zero, List.setIfInBounds_toArray, List.set_cons_zero, List.set_cons_succ]
            refine wpAnyH_take (i := 23) (v := ?vb23) rfl (by kernel_rfl) (by kernel_rfl) (by kernel_rfl) (fun _ _ _ h => h) (Or.inl ⟨by rfl, ?hb23⟩) HS0.out ?rb23
            case hb23 => (intro W hW; (try dsimp only at hW); go_simp; try with_reducible rfl)
            simp only [Act.put, List.getElem_toArray, List.getElem_cons_succ, List.getElem_cons_zero, List.setIfInBounds_toArray, List.set_cons_zero, List.set_cons_succ]
            refine wpAnyH_take (i := 24) (v := ?vb24) rfl (by kernel_rfl) (by kernel_rfl) (by kernel_rfl) (fun _ _ _ h => h) (Or.inl ⟨by rfl, ?hb24⟩) HS0.out ?rb24
            case hb24 => (intro W hW; (try dsimp only at hW); go_simp; try with_reducible rfl)
            simp only [Act.put, List.getElem_toArray, List.getElem_cons_succ, List.getElem_cons_zero, List.setIfInBounds_toArray, List.set_cons_zero, List.set_cons_succ]
            refine wpAnyH_take (i := 25) (v := ?vb25) rfl (by kernel_rfl) (by kernel_rfl) (by kernel_rfl) (fun _ _ _ h => h) (Or.inl ⟨by rfl, ?hb25⟩) HS0.out ?rb25
            case hb25 => (intro W hW; (try dsimp only at hW); go_simp; try with_reducible rfl)
            simp only [Act.put, List.getElem_toArray, List.getElem_cons_succ, List.getElem_cons_zero, List.setIfInBounds_toArray, List.set_cons_zero, List.set_cons_succ]
            refine wpAnyH_take (i := 26) (v := ?vb26) rfl (by kernel_rfl) (by kernel_rfl) (by kernel_rfl) (fun _ _ _ h => h) (Or.inl ⟨by rfl, ?hb26⟩) HS0.out ?rb26
            case hb26 => (intro W hW; (try dsimp only at hW); go_simp; try with_reducible rfl)
            simp only [Act.put, List.getElem_toArray, List.getElem_cons_succ, List.getElem_cons_zero, List.setIfInBounds_toArray, List.set_cons_zero, List.set_cons_succ]
            refine wpAnyH_take (i := 27) (v := undef) rfl (by kernel_rfl) (by kernel_rfl) (by kernel_rfl) (fun _ _ _ h => h) (Or.inr ⟨by rfl, rfl⟩) HS0.out ?rb27
            simp only [Act.put, List.getElem_toArray, List.getElem_cons_succ, List.getElem_cons_zero, List.setIfInBounds_toArray, List.set_cons_zero, List.set_cons_succ]
            refine wpAnyH_take (i := 28) (v := undef) rfl (by kernel_rfl) (by kernel_rfl) (by kernel_rfl) (fun _ _ _ h => h) (Or.inr ⟨by rfl, rfl⟩) HS0.out ?rb28
            simp only [Act.put, List.getElem_toArray, List.getElem_cons_succ, List.getElem_cons_zero, List.setIfInBounds_toArray, List.set_cons_zero, List.set_cons_succ]
            refine wpAnyH_take (i := 29) (v := undef) rfl (by kernel_rfl) (by kernel_rfl) (by kernel_rfl) (fun _ _ _ h => h) (Or.inr ⟨by rfl, rfl⟩) HS0.out ?rb29
            simp only [Act.put, List.getElem_toArray, List.getElem_cons_succ, List.getElem_cons_zero, List.setIfInBounds_toArray, List.set_cons_zero, List.set_cons_succ]
            refine wpAnyH_take (i := 30) (v := undef) rfl (by kernel_rfl) (by kernel_rfl) (by kernel_rfl) (fun _ _ _ h => h) (Or.inr ⟨by rfl, rfl⟩) HS0.out ?rb30
            simp only [Act.put, List.getElem_toArray, List.getElem_cons_succ, List.getElem_cons_zero, List.setIfInBounds_toArray, List.set_cons_zero, List.set_cons_succ]
            refine wpAnyH_take (i := 31) (v := ?vb31) rfl (by kernel_rfl) (by kernel_rfl) (by kernel_rfl) (fun _ _ _ h => h) (Or.inl ⟨by rfl, ?hb31⟩) HS0.out ?rb31
            case hb31 => (intro W hW; (try dsimp only at hW); go_simp; try with_reducible rfl)
            simp only [Act.put, List.getElem_toArray, List.getElem_cons_succ, List.getElem_cons_zero, List.setIfInBounds_toArray, List.set_cons_zero, List.set_cons_succ]
            refine wpAnyH_take (i := 32) (v := ?vb32) rfl (by kernel_rfl) (by kernel_rfl) (by kernel_rfl) (fun _ _ _ h => h) (Or.inl ⟨by rfl, ?hb32⟩) HS0.out ?rb32
            case hb32 => (intro W hW; (try dsimp only at hW); go_simp; try with_reducible rfl)
            simp only [Act.put, List.getElem_toArray, List.getElem_cons_succ, List.getElem_cons_zero, List.setIfInBounds_toArray, List.set_cons_zero, List.set_cons_succ]
            refine wpAnyH_take (i := 33) (v := undef) rfl (by kernel_rfl) (by kernel_rfl) (by kernel_rfl) (fun _ _ _ h => h) (Or.inr ⟨by rfl, rfl⟩) HS0.out ?rb33
            simp only [Act.put, List.getElem_toArray, List.getElem_cons_succ, List.getElem_cons_zero, List.setIfInBounds_toArray, List.set_cons_zero, List.set_cons_succ]
            refine wpAnyH_take (i := 34) (v := undef) rfl (by kernel_rfl) (by kernel_rfl) (by kernel_rfl) (fun _ _ _ h => h) (Or.inr ⟨by rfl, rfl⟩) HS0.out ?rb34
            simp only [Act.put, List.getElem_toArray, List.getElem_cons_succ, List.getElem_cons_zero, List.setIfInBounds_toArray, List.set_cons_zero, List.set_cons_succ]
            refine wpAnyH_take (i := 35) (v := undef) rfl (by kernel_rfl) (by kernel_rfl) (by kernel_rfl) (fun _ _ _ h => h) (Or.inr ⟨by rfl, rfl⟩) HS0.out ?rb35
            simp only [Act.put, List.getElem_toArray, List.getElem_cons_succ, List.getElem_cons_zero, List.setIfInBounds_toArray, List.set_cons_zero, List.set_cons_succ]
            refine wpAnyH_take (i := 36) (v := undef) rfl (by kernel_rfl) (by kernel_rfl) (by kernel_rfl) (fun _ _ _ h => h) (Or.inr ⟨by rfl, rfl⟩) HS0.out ?rb36
            simp only [Act.put, List.getElem_toArray, List.getElem_cons_succ, List.getElem_cons_zero, List.setIfInBounds_toArray, List.set_cons_zero, List.set_cons_succ]
            refine wpAnyH_take (i := 37) (v := ?vb37) rfl (by kernel_rfl) (by kernel_rfl) (by kernel_rfl) (fun _ _ _ h => h) (Or.inl ⟨by rfl, ?hb37⟩) HS0.out ?rb37
            case hb37 => (intro W hW; (try dsimp only at hW); go_simp; try with_reducible rfl)
            simp only [Act.put, List.getElem_toArray, List.getElem_cons_succ, List.getElem_cons_zero, List.setIfInBounds_toArray, List.set_cons_zero, List.set_cons_succ]
            refine wpAnyH_take (i := 38) (v := ?vb38) rfl (by kernel_rfl) (by kernel_rfl) (by kernel_rfl) (fun _ _ _ h => h) (Or.inl ⟨by rfl, ?hb38⟩) HS0.out ?rb38
            case hb38 => (intro W hW; (try dsimp only at hW); go_simp; try with_reducible rfl)
            simp only [Act.put, List.getElem_toArray, List.getElem_cons_succ, List.getElem_cons_zero, List.setIfInBounds_toArray, List.set_cons_zero, List.set_cons_succ]
            refine wpAnyH_take (i := 39) (v := ?vb39) rfl (by kernel_rfl) (by kernel_rfl) (by kernel_rfl) (fun _ _ _ h => h) (Or.inl ⟨by rfl, ?hb39⟩) HS0.out ?rb39
            case hb39 => (intro W hW; (try dsimp only at hW); go_simp; try with_reducible rfl)
            simp only [Act.put, List.getElem_toArray, List.getElem_cons_succ, List.getElem_cons_zero, List.setIfInBounds_toArray, List.set_cons_zero, List.set_cons_succ]
            refine wpAnyH_take (i := 40) (v := ?vb40) rfl (by kernel_rfl) (by kernel_rfl) (by kernel_rfl) (fun _ _ _ h => h) (Or.inl ⟨by rfl, ?hb40⟩) HS0.out ?rb40
            case hb40 => (intro W hW; (try dsimp only at hW); go_simp; try with_reducible rfl)
            simp only [Act.put, List.getElem_toArray, List.getElem_cons_succ, List.getElem_cons_zero, List.setIfInBounds_toArray, List.set_cons_zero, List.set_cons_succ]
            refine wpAnyH_take (i := 41) (v := ?vb41) rfl (by kernel_rfl) (by kernel_rfl) (by kernel_rfl) (fun _ _ _ h => h) (Or.inl ⟨by rfl, ?hb41⟩) HS0.out ?rb41
            case hb41 => (intro W hW; (try dsimp only at hW); go_simp; try with_reducible rfl)
            simp only [Act.put, List.getElem_toArray, List.getElem_cons_succ, List.getElem_cons_zero, List.setIfInBounds_toArray, List.set_cons_zero, List.set_cons_succ]
            refine wpAnyH_take (i := 42) (v := ?vb42) rfl (by kernel_rfl) (by kernel_rfl) (by kernel_rfl) (fun _ _ _ h => h) (Or.inl ⟨by rfl, ?hb42⟩) HS0.out ?rb42
            case hb42 => (intro W hW; (try dsimp only at hW); go_simp; try with_reducible rfl)
            simp only [Act.put, List.getElem_toArray, List.getElem_cons_succ, List.getElem_cons_zero, List.setIfInBounds_toArray, List.set_cons_zero, List.set_cons_succ]
            refine wpAnyH_take (i := 43) (v := undef) rfl (by kernel_rfl) (by kernel_rfl) (by kernel_rfl) (fun _ _ _ h => h) (Or.inr ⟨by rfl, rfl⟩) HS0.out ?rb43
            simp only [Act.put, List.getElem_toArray, List.getElem_cons_succ, List.getElem_cons_zero, List.setIfInBounds_toArray, List.set_cons_zero, List.set_cons_succ]
            refine wpAnyH_take (i := 44) (v := undef) rfl (by kernel_rfl) (by kernel_rfl) (by kernel_rfl) (fun _ _ _ h => h) (Or.inr ⟨by rfl, rfl⟩) HS0.out ?rb44
            simp only [Act.put, List.getElem_toArray, List.getElem_cons_succ, List.getElem_cons_zero, List.setIfInBounds_toArray, List.set_cons_zero, List.set_cons_succ]
            refine wpAnyH_take (i := 45) (v := undef) rfl (by kernel_rfl) (by kernel_rfl) (by kernel_rfl) (fun _ _ _ h => h) (Or.inr ⟨by rfl, rfl⟩) HS0.out ?rb45
            simp only [Act.put, List.getElem_toArray, List.getElem_cons_succ, List.getElem_cons_zero, List.setIfInBounds_toArray, List.set_cons_zero, List.set_cons_succ]
            refine wpAnyH_take (i := 46) (v := undef) rfl (by kernel_rfl) (by kernel_rfl) (by kernel_rfl) (fun _ _ _ h => h) (Or.inr ⟨by rfl, rfl⟩) HS0.out ?rb46
            simp only [Act.put, List.getElem_toArray, List.getElem_cons_succ, List.getElem_cons_zero, List.setIfInBounds_toArray, List.set_cons_zero, List.set_cons_succ]
            refine wpAnyH_take (i := 47) (v := undef) rfl (by kernel_rfl) (by kernel_rfl) (by kernel_rfl) (fun _ _ _ h => h) (Or.inr ⟨by rfl, rfl⟩) HS0.out ?rb47
            simp only [Act.put, List.getElem_toArray, List.getElem_cons_succ, List.getElem_cons_zero, List.setIfInBounds_toArray, List.set_cons_zero, List.set_cons_succ]
            refine wpAnyH_take (i := 48) (v := ?vb48) rfl (by kernel_rfl) (by kernel_rfl) (by kernel_rfl) (fun _ _ _ h => h) (Or.inl ⟨by rfl, ?hb48⟩) HS0.out ?rb48
            case hb48 => (intro W hW; (try dsimp only at hW); go_simp; try with_reducible rfl)
            simp only [Act.put, List.getElem_toArray, List.getElem_cons_succ, List.getElem_cons_zero, List.setIfInBounds_toArray, List.set_cons_zero, List.set_cons_succ]
            refine wpAnyH_take (i := 49) (v := ?vb49) rfl (by kernel_rfl) (by kernel_rfl) (by kernel_rfl) (fun _ _ _ h => h) (Or.inl ⟨by rfl, ?hb49⟩) HS0.out ?rb49
            case hb49 => (intro W hW; (try dsimp only at hW); go_simp; try with_reducible rfl)
            simp only [Act.put, List.getElem_toArray, List.getElem_cons_succ, List.getElem_cons_zero, List.setIfInBounds_toArray, List.set_cons_zero, List.set_cons_succ]
            refine wpAnyH_take (i := 50) (v := undef) rfl (by kernel_rfl) (by kernel_rfl) (by kernel_rfl) (fun _ _ _ h => h) (Or.inr ⟨by rfl, rfl⟩) HS0.out ?rb50
            simp only [Act.put, List.getElem_toArray, List.getElem_cons_succ, List.getElem_cons_zero, List.setIfInBounds_toArray, List.set_cons_zero, List.set_cons_succ]
            refine wpAnyH_take (i := 51) (v := undef) rfl (by kernel_rfl) (by kernel_rfl) (by kernel_rfl) (fun _ _ _ h => h) (Or.inr ⟨by rfl, rfl⟩) HS0.out ?rb51
            simp only [Act.put, List.getElem_toArray, List.getElem_cons_succ, List.getElem_cons_zero, List.setIfInBounds_toArray, List.set_cons_zero, List.set_cons_succ]
            refine wpAnyH_take (i := 52) (v := undef) rfl (by kernel_rfl) (by kernel_rfl) (by kernel_rfl) (fun _ _ _ h => h) (Or.inr ⟨by rfl, rfl⟩) HS0.out ?rb52
            simp only [Act.put, List.getElem_toArray, List.getElem_cons_succ, List.getElem_cons_zero, List.setIfInBounds_toArray, List.set_cons_zero, List.set_cons_succ]
            refine wpAnyH_take (i := 53) (v := undef) rfl (by kernel_rfl) (by kernel_rfl) (by kernel_rfl) (fun _ _ _ h => h) (Or.inr ⟨by rfl, rfl⟩) HS0.out ?rb53
            simp only [Act.put, List.getElem_toArray, List.getElem_cons_succ, List.getElem_cons_zero, List.setIfInBounds_toArray, List.set_cons_zero, List.set_cons_succ]
            refine wpAnyH_take (i := 54) (v := undef) rfl (by kernel_rfl) (by kernel_rfl) (by kernel_rfl) (fun _ _ _ h => h) (Or.inr ⟨by rfl, rfl⟩) HS0.out ?rb54
            simp only [Act.put, List.getElem_toArray, List.getElem_cons_succ, List.getElem_cons_zero, List.setIfInBounds_toArray, List.set_cons_zero, List.set_cons_succ]
            refine wpAnyH_take (i := 55) (v := ?vb55) rfl (by kernel_rfl) (by kernel_rfl) (by kernel_rfl) (fun _ _ _ h => h) (Or.inl ⟨by rfl, ?hb55⟩) HS0.out ?rb55
            case hb55 => (intro W hW; (try dsimp only at hW); go_simp; try with_reducible rfl)
            simp only [Act.put, List.getElem_toArray, List.getElem_cons_succ, List.getElem_cons_zero, List.setIfInBounds_toArray, List.set_cons_zero, List.set_cons_succ]
            refine wpAnyH_take (i := 56) (v := ?vb56) rfl (by kernel_rfl) (by kernel_rfl) (by kernel_rfl) (fun _ _ _ h => h) (Or.inl ⟨by rfl, ?hb56⟩) HS0.out ?rb56
            case hb56 => (intro W hW; (try dsimp only at hW); go_simp; try with_reducible rfl)
            simp only [Act.put, List.getElem_toArray, List.getElem_cons_succ, List.getElem_cons_zero, List.setIfInBounds_toArray, List.set_cons_zero, List.set_cons_succ]
            obtain ⟨o1, f1⟩ := HO0.out
            refine wpAnyH_ready (rs := [57]) (by kernel_rfl) (by simp) ?_
            refine AllReadyH.cons rfl (fun K hK => ?_) AllReadyH.nil
            go_simp
            have HE1 := Lib.hid (HR0.out.set1 HG.out j true).drew
            have HS1 := Lib.hid (HSF.out _ HE1.out.2.2.2)
            have HO1 : Hid (((wr.setCell ⟨g1, j, none⟩ (.bool true)).drew).cell? ⟨g2, j, none⟩ = some (.bool false) ∧ ((wr.setCell ⟨g1, j, none⟩ (.bool true)).drew).frozen? ⟨g2, j, none⟩ = false) := Lib.hid ⟨by rw [HE1.out.2.1.at_ hlt6]; simp, HE1.out.2.1.frozen j⟩
            obtain ⟨e1, he1⟩ : ∃ e1, e1 = (wr.setCell ⟨g1, j, none⟩ (.bool true)).drew := ⟨_, rfl⟩
            rw [← he1] at HE1 HS1 HO1 ⊢
            clear he1 o1 f1
            refine hK.out _ _ HS1.out (fun _ => ?_)
            clear hK K
            refine wpAnyH_take (i := 58) (v := ?vb58) rfl (by kernel_rfl) (by kernel_rfl) (by kernel_rfl) (fun _ _ _ h => h) (Or.inl ⟨by rfl, ?hb58⟩) HS1.out ?rb58
            case hb58 => (intro W hW; (try dsimp only at hW); go_simp; try with_reducible rfl)
            simp only [Act.put, List.getElem_toArray, List.getElem_cons_succ, List.getElem_cons_zero, List.setIfInBounds_toArray, List.set_cons_zero, List.set_cons_succ]
            obtain ⟨o1, f1⟩ := HO1.out
            refine wpAnyH_ready (rs := [59]) (by kernel_rfl) (by simp) ?_
            refine AllReadyH.cons rfl (fun K hK => ?_) AllReadyH.nil
            go_simp
            have HE2 := Lib.hid (HE1.out.set2 HG.out j false)
            have HS2 := Lib.hid (HSF.out _ HE2.out.2.2.2)
            have HO2 : Hid ((e1.setCell ⟨g2, j, none⟩ (.bool false)).cell? ⟨g3, j, none⟩ = some (.bool false) ∧ (e1.setCell ⟨g2, j, none⟩ (.bool false)).frozen? ⟨g3, j, none⟩ = false) := Lib.hid ⟨by rw [HE2.out.2.2.1.at_ hlt6]; simp, HE2.out.2.2.1.frozen j⟩
            obtain ⟨e2, he2⟩ : ∃ e2, e2 = e1.setCell ⟨g2, j, none⟩ (.bool false) := ⟨_, rfl⟩
            rw [← he2] at HE2 HS2 HO2 ⊢
            clear he2 o1 f1
            refine hK.out _ _ HS2.out (fun _ => ?_)
            clear hK K
            refine wpAnyH_take (i := 60) (v := ?vb60) rfl (by kernel_rfl) (by kernel_rfl) (by kernel_rfl) (fun _ _ _ h => h) (Or.inl ⟨by rfl, ?hb60⟩) HS2.out ?rb60
            case hb60 => (intro W hW; (try dsimp only at hW); go_simp; try with_reducible rfl)
            simp only [Act.put, List.getElem_toArray, List.getElem_cons_succ, List.getElem_cons_zero, List.setIfInBounds_toArray, List.set_cons_zero, List.set_cons_succ]
            obtain ⟨o1, f1⟩ := HO2.out
            refine wpAnyH_ready (rs := [61]) (by kernel_rfl) (by simp) ?_
            refine AllReadyH.cons rfl (fun K hK => ?_) AllReadyH.nil
            go_simp
            have HE3 := Lib.hid (HE2.out.set3 HG.out j false)
            have HS3 := Lib.hid (HSF.out _ HE3.out.2.2.2)
            obtain ⟨e3, he3⟩ : ∃ e3, e3 = e2.setCell ⟨g3, j, none⟩ (.bool false) := ⟨_, rfl⟩
            rw [← he3] at HE3 HS3 ⊢
            clear he3 o1 f1
            refine hK.out _ _ HS3.out (fun _ => ?_)
            clear hK K
            refine wpAnyH_done (by kernel_rfl) ?_ _
            refine NoPanic.normal ?_
            go_wp2_with fail
            go_meet
            exact ⟨rfl, Lib.hid (HE3.out.fin (by rw [← HVP.out.1, ← HVP.out.2.1, ← HVP.out.2.2]; cases vu <;> rfl) (by rw [← HVP.out.1, ← HVP.out.2.1, ← HVP.out.2.2]; cases vu <;> rfl) (by rw [← HVP.out.1, ← HVP.out.2.1, ← HVP.out.2.2]; cases vu <;> rfl))⟩
          ·
            as_aux_lemma =>
            refine wp_region_noPanic ?_
            refine wp_region_held_drew (S := fun W => W.cell? ⟨bp, 0, none⟩ = some (.slice (some ⟨gp, 0, none⟩) 601 601) ∧ W.cell? ⟨gp, j, none⟩ = some (.bool true) ∧ W.cell? ⟨gq, j, none⟩ = some (.bool false) ∧ W.cell? ⟨go, j, none⟩ = some (.bool vu)) (by kernel_rfl) HS0.out (fun _ => ?_)
            refine wpAnyH_take (i := 0) (v := ?vc0) rfl (by kernel_rfl) (by kernel_rfl) (by kernel_rfl) (fun _ _ _ h => h) (Or.inl ⟨by rfl, ?hc0⟩) HS0.out ?rc0
            case hc0 => (intro W hW; (try dsimp only at hW); go_simp; try with_reducible rfl)
            simp only [Act.put, List.getElem_toArray, List.getElem_cons_succ, List.getElem_cons_zero, List.setIfInBounds_toArray, List.set_cons_zero, List.set_cons_succ]
            refine wpAnyH_take (i := 1) (v := ?vc1) rfl (by kernel_rfl) (by kernel_rfl) (by kernel_rfl) (fun _ _ _ h => h) (Or.inl ⟨by rfl, ?hc1⟩) HS0.out ?rc1
            case hc1 => (intro W hW; (try dsimp only at hW); go_simp; try with_reducible rfl)
            simp only [Act.put, List.getElem_toArray, List.getElem_cons_succ, List.getElem_cons_zero, List.setIfInBounds_toArray, List.set_cons_zero, List.set_cons_succ]
            refine wpAnyH_take (i := 2) (v := ?vc2) rfl (by kernel_rfl) (by kernel_rfl) (by kernel_rfl) (fun _ _ _ h => h) (Or.inl ⟨by rfl, ?hc2⟩) HS0.out ?rc2
            case hc2 => (intro W hW; (try dsimp only at hW); go_simp; try with_reducible rfl)
            simp only [Act.put, List.getElem_toArray, List.getElem_cons_succ, List.getElem_cons_zero, List.setIfInBounds_toArray, List.set_cons_zero, List.set_cons_succ]
            refine wpAnyH_take (i := 3) (v := ?vc3) rfl (by kernel_rfl) (by kernel_rfl) (by kernel_rfl) (fun _ _ _ h => h) (Or.inl ⟨by rfl, ?hc3⟩) HS0.out ?rc3
            case hc3 => (intro W hW; (try dsimp only at hW); go_simp; try with_reducible rfl)
            simp only [Act.put, List.getElem_toArray, List.getElem_cons_succ, List.getElem_cons_zero, List.setIfInBounds_toArray, List.set_cons_zero, List.set_cons_succ]
            refine wpAnyH_take (i := 4) (v := ?vc4) rfl (by kernel_rfl) (by kernel_rfl) (by kernel_rfl) (fun _ _ _ h => h) (Or.inl ⟨by rfl, ?hc4⟩) HS0.out ?rc4
            case hc4 => (intro W hW; (try dsimp only at hW); go_simp; try with_reducible rfl)
            simp only [Act.put, List.getElem_toArray, List.getElem_cons_succ, List.getElem_cons_zero, List.setIfInBounds_toArray, List.set_cons_zero, List.set_cons_succ]
            refine wpAnyH_take (i := 5) (v := ?vc5) rfl (by kernel_rfl) (by kernel_rfl) (by kernel_rfl) (fun _ _ _ h => h) (Or.inl ⟨by rfl, ?hc5⟩) HS0.out ?rc5
            case hc5 => (intro W hW; (try dsimp only at hW); go_simp; try with_reducible rfl)
            simp only [Act.put, List.getElem_toArray, List.getElem_cons_succ, List.getElem_cons_zero, List.setIfInBounds_toArray, List.set_cons_zero, List.set_cons_succ]
            refine wpAnyH_take (i := 6) (v := ?vc6) rfl (by kernel_rfl) (by kernel_rfl) (by kernel_rfl) (fun _ _ _ h => h) (Or.inl ⟨by rfl, ?hc6⟩) HS0.out ?rc6
            case hc6 => (intro W hW; (try dsimp only at hW); go_simp; try with_reducible rfl)
            simp only [Act.put, List.getElem_toArray, List.getElem_cons_succ, List.getElem_cons_zero, List.setIfInBounds_toArray, List.set_cons_zero, List.set_cons_succ]
            refine wpAnyH_take (i := 7) (v := ?vc7) rfl (by kernel_rfl) (by kernel_rfl) (by kernel_rfl) (fun _ _ _ h => h) (Or.inl ⟨by rfl, ?hc7⟩) HS0.out ?rc7
            case hc7 => (intro W hW; (try dsimp only at hW); go_simp; try with_reducible rfl)
            simp only [Act.put, List.getElem_toArray, List.getElem_cons_succ, List.getElem_cons_zero, List.setIfInBounds_toArray, List.set_cons_zero, List.set_cons_succ]
            refine wpAnyH_take (i := 8) (v := ?vc8) rfl (by kernel_rfl) (by kernel_rfl) (by kernel_rfl) (fun _ _ _ h => h) (Or.inl ⟨by rfl, ?hc8⟩) HS0.out ?rc8
            case hc8 => (intro W hW; (try dsimp only at hW); go_simp; try with_reducible rfl)
            simp only [Act.put, List.getElem_toArray, List.getElem_cons_succ, List.getElem_cons_zero, List.setIfInBounds_toArray, List.set_cons_zero, List.set_cons_succ]
            refine wpAnyH_take (i := 9) (v := ?vc9) rfl (by kernel_rfl) (by kernel_rfl) (by kernel_rfl) (fun _ _ _ h => h) (Or.inl ⟨by rfl, ?hc9⟩) HS0.out ?rc9
            case hc9 => (intro W hW; (try dsimp only at hW); go_simp; try with_reducible rfl)
            simp only [Act.put, List.getElem_toArray, List.getElem_cons_succ, List.getElem_cons_zero, List.setIfInBounds_toArray, List.set_cons_zero, List.set_cons_succ]
            refine wpAnyH_take (i := 10) (v := ?vc10) rfl (by kernel_rfl) (by kernel_rfl) (by kernel_rfl) (fun _ _ _ h => h) (Or.inl ⟨by rfl, ?hc10⟩) HS0.out ?rc10
            case hc10 => (intro W hW; (try dsimp only at hW); go_simp; try with_reducible rfl)
            simp only [Act.put, List.getElem_toArray, List.getElem_cons_succ, List.getElem_cons_zero, List.setIfInBounds_toArray, List.set_cons_zero, List.set_cons_succ]
            refine wpAnyH_take (i := 11) (v := undef) rfl (by kernel_rfl) (by kernel_rfl) (by kernel_rfl) (fun _ _ _ h => h) (Or.inr ⟨by rfl, rfl⟩) HS0.out ?rc11
            simp only [Act.put, List.getElem_toArray, List.getElem_cons_succ, List.getElem_cons_zero, List.setIfInBounds_toArray, List.set_cons_zero, List.set_cons_succ]
            refine wpAnyH_take (i := 12) (v := undef) rfl (by kernel_rfl) (by kernel_rfl) (by kernel_rfl) (fun _ _ _ h => h) (Or.inr ⟨by rfl, rfl⟩) HS0.out ?rc12
            simp only [Act.put, List.getElem_toArray, List.getElem_cons_succ, List.getElem_cons_zero, List.setIfInBounds_toArray, List.set_cons_zero, List.set_cons_succ]
            refine wpAnyH_take (i := 13) (v := undef) rfl (by kernel_rfl) (by kernel_rfl) (by kernel_rfl) (fun _ _ _ h => h) (Or.inr ⟨by rfl, rfl⟩) HS0.out ?rc13
            simp only [Act.put, List.getElem_toArray, List.getElem_cons_succ, List.getElem_cons_zero, List.setIfInBounds_toArray, List.set_cons_zero, List.set_cons_succ]
            refine wpAnyH_take (i := 14) (v := undef) rfl (by kernel_rfl) (by kernel_rfl) (by kernel_rfl) (fun _ _ _ h => h) (Or.inr ⟨by rfl, rfl⟩) HS0.out ?rc14
            simp only [Act.put, List.getElem_toArray, List.getElem_cons_succ, List.getElem_cons_zero, List.setIfInBounds_toArray, List.set_cons_zero, List.set_cons_succ]
            refine wpAnyH_take (i := 15) (v := ?vc15) rfl (by kernel_rfl) (by kernel_rfl) (by kernel_rfl) (fun _ _ _ h => h) (Or.inl ⟨by rfl, ?hc15⟩) HS0.out ?rc15
            case hc15 => (intro W hW; (try dsimp only at hW); go_simp; try with_reducible rfl)
            simp only [Act.put, List.getElem_toArray, List.getElem_cons_succ, List.getElem_cons_zero, List.setIfInBounds_toArray, List.set_cons_zero, List.set_cons_succ]
            refine wpAnyH_take (i := 16) (v := ?vc16) rfl (by kernel_rfl) (by kernel_rfl) (by kernel_rfl) (fun _ _ _ h => h) (Or.inl ⟨by rfl, ?hc16⟩) HS0.out ?rc16
            case hc16 => (intro W hW; (try dsimp only at hW); go_simp; try with_reducible rfl)
            simp only [Act.put, List.getElem_toArray, List.getElem_cons_succ, List.getElem_cons_zero, List.setIfInBounds_toArray, List.set_cons_zero, List.set_cons_succ]
            refine wpAnyH_take (i := 17) (v := undef) rfl (by kernel_rfl) (by kernel_rfl) (by kernel_rfl) (fun _ _ _ h => h) (Or.inr ⟨by rfl, rfl⟩) HS0.out ?rc17
            simp only [Act.put, List.getElem_toArray, List.getElem_cons_succ, List.getElem_cons_zero, List.setIfInBounds_toArray, List.set_cons_zero, List.set_cons_succ]
            refine wpAnyH_take (i := 18) (v := undef) rfl (by kernel_rfl) (by kernel_rfl) (by kernel_rfl) (fun _ _ _ h => h) (Or.inr ⟨by rfl, rfl⟩) HS0.out ?rc18
            simp only [Act.put, List.getElem_toArray, List.getElem_cons_succ, List.getElem_cons_zero, List.setIfInBounds_toArray, List.set_cons_zero, List.set_cons_succ]
            refine wpAnyH_take (i := 19) (v := undef) rfl (by kernel_rfl) (by kernel_rfl) (by kernel_rfl) (fun _ _ _ h => h) (Or.inr ⟨by rfl, rfl⟩) HS0.out ?rc19
            simp only [Act.put, List.getElem_toArray, List.getElem_cons_succ, List.getElem_cons_zero, List.setIfInBounds_toArray, List.set_cons_zero, List.set_cons_succ]
            refine wpAnyH_take (i := 20) (v := undef) rfl (by kernel_rfl) (by kernel_rfl) (by kernel_rfl) (fun _ _ _ h => h) (Or.inr ⟨by rfl, rfl⟩) HS0.out ?rc20
            simp only [Act.put, List.getElem_toArray, List.getElem_cons_succ, List.getElem_cons_zero, List.setIfInBounds_toArray, List.set_cons_zero, List.set_cons_succ]
            refine wpAnyH_take (i := 21) (v := ?vc21) rfl (by kernel_rfl) (by kernel_rfl) (by kernel_rfl) (fun _ _ _ h => h) (Or.inl ⟨by rfl, ?hc21⟩) HS0.out ?rc21
            case hc21 => (intro W hW; (try dsimp only at hW); go_simp; try with_reducible rfl)
            simp only [Act.put, List.getElem_toArray, List.getElem_cons_succ, List.getElem_cons_zero, List.setIfInBounds_toArray, List.set_cons_zero, List.set_cons_succ]
            refine wpAnyH_take (i := 22) (v := ?vc22) rfl (by kernel_rfl) (by kernel_rfl) (by kernel_rfl) (fun _ _ _ h => h) (Or.inl ⟨by rfl, ?hc22⟩) HS0.out ?rc22
            case hc22 => (intro W hW; (try dsimp only at hW); go_simp; try with_reducible rfl)
            simp only [Act.put, List.getElem_toArray, List.getElem_cons_succ, List.getElem_cons_zero, List.setIfInBounds_toArray, List.set_cons_zero, List.set_cons_succ]
            refine wpAnyH_take (i := 23) (v := ?vc23) rfl (by kernel_rfl) (by kernel_rfl) (by kernel_rfl) (fun _ _ _ h => h) (Or.inl ⟨by rfl, ?hc23⟩) HS0.out ?rc23
            case hc23 => (intro W hW; (try dsimp only at hW); go_simp; try with_reducible rfl)
            simp only [Act.put, List.getElem_toArray, List.getElem_cons_succ, List.getElem_cons_zero, List.setIfInBounds_toArray, List.set_cons_zero, List.set_cons_succ]
            refine wpAnyH_take (i := 24) (v := ?vc24) rfl (by kernel_rfl) (by kernel_rfl) (by kernel_rfl) (fun _ _ _ h => h) (Or.inl ⟨by rfl, ?hc24⟩) HS0.out ?rc24
            case hc24 => (intro W hW; (try dsimp only at hW); go_simp; try with_reducible rfl)
            simp only [Act.put, List.getElem_toArray, List.getElem_cons_succ, List.getElem_cons_zero, List.setIfInBounds_toArray, List.set_cons_zero, List.set_cons_succ]
            refine wpAnyH_take (i := 25) (v := ?vc25) rfl (by kernel_rfl) (by kernel_rfl) (by kernel_rfl) (fun _ _ _ h => h) (Or.inl ⟨by rfl, ?hc25⟩) HS0.out ?rc25
            case hc25 => (intro W hW; (try dsimp only at hW); go_simp; try with_reducible rfl)
            simp only [Act.put, List.getElem_toArray, List.getElem_cons_succ, List.getElem_cons_zero, List.setIfInBounds_toArray, List.set_cons_zero, List.set_cons_succ]
            refine wpAnyH_take (i := 26) (v := ?vc26) rfl (by kernel_rfl) (by kernel_rfl) (by kernel_rfl) (fun _ _ _ h => h) (Or.inl ⟨by rfl, ?hc26⟩) HS0.out ?rc26
            case hc26 => (intro W hW; (try dsimp only at hW); go_simp; try with_reducible rfl)
            simp only [Act.put, List.getElem_toArray, List.getElem_cons_succ, List.getElem_cons_zero, List.setIfInBounds_toArray, List.set_cons_zero, List.set_cons_succ]
            refine wpAnyH_take (i := 27) (v := ?vc27) rfl (by kernel_rfl) (by kernel_rfl) (by kernel_rfl) (fun _ _ _ h => h) (Or.inl ⟨by rfl, ?hc27⟩) HS0.out ?rc27
            case hc27 => (intro W hW; (try dsimp only at hW); go_simp; try with_reducible rfl)
            simp only [Act.put, List.getElem_toArray, List.getElem_cons_succ, List.getElem_cons_zero, List.setIfInBounds_toArray, List.set_cons_zero, List.set_cons_succ]
            refine wpAnyH_take (i := 28) (v := ?vc28) rfl (by kernel_rfl) (by kernel_rfl) (by kernel_rfl) (fun _ _ _ h => h) (Or.inl ⟨by rfl, ?hc28⟩) HS0.out ?rc28
            case hc28 => (intro W hW; (try dsimp only at hW); go_simp; try with_reducible rfl)
            simp only [Act.put, List.getElem_toArray, List.getElem_cons_succ, List.getElem_cons_zero, List.setIfInBounds_toArray, List.set_cons_zero, List.set_cons_succ]
            refine wpAnyH_take (i := 29) (v := ?vc29) rfl (by kernel_rfl) (by kernel_rfl) (by kernel_rfl) (fun _ _ _ h => h) (Or.inl ⟨by rfl, ?hc29⟩) HS0.out ?rc29
            case hc29 => (intro W hW; (try dsimp only at hW); go_simp; try with_reducible rfl)
            simp only [Act.put, List.getElem_toArray, List.getElem_cons_succ, List.getElem_cons_zero, List.setIfInBounds_toArray, List.set_cons_zero, List.set_cons_succ]
            refine wpAnyH_take (i := 30) (v := ?vc30) rfl (by kernel_rfl) (by kernel_rfl) (by kernel_rfl) (fun _ _ _ h => h) (Or.inl ⟨by rfl, ?hc30⟩) HS0.out ?rc30
            case hc30 => (intro W hW; (try dsimp only at hW); go_simp; try with_reducible rfl)
            simp only [Act.put, List.getElem_toArray, List.getElem_cons_succ, List.getElem_cons_zero, List.setIfInBounds_toArray, List.set_cons_zero, List.set_cons_succ]
            refine wpAnyH_take (i := 31) (v := ?vc31) rfl (by kernel_rfl) (by kernel_rfl) (by kernel_rfl) (fun _ _ _ h => h) (Or.inl ⟨by rfl, ?hc31⟩) HS0.out ?rc31
            case hc31 => (intro W hW; (try dsimp only at hW); go_simp; try with_reducible rfl)
            simp only [Act.put, List.getElem_toArray, List.getElem_cons_succ, List.getElem_cons_zero, List.setIfInBounds_toArray, List.set_cons_zero, List.set_cons_succ]
            refine wpAnyH_take (i := 32) (v := ?vc32) rfl (by kernel_rfl) (by kernel_rfl) (by kernel_rfl) (fun _ _ _ h => h) (Or.inl ⟨by rfl, ?hc32⟩) HS0.out ?rc32
            case hc32 => (intro W hW; (try dsimp only at hW); go_simp; try with_reducible rfl)
            simp only [Act.put, List.getElem_toArray, List.getElem_cons_succ, List.getElem_cons_zero, List.setIfInBounds_toArray, List.set_cons_zero, List.set_cons_succ]
            refine wpAnyH_take (i := 33) (v := undef) rfl (by kernel_rfl) (by kernel_rfl) (by kernel_rfl) (fun _ _ _ h => h) (Or.inr ⟨by rfl, rfl⟩) HS0.out ?rc33
            simp only [Act.put, List.getElem_toArray, List.getElem_cons_succ, List.getElem_cons_zero, List.setIfInBounds_toArray, List.set_cons_zero, List.set_cons_succ]
            refine wpAnyH_take (i := 34) (v := undef) rfl (by kernel_rfl) (by kernel_rfl) (by kernel_rfl) (fun _ _ _ h => h) (Or.inr ⟨by rfl, rfl⟩) HS0.out ?rc34
            simp only [Act.put, List.getElem_toArray, List.getElem_cons_succ, List.getElem_cons_zero, List.setIfInBounds_toArray, List.set_cons_zero, List.set_cons_succ]
            refine wpAnyH_take (i := 35) (v := undef) rfl (by kernel_rfl) (by kernel_rfl) (by kernel_rfl) (fun _ _ _ h => h) (Or.inr ⟨by rfl, rfl⟩) HS0.out ?rc35
            simp only [Act.put, List.getElem_toArray, List.getElem_cons_succ, List.getElem_cons_zero, List.setIfInBounds_toArray, List.set_cons_zero, List.set_cons_succ]
            refine wpAnyH_take (i := 36) (v := undef) rfl (by kernel_rfl) (by kernel_rfl) (by kernel_rfl) (fun _ _ _ h => h) (Or.inr ⟨by rfl, rfl⟩) HS0.out ?rc36
            simp only [Act.put, List.getElem_toArray, List.getElem_cons_succ, List.getElem_cons_zero, List.setIfInBounds_toArray, List.set_cons_zero, List.set_cons_succ]
            refine wpAnyH_take (i := 37) (v := ?vc37) rfl (by kernel_rfl) (by kernel_rfl) (by kernel_rfl) (fun _ _ _ h => h) (Or.inl ⟨by rfl, ?hc37⟩) HS0.out ?rc37
            case hc37 => (intro W hW; (try dsimp only at hW); go_simp; try with_reducible rfl)
            simp only [Act.put, List.getElem_toArray, List.getElem_cons_succ, List.getElem_cons_zero, List.setIfInBounds_toArray, List.set_cons_zero, List.set_cons_succ]
            refine wpAnyH_take (i := 38) (v := ?vc38) rfl (by kernel_rfl) (by kernel_rfl) (by kernel_rfl) (fun _ _ _ h => h) (Or.inl ⟨by rfl, ?hc38⟩) HS0.out ?rc38
            case hc38 => (intro W hW; (try dsimp only at hW); go_simp; try with_reducible rfl)
            simp only [Act.put, List.getElem_toArray, List.getElem_cons_succ, List.getElem_cons_zero, List.setIfInBounds_toArray, List.set_cons_zero, List.set_cons_succ]
            refine wpAnyH_take (i := 39) (v := ?vc39) rfl (by kernel_rfl) (by kernel_rfl) (by kernel_rfl) (fun _ _ _ h => h) (Or.inl ⟨by rfl, ?hc39⟩) HS0.out ?rc39
            case hc39 => (intro W hW; (try dsimp only at hW); go_simp; try with_reducible rfl)
            simp only [Act.put, List.getElem_toArray, List.getElem_cons_succ, List.getElem_cons_zero, List.setIfInBounds_toArray, List.set_cons_zero, List.set_cons_succ]
            refine wpAnyH_take (i := 40) (v := ?vc40) rfl (by kernel_rfl) (by kernel_rfl) (by kernel_rfl) (fun _ _ _ h => h) (Or.inl ⟨by rfl, ?hc40⟩) HS0.out ?rc40
            case hc40 => (intro W hW; (try dsimp only at hW); go_simp; try with_reducible rfl)
            simp only [Act.put, List.getElem_toArray, List.getElem_cons_succ, List.getElem_cons_zero, List.setIfInBounds_toArray, List.set_cons_zero, List.set_cons_succ]
            refine wpAnyH_take (i := 41) (v := ?vc41) rfl (by kernel_rfl) (by kernel_rfl) (by kernel_rfl) (fun _ _ _ h => h) (Or.inl ⟨by rfl, ?hc41⟩) HS0.out ?rc41
            case hc41 => (intro W hW; (try dsimp only at hW); go_simp; try with_reducible rfl)
            simp only [Act.put, List.getElem_toArray, List.getElem_cons_succ, List.getElem_cons_zero, List.setIfInBounds_toArray, List.set_cons_zero, List.set_cons_succ]
            refine wpAnyH_take (i := 42) (v := ?vc42) rfl (by kernel_rfl) (by kernel_rfl) (by kernel_rfl) (fun _ _ _ h => h) (Or.inl ⟨by rfl, ?hc42⟩) HS0.out ?rc42
            case hc42 => (intro W hW; (try dsimp only at hW); go_simp; try with_reducible rfl)
            simp only [Act.put, List.getElem_toArray, List.getElem_cons_succ, List.getElem_cons_zero, List.setIfInBounds_toArray, List.set_cons_zero, List.set_cons_succ]
            refine wpAnyH_take (i := 43) (v := ?vc43) rfl (by kernel_rfl) (by kernel_rfl) (by kernel_rfl) (fun _ _ _ h => h) (Or.inl ⟨by rfl, ?hc43⟩) HS0.out ?rc43
            case hc43 => (intro W hW; (try dsimp only at hW); go_simp; try with_reducible rfl)
            simp only [Act.put, List.getElem_toArray, List.getElem_cons_succ, List.getElem_cons_zero, List.setIfInBounds_toArray, List.set_cons_zero, List.set_cons_succ]
            refine wpAnyH_take (i := 44) (v := ?vc44) rfl (by kernel_rfl) (by kernel_rfl) (by kernel_rfl) (fun _ _ _ h => h) (Or.inl ⟨by rfl, ?hc44⟩) HS0.out ?rc44
            case hc44 => (intro W hW; (try dsimp only at hW); go_simp; try with_reducible rfl)
            simp only [Act.put, List.getElem_toArray, List.getElem_cons_succ, List.getElem_cons_zero, List.setIfInBounds_toArray, List.set_cons_zero, List.set_cons_succ]
            refine wpAnyH_take (i := 45) (v := ?vc45) rfl (by kernel_rfl) (by kernel_rfl) (by kernel_rfl) (fun _ _ _ h => h) (Or.inl ⟨by rfl, ?hc45⟩) HS0.out ?rc45
            case hc45 => (intro W hW; (try dsimp only at hW); go_simp; try with_reducible rfl)
            simp only [Act.put, List.getElem_toArray, List.getElem_cons_succ, List.getElem_cons_zero, List.setIfInBounds_toArray, List.set_cons_zero, List.set_cons_succ]
            refine wpAnyH_take (i := 46) (v := ?vc46) rfl (by kernel_rfl) (by kernel_rfl) (by kernel_rfl) (fun _ _ _ h => h) (Or.inl ⟨by rfl, ?hc46⟩) HS0.out ?rc46
            case hc46 => (intro W hW; (try dsimp only at hW); go_simp; try with_reducible rfl)
            simp only [Act.put, List.getElem_toArray, List.getElem_cons_succ, List.getElem_cons_zero, List.setIfInBounds_toArray, List.set_cons_zero, List.set_cons_succ]
            refine wpAnyH_take (i := 47) (v := ?vc47) rfl (by kernel_rfl) (by kernel_rfl) (by kernel_rfl) (fun _ _ _ h => h) (Or.inl ⟨by rfl, ?hc47⟩) HS0.out ?rc47
            case hc47 => (intro W hW; (try dsimp only at hW); go_simp; try with_reducible rfl)
            simp only [Act.put, List.getElem_toArray, List.getElem_cons_succ, List.getElem_cons_zero, List.setIfInBounds_toArray, List.set_cons_zero, List.set_cons_succ]
            refine wpAnyH_take (i := 48) (v := ?vc48) rfl (by kernel_rfl) (by kernel_rfl) (by kernel_rfl) (fun _ _ _ h => h) (Or.inl ⟨by rfl, ?hc48⟩) HS0.out ?rc48
            case hc48 => (intro W hW; (try dsimp only at hW); go_simp; try with_reducible rfl)
            simp only [Act.put, List.getElem_toArray, List.getElem_cons_succ, List.getElem_cons_zero, List.setIfInBounds_toArray, List.set_cons_zero, List.set_cons_succ]
            refine wpAnyH_take (i := 49) (v := ?vc49) rfl (by kernel_rfl) (by kernel_rfl) (by kernel_rfl) (fun _ _ _ h => h) (Or.inl ⟨by rfl, ?hc49⟩) HS0.out ?rc49
            case hc49 => (intro W hW; (try dsimp only at hW); go_simp; try with_reducible rfl)
            simp only [Act.put, List.getElem_toArray, List.getElem_cons_succ, List.getElem_cons_zero, List.setIfInBounds_toArray, List.set_cons_zero, List.set_cons_succ]
            refine wpAnyH_take (i := 50) (v := ?vc50) rfl (by kernel_rfl) (by kernel_rfl) (by kernel_rfl) (fun _ _ _ h => h) (Or.inl ⟨by rfl, ?hc50⟩) HS0.out ?rc50
            case hc50 => (intro W hW; (try dsimp only at hW); go_simp; try with_reducible rfl)
            simp only [Act.put, List.getElem_toArray, List.getElem_cons_succ, List.getElem_cons_zero, List.setIfInBounds_toArray, List.set_cons_zero, List.set_cons_succ]
            refine wpAnyH_take (i := 51) (v := ?vc51) rfl (by kernel_rfl) (by kernel_rfl) (by kernel_rfl) (fun _ _ _ h => h) (Or.inl ⟨by rfl, ?hc51⟩) HS0.out ?rc51
            case hc51 => (intro W hW; (try dsimp only at hW); go_simp; try with_reducible rfl)
            simp only [Act.put, List.getElem_toArray, List.getElem_cons_succ, List.getElem_cons_zero, List.setIfInBounds_toArray, List.set_cons_zero, List.set_cons_succ]
            refine wpAnyH_take (i := 52) (v := ?vc52) rfl (by kernel_rfl) (by kernel_rfl) (by kernel_rfl) (fun _ _ _ h => h) (Or.inl ⟨by rfl, ?hc52⟩) HS0.out ?rc52
            case hc52 => (intro W hW; (try dsimp only at hW); go_simp; try with_reducible rfl)
            simp only [Act.put, List.getElem_toArray, List.getElem_cons_succ, List.getElem_cons_zero, List.setIfInBounds_toArray, List.set_cons_zero, List.set_cons_succ]
            refine wpAnyH_take (i := 53) (v := ?vc53) rfl (by kernel_rfl) (by kernel_rfl) (by kernel_rfl) (fun _ _ _ h => h) (Or.inl ⟨by rfl, ?hc53⟩) HS0.out ?rc53
            case hc53 => (intro W hW; (try dsimp only at hW); go_simp; try with_reducible rfl)
            simp only [Act.put, List.getElem_toArray, List.getElem_cons_succ, List.getElem_cons_zero, List.setIfInBounds_toArray, List.set_cons_zero, List.set_cons_succ]
            refine wpAnyH_take (i := 54) (v := ?vc54) rfl (by kernel_rfl) (by kernel_rfl) (by kernel_rfl) (fun _ _ _ h => h) (Or.inl ⟨by rfl, ?hc54⟩) HS0.out ?rc54
            case hc54 => (intro W hW; (try dsimp only at hW); go_simp; try with_reducible rfl)
            simp only [Act.put, List.getElem_toArray, List.getElem_cons_succ, List.getElem_cons_zero, List.setIfInBounds_toArray, List.set_cons_zero, List.set_cons_succ]
            refine wpAnyH_take (i := 55) (v := ?vc55) rfl (by kernel_rfl) (by kernel_rfl) (by kernel_rfl) (fun _ _ _ h => h) (Or.inl ⟨by rfl, ?hc55⟩) HS0.out ?rc55
            case hc55 => (intro W hW; (try dsimp only at hW); go_simp; try with_reducible rfl)
            simp only [Act.put, List.getElem_toArray, List.getElem_cons_succ, List.getElem_cons_zero, List.setIfInBounds_toArray, List.set_cons_zero, List.set_cons_succ]
            refine wpAnyH_take (i := 56) (v := ?vc56) rfl (by kernel_rfl) (by kernel_rfl) (by kernel_rfl) (fun _ _ _ h => h) (Or.inl ⟨by rfl, ?hc56⟩) HS0.out ?rc56
            case hc56 => (intro W hW; (try dsimp only at hW); go_simp; try with_reducible rfl)
            simp only [Act.put, List.getElem_toArray, List.getElem_cons_succ, List.getElem_cons_zero, List.setIfInBounds_toArray, List.set_cons_zero, List.set_cons_succ]
            obtain ⟨o1, f1⟩ := HO0.out
            refine wpAnyH_ready (rs := [57]) (by kernel_rfl) (by simp) ?_
            refine AllReadyH.cons rfl (fun K hK => ?_) AllReadyH.nil
            go_simp
            have HE1 := Lib.hid (HR0.out.set1 HG.out j true).drew
            have HS1 := Lib.hid (HSF.out _ HE1.out.2.2.2)
            have HO1 : Hid (((wr.setCell ⟨g1, j, none⟩ (.bool true)).drew).cell? ⟨g2, j, none⟩ = some (.bool false) ∧ ((wr.setCell ⟨g1, j, none⟩ (.bool true)).drew).frozen? ⟨g2, j, none⟩ = false) := Lib.hid ⟨by rw [HE1.out.2.1.at_ hlt6]; simp, HE1.out.2.1.frozen j⟩
            obtain ⟨e1, he1⟩ : ∃ e1, e1 = (wr.setCell ⟨g1, j, none⟩ (.bool true)).drew := ⟨_, rfl⟩
            rw [← he1] at HE1 HS1 HO1 ⊢
            clear he1 o1 f1
            refine hK.out _ _ HS1.out (fun _ => ?_)
            clear hK K
            refine wpAnyH_take (i := 58) (v := ?vc58) rfl (by kernel_rfl) (by kernel_rfl) (by kernel_rfl) (fun _ _ _ h => h) (Or.inl ⟨by rfl, ?hc58⟩) HS1.out ?rc58
            case hc58 => (intro W hW; (try dsimp only at hW); go_simp; try with_reducible rfl)
            simp only [Act.put, List.getElem_toArray, List.getElem_cons_succ, List.getElem_cons_zero, List.setIfInBounds_toArray, List.set_cons_zero, List.set_cons_succ]
            obtain ⟨o1, f1⟩ := HO1.out
            refine wpAnyH_ready (rs := [59]) (by kernel_rfl) (by simp) ?_
            refine AllReadyH.cons rfl (fun K hK => ?_) AllReadyH.nil
            go_simp
            have HE2 := Lib.hid (HE1.out.set2 HG.out j false)
            have HS2 := Lib.hid (HSF.out _ HE2.out.2.2.2)
            have HO2 : Hid ((e1.setCell ⟨g2, j, none⟩ (.bool false)).cell? ⟨g3, j, none⟩ = some (.bool false) ∧ (e1.setCell ⟨g2, j, none⟩ (.bool false)).frozen? ⟨g3, j, none⟩ = false) := Lib.hid ⟨by rw [HE2.out.2.2.1.at_ hlt6]; simp, HE2.out.2.2.1.frozen j⟩
            obtain ⟨e2, he2⟩ : ∃ e2, e2 = e1.setCell ⟨g2, j, none⟩ (.bool false) := ⟨_, rfl⟩
            rw [← he2] at HE2 HS2 HO2 ⊢
            clear he2 o1 f1
            refine hK.out _ _ HS2.out (fun _ => ?_)
            clear hK K
            refine wpAnyH_take (i := 60) (v := ?vc60) rfl (by kernel_rfl) (by kernel_rfl) (by kernel_rfl) (fun _ _ _ h => h) (Or.inl ⟨by rfl, ?hc60⟩) HS2.out ?rc60
            case hc60 => (intro W hW; (try dsimp only at hW); go_simp; try with_reducible rfl)
            simp only [Act.put, List.getElem_toArray, List.getElem_cons_succ, List.getElem_cons_zero, List.setIfInBounds_toArray, List.set_cons_zero, List.set_cons_succ]
            obtain ⟨o1, f1⟩ := HO2.out
            refine wpAnyH_ready (rs := [61]) (by kernel_rfl) (by simp) ?_
            refine AllReadyH.cons rfl (fun K hK => ?_) AllReadyH.nil
            go_simp
            have HE3 := Lib.hid (HE2.out.set3 HG.out j (!vu))
            have HS3 := Lib.hid (HSF.out _ HE3.out.2.2.2)
            obtain ⟨e3, he3⟩ : ∃ e3, e3 = e2.setCell ⟨g3, j, none⟩ (.bool (!vu)) := ⟨_, rfl⟩
            rw [← he3] at HE3 HS3 ⊢
            clear he3 o1 f1
            refine hK.out _ _ HS3.out (fun _ => ?_)
            clear hK K
            refine wpAnyH_done (by kernel_rfl) ?_ _
            refine NoPanic.normal ?_
            go_wp2_with fail
            go_meet
            exact ⟨rfl, Lib.hid (HE3.out.fin (by rw [← HVP.out.1, ← HVP.out.2.1, ← HVP.out.2.2]; cases vu <;> rfl) (by rw [← HVP.out.1, ← HVP.out.2.1, ← HVP.out.2.2]; cases vu <;> rfl) (by rw [← HVP.out.1, ← HVP.out.2.1, ← HVP.out.2.2]; cases vu <;> rfl))⟩
          ·
            as_aux_lemma =>
            refine wp_region_noPanic ?_
            refine wp_region_held_drew (S := fun W => W.cell? ⟨bp, 0, none⟩ = some (.slice (some ⟨gp, 0, none⟩) 601 601) ∧ W.cell? ⟨gp, j, none⟩ = some (.bool true) ∧ W.cell? ⟨gq, j, none⟩ = some (.bool true) ∧ W.cell? ⟨go, j, none⟩ = some (.bool vu)) (by kernel_rfl) HS0.out (fun _ => ?_)
            refine wpAnyH_take (i := 0) (v := ?vd0) rfl (by kernel_rfl) (by kernel_rfl) (by kernel_rfl) (fun _ _ _ h => h) (Or.inl ⟨by rfl, ?hd0⟩) HS0.out ?rd0
            case hd0 => (intro W hW; (try dsimp only at hW); go_simp; try with_reducible rfl)
            simp only [Act.put, List.getElem_toArray, List.getElem_cons_succ, List.getElem_cons_zero, List.setIfInBounds_toArray, List.set_cons_zero, List.set_cons_succ]
            refine wpAnyH_take (i := 1) (v := ?vd1) rfl (by kernel_rfl) (by kernel_rfl) (by kernel_rfl) (fun _ _ _ h => h) (Or.inl ⟨by rfl, ?hd1⟩) HS0.out ?rd1
            case hd1 => (intro W hW; (try dsimp only at hW); go_simp; try with_reducible rfl)
            simp only [Act.put, List.getElem_toArray, List.getElem_cons_succ, List.getElem_cons_zero, List.setIfInBounds_toArray, List.set_cons_zero, List.set_cons_succ]
            refine wpAnyH_take (i := 2) (v := ?vd2) rfl (by kernel_rfl) (by kernel_rfl) (by kernel_rfl) (fun _ _ _ h => h) (Or.inl ⟨by rfl, ?hd2⟩) HS0.out ?rd2
            case hd2 => (intro W hW; (try dsimp only at hW); go_simp; try with_reducible rfl)
            simp only [Act.put, List.getElem_toArray, List.getElem_cons_succ, List.getElem_cons_zero, List.setIfInBounds_toArray, List.set_cons_zero, List.set_cons_succ]
            refine wpAnyH_take (i := 3) (v := ?vd3) rfl (by kernel_rfl) (by kernel_rfl) (by kernel_rfl) (fun _ _ _ h => h) (Or.inl ⟨by rfl, ?hd3⟩) HS0.out ?rd3
            case hd3 => (intro W hW; (try dsimp only at hW); go_simp; try with_reducible rfl)
            simp only [Act.put, List.getElem_toArray, List.getElem_cons_succ, List.getElem_cons_zero, List.setIfInBounds_toArray, List.set_cons_zero, List.set_cons_succ]
            refine wpAnyH_take (i := 4) (v := ?vd4) rfl (by kernel_rfl) (by kernel_rfl) (by kernel_rfl) (fun _ _ _ h => h) (Or.inl ⟨by rfl, ?hd4⟩) HS0.out ?rd4
            case hd4 => (intro W hW; (try dsimp only at hW); go_simp; try with_reducible rfl)
            simp only [Act.put, List.getElem_toArray, List.getElem_cons_succ, List.getElem_cons_zero, List.setIfInBounds_toArray, List.set_cons_zero, List.set_cons_succ]
            refine wpAnyH_take (i := 5) (v := ?vd5) rfl (by kernel_rfl) (by kernel_rfl) (by kernel_rfl) (fun _ _ _ h => h) (Or.inl ⟨by rfl, ?hd5⟩) HS0.out ?rd5
            case hd5 => (intro W hW; (try dsimp only at hW); go_simp; try with_reducible rfl)
            simp only [Act.put, List.getElem_toArray, List.getElem_cons_succ, List.getElem_cons_zero, List.setIfInBounds_toArray, List.set_cons_zero, List.set_cons_succ]
            refine wpAnyH_take (i := 6) (v := ?vd6) rfl (by kernel_rfl) (by kernel_rfl) (by kernel_rfl) (fun _ _ _ h => h) (Or.inl ⟨by rfl, ?hd6⟩) HS0.out ?rd6
            case hd6 => (intro W hW; (try dsimp only at hW); go_simp; try with_reducible rfl)
            simp only [Act.put, List.getElem_toArray, List.getElem_cons_succ, List.getElem_cons_zero, List.setIfInBounds_toArray, List.set_cons_zero, List.set_cons_succ]
            refine wpAnyH_take (i := 7) (v := ?vd7) rfl (by kernel_rfl) (by kernel_rfl) (by kernel_rfl) (fun _ _ _ h => h) (Or.inl ⟨by rfl, ?hd7⟩) HS0.out ?rd7
            case hd7 => (intro W hW; (try dsimp only at hW); go_simp; try with_reducible rfl)
            simp only [Act.put, List.getElem_toArray, List.getElem_cons_succ, List.getElem_cons_zero, List.setIfInBounds_toArray, List.set_cons_zero, List.set_cons_succ]
            refine wpAnyH_take (i := 8) (v := ?vd8) rfl (by kernel_rfl) (by kernel_rfl) (by kernel_rfl) (fun _ _ _ h => h) (Or.inl ⟨by rfl, ?hd8⟩) HS0.out ?rd8
            case hd8 => (intro W hW; (try dsimp only at hW); go_simp; try with_reducible rfl)
            simp only [Act.put, List.getElem_toArray, List.getElem_cons_succ, List.getElem_cons_zero, List.setIfInBounds_toArray, List.set_cons_zero, List.set_cons_succ]
            refine wpAnyH_take (i := 9) (v := ?vd9) rfl (by kernel_rfl) (by kernel_rfl) (by kernel_rfl) (fun _ _ _ h => h) (Or.inl ⟨by rfl, ?hd9⟩) HS0.out ?rd9
            case hd9 => (intro W hW; (try dsimp only at hW); go_simp; try with_reducible rfl)
            simp only [Act.put, List.getElem_toArray, List.getElem_cons_succ, List.getElem_cons_zero, List.setIfInBounds_toArray, List.set_cons_zero, List.set_cons_succ]
            refine wpAnyH_take (i := 10) (v := ?vd10) rfl (by kernel_rfl) (by kernel_rfl) (by kernel_rfl) (fun _ _ _ h => h) (Or.inl ⟨by rfl, ?hd10⟩) HS0.out ?rd10
            case hd10 => (intro W hW; (try dsimp only at hW); go_simp; try with_reducible rfl)
            simp only [Act.put, List.getElem_toArray, List.getElem_cons_succ, List.getElem_cons_zero, List.setIfInBounds_toArray, List.set_cons_zero, List.set_cons_succ]
            refine wpAnyH_take (i := 11) (v := undef) rfl (by kernel_rfl) (by kernel_rfl) (by kernel_rfl) (fun _ _ _ h => h) (Or.inr ⟨by rfl, rfl⟩) HS0.out ?rd11
            simp only [Act.put, List.getElem_toArray, List.getElem_cons_succ, List.getElem_cons_zero, List.setIfInBounds_toArray, List.set_cons_zero, List.set_cons_succ]
            refine wpAnyH_take (i := 12) (v := undef) rfl (by kernel_rfl) (by kernel_rfl) (by kernel_rfl) (fun _ _ _ h => h) (Or.inr ⟨by rfl, rfl⟩) HS0.out ?rd12
            simp only [Act.put, List.getElem_toArray, List.getElem_cons_succ, List.getElem_cons_zero, List.setIfInBounds_toArray, List.set_cons_zero, List.set_cons_succ]
            refine wpAnyH_take (i := 13) (v := undef) rfl (by kernel_rfl) (by kernel_rfl) (by kernel_rfl) (fun _ _ _ h => h) (Or.inr ⟨by rfl, rfl⟩) HS0.out ?rd13
            simp only [Act.put, List.getElem_toArray, List.getElem_cons_succ, List.getElem_cons_zero, List.setIfInBounds_toArray, List.set_cons_zero, List.set_cons_succ]
            refine wpAnyH_take (i := 14) (v := undef) rfl (by kernel_rfl) (by kernel_rfl) (by kernel_rfl) (fun _ _ _ h => h) (Or.inr ⟨by rfl, rfl⟩) HS0.out ?rd14
            simp only [Act.put, List.getElem_toArray, List.getElem_cons_succ, List.getElem_cons_zero, List.setIfInBounds_toArray, List.set_cons_zero, List.set_cons_succ]
            refine wpAnyH_take (i := 15) (v := ?vd15) rfl (by kernel_rfl) (by kernel_rfl) (by kernel_rfl) (fun _ _ _ h => h) (Or.inl ⟨by rfl, ?hd15⟩) HS0.out ?rd15
            case hd15 => (intro W hW; (try dsimp only at hW); go_simp; try with_reducible rfl)
            simp only [Act.put, List.getElem_toArray, List.getElem_cons_succ, List.getElem_cons_zero, List.setIfInBounds_toArray, List.set_cons_zero, List.set_cons_succ]
            refine wpAnyH_take (i := 16) (v := ?vd16) rfl (by kernel_rfl) (by kernel_rfl) (by kernel_rfl) (fun _ _ _ h => h) (Or.inl ⟨by rfl, ?hd16⟩) HS0.out ?rd16
            case hd16 => (intro W hW; (try dsimp only at hW); go_simp; try with_reducible rfl)
            simp only [Act.put, List.getElem_toArray, List.getElem_cons_succ, List.getElem_cons_zero, List.setIfInBounds_toArray, List.set_cons_zero, List.set_cons_succ]
            refine wpAnyH_take (i := 17) (v := undef) rfl (by kernel_rfl) (by kernel_rfl) (by kernel_rfl) (fun _ _ _ h => h) (Or.inr ⟨by rfl, rfl⟩) HS0.out ?rd17
            simp only [Act.put, List.getElem_toArray, List.getElem_cons_succ, List.getElem_cons_zero, List.setIfInBounds_toArray, List.set_cons_zero, List.set_cons_succ]
            refine wpAnyH_take (i := 18) (v := undef) rfl (by kernel_rfl) (by kernel_rfl) (by kernel_rfl) (fun _ _ _ h => h) (Or.inr ⟨by rfl, rfl⟩) HS0.out ?rd18
            simp only [Act.put, List.getElem_toArray, List.getElem_cons_succ, List.getElem_cons_zero, List.setIfInBounds_toArray, List.set_cons_zero, List.set_cons_succ]
            refine wpAnyH_take (i := 19) (v := undef) rfl (by kernel_rfl) (by kernel_rfl) (by kernel_rfl) (fun _ _ _ h => h) (Or.inr ⟨by rfl, rfl⟩) HS0.out ?rd19
            simp only [Act.put, List.getElem_toArray, List.getElem_cons_succ, List.getElem_cons_zero, List.setIfInBounds_toArray, List.set_cons_zero, List.set_cons_succ]
            refine wpAnyH_take (i := 20) (v := undef) rfl (by kernel_rfl) (by kernel_rfl) (by kernel_rfl) (fun _ _ _ h => h) (Or.inr ⟨by rfl, rfl⟩) HS0.out ?rd20
            simp only [Act.put, List.getElem_toArray, List.getElem_cons_succ, List.getElem_cons_zero, List.setIfInBounds_toArray, List.set_cons_zero, List.set_cons_succ]
            refine wpAnyH_take (i := 21) (v := ?vd21) rfl (by kernel_rfl) (by kernel_rfl) (by kernel_rfl) (fun _ _ _ h => h) (Or.inl ⟨by rfl, ?hd21⟩) HS0.out ?rd21
            case hd21 => (intro W hW; (try dsimp only at hW); go_simp; try with_reducible rfl)
            simp only [Act.put, List.getElem_toArray, List.getElem_cons_succ, List.getElem_cons_zero, List.setIfInBounds_toArray, List.set_cons_zero, List.set_cons_succ]
            refine wpAnyH_take (i := 22) (v := ?vd22) rfl (by kernel_rfl) (by kernel_rfl) (by kernel_rfl) (fun _ _ _ h => h) (Or.inl ⟨by rfl, ?hd22⟩) HS0.out ?rd22
            case hd22 => (intro W hW; (try dsimp only at hW); go_simp; try with_reducible rfl)
            simp only [Act.put, List.getElem_toArray, List.getElem_cons_succ, List.getElem_cons_zero, List.setIfInBounds_toArray, List.set_cons_zero, List.set_cons_succ]
            refine wpAnyH_take (i := 23) (v := ?vd23) rfl (by kernel_rfl) (by kernel_rfl) (by kernel_rfl) (fun _ _ _ h => h) (Or.inl ⟨by rfl, ?hd23⟩) HS0.out ?rd23
            case hd23 => (intro W hW; (try dsimp only at hW); go_simp; try with_reducible rfl)
            simp only [Act.put, List.getElem_toArray, List.getElem_cons_succ, List.getElem_cons_zero, List.setIfInBounds_toArray, List.set_cons_zero, List.set_cons_succ]
            refine wpAnyH_take (i := 24) (v := ?vd24) rfl (by kernel_rfl) (by kernel_rfl) (by kernel_rfl) (fun _ _ _ h => h) (Or.inl ⟨by rfl, ?hd24⟩) HS0.out ?rd24
            case hd24 => (intro W hW; (try dsimp only at hW); go_simp; try with_reducible rfl)
            simp only [Act.put, List.getElem_toArray, List.getElem_cons_succ, List.getElem_cons_zero, List.setIfInBounds_toArray, List.set_cons_zero, List.set_cons_succ]
            refine wpAnyH_take (i := 25) (v := ?vd25) rfl (by kernel_rfl) (by kernel_rfl) (by kernel_rfl) (fun _ _ _ h => h) (Or.inl ⟨by rfl, ?hd25⟩) HS0.out ?rd25
            case hd25 => (intro W hW; (try dsimp only at hW); go_simp; try with_reducible rfl)
            simp only [Act.put, List.getElem_toArray, List.getElem_cons_succ, List.getElem_cons_zero, List.setIfInBounds_toArray, List.set_cons_zero, List.set_cons_succ]
            refine wpAnyH_take (i := 26) (v := ?vd26) rfl (by kernel_rfl) (by kernel_rfl) (by kernel_rfl) (fun _ _ _ h => h) (Or.inl ⟨by rfl, ?hd26⟩) HS0.out ?rd26
            case hd26 => (intro W hW; (try dsimp only at hW); go_simp; try with_reducible rfl)
            simp only [Act.put, List.getElem_toArray, List.getElem_cons_succ, List.getElem_cons_zero, List.setIfInBounds_toArray, List.set_cons_zero, List.set_cons_succ]
            refine wpAnyH_take (i := 27) (v := ?vd27) rfl (by kernel_rfl) (by kernel_rfl) (by kernel_rfl) (fun _ _ _ h => h) (Or.inl ⟨by rfl, ?hd27⟩) HS0.out ?rd27
            case hd27 => (intro W hW; (try dsimp only at hW); go_simp; try with_reducible rfl)
            simp only [Act.put, List.getElem_toArray, List.getElem_cons_succ, List.getElem_cons_zero, List.setIfInBounds_toArray, List.set_cons_zero, List.set_cons_succ]
            refine wpAnyH_take (i := 28) (v := ?vd28) rfl (by kernel_rfl) (by kernel_rfl) (by kernel_rfl) (fun _ _ _ h => h) (Or.inl ⟨by rfl, ?hd28⟩) HS0.out ?rd28
            case hd28 => (intro W hW; (try dsimp only at hW); go_simp; try with_reducible rfl)
            simp only [Act.put, List.getElem_toArray, List.getElem_cons_succ, List.getElem_cons_zero, List.setIfInBounds_toArray, List.set_cons_zero, List.set_cons_succ]
            refine wpAnyH_take (i := 29) (v := ?vd29) rfl (by kernel_rfl) (by kernel_rfl) (by kernel_rfl) (fun _ _ _ h => h) (Or.inl ⟨by rfl, ?hd29⟩) HS0.out ?rd29
            case hd29 => (intro W hW; (try dsimp only at hW); go_simp; try with_reducible rfl)
            simp only [Act.put, List.getElem_toArray, List.getElem_cons_succ, List.getElem_cons_zero, List.setIfInBounds_toArray, List.set_cons_zero, List.set_cons_succ]
            refine wpAnyH_take (i := 30) (v := ?vd30) rfl (by kernel_rfl) (by kernel_rfl) (by kernel_rfl) (fun _ _ _ h => h) (Or.inl ⟨by rfl, ?hd30⟩) HS0.out ?rd30
            case hd30 => (intro W hW; (try dsimp only at hW); go_simp; try with_reducible rfl)
            simp only [Act.put, List.getElem_toArray, List.getElem_cons_succ, List.getElem_cons_zero, List.setIfInBounds_toArray, List.set_cons_zero, List.set_cons_succ]
            refine wpAnyH_take (i := 31) (v := ?vd31) rfl (by kernel_rfl) (by kernel_rfl) (by kernel_rfl) (fun _ _ _ h => h) (Or.inl ⟨by rfl, ?hd31⟩) HS0.out ?rd31
            case hd31 => (intro W hW; (try dsimp only at hW); go_simp; try with_reducible rfl)
            simp only [Act.put, List.getElem_toArray, List.getElem_cons_succ, List.getElem_cons_zero, List.setIfInBounds_toArray, List.set_cons_zero, List.set_cons_succ]
            refine wpAnyH_take (i := 32) (v := ?vd32) rfl (by kernel_rfl) (by kernel_rfl) (by kernel_rfl) (fun _ _ _ h => h) (Or.inl ⟨by rfl, ?hd32⟩) HS0.out ?rd32
            case hd32 => (intro W hW; (try dsimp only at hW); go_simp; try with_reducible rfl)
            simp only [Act.put, List.getElem_toArray, List.getElem_cons_succ, List.getElem_cons_zero, List.setIfInBounds_toArray, List.set_cons_zero, List.set_cons_succ]
            refine wpAnyH_take (i := 33) (v := ?vd33) rfl (by kernel_rfl) (by kernel_rfl) (by kernel_rfl) (fun _ _ _ h => h) (Or.inl ⟨by rfl, ?hd33⟩) HS0.out ?rd33
            case hd33 => (intro W hW; (try dsimp only at hW); go_simp; try with_reducible rfl)
            simp only [Act.put, List.getElem_toArray, List.getElem_cons_succ, List.getElem_cons_zero, List.setIfInBounds_toArray, List.set_cons_zero, List.set_cons_succ]
            refine wpAnyH_take (i := 34) (v := ?vd34) rfl (by kernel_rfl) (by kernel_rfl) (by kernel_rfl) (fun _ _ _ h => h) (Or.inl ⟨by rfl, ?hd34⟩) HS0.out ?rd34
            case hd34 => (intro W hW; (try dsimp only at hW); go_simp; try with_reducible rfl)
            simp only [Act.put, List.getElem_toArray, List.getElem_cons_succ, List.getElem_cons_zero, List.setIfInBounds_toArray, List.set_cons_zero, List.set_cons_succ]
            refine wpAnyH_take (i := 35) (v := ?vd35) rfl (by kernel_rfl) (by kernel_rfl) (by kernel_rfl) (fun _ _ _ h => h) (Or.inl ⟨by rfl, ?hd35⟩) HS0.out ?rd35
            case hd35 => (intro W hW; (try dsimp only at hW); go_simp; try with_reducible rfl)
            simp only [Act.put, List.getElem_toArray, List.getElem_cons_succ, List.getElem_cons_zero, List.setIfInBounds_toArray, List.set_cons_zero, List.set_cons_succ]
            refine wpAnyH_take (i := 36) (v := ?vd36) rfl (by kernel_rfl) (by kernel_rfl) (by kernel_rfl) (fun _ _ _ h => h) (Or.inl ⟨by rfl, ?hd36⟩) HS0.out ?rd36
            case hd36 => (intro W hW; (try dsimp only at hW); go_simp; try with_reducible rfl)
            simp only [Act.put, List.getElem_toArray, List.getElem_cons_succ, List.getElem_cons_zero, List.setIfInBounds_toArray, List.set_cons_zero, List.set_cons_succ]
            refine wpAnyH_take (i := 37) (v := ?vd37) rfl (by kernel_rfl) (by kernel_rfl) (by kernel_rfl) (fun _ _ _ h => h) (Or.inl ⟨by rfl, ?hd37⟩) HS0.out ?rd37
            case hd37 => (intro W hW; (try dsimp only at hW); go_simp; try with_reducible rfl)
            simp only [Act.put, List.getElem_toArray, List.getElem_cons_succ, List.getElem_cons_zero, List.setIfInBounds_toArray, List.set_cons_zero, List.set_cons_succ]
            refine wpAnyH_take (i := 38) (v := ?vd38) rfl (by kernel_rfl) (by kernel_rfl) (by kernel_rfl) (fun _ _ _ h => h) (Or.inl ⟨by rfl, ?hd38⟩) HS0.out ?rd38
            case hd38 => (intro W hW; (try dsimp only at hW); go_simp; try with_reducible rfl)
            simp only [Act.put, List.getElem_toArray, List.getElem_cons_succ, List.getElem_cons_zero, List.setIfInBounds_toArray, List.set_cons_zero, List.set_cons_succ]
            refine wpAnyH_take (i := 39) (v := ?vd39) rfl (by kernel_rfl) (by kernel_rfl) (by kernel_rfl) (fun _ _ _ h => h) (Or.inl ⟨by rfl, ?hd39⟩) HS0.out ?rd39
            case hd39 => (intro W hW; (try dsimp only at hW); go_simp; try with_reducible rfl)
            simp only [Act.put, List.getElem_toArray, List.getElem_cons_succ, List.getElem_cons_zero, List.setIfInBounds_toArray, List.set_cons_zero, List.set_cons_succ]
            refine wpAnyH_take (i := 40) (v := ?vd40) rfl (by kernel_rfl) (by kernel_rfl) (by kernel_rfl) (fun _ _ _ h => h) (Or.inl ⟨by rfl, ?hd40⟩) HS0.out ?rd40
            case hd40 => (intro W hW; (try dsimp only at hW); go_simp; try with_reducible rfl)
            simp only [Act.put, List.getElem_toArray, List.getElem_cons_succ, List.getElem_cons_zero, List.setIfInBounds_toArray, List.set_cons_zero, List.set_cons_succ]
            refine wpAnyH_take (i := 41) (v := ?vd41) rfl (by kernel_rfl) (by kernel_rfl) (by kernel_rfl) (fun _ _ _ h => h) (Or.inl ⟨by rfl, ?hd41⟩) HS0.out ?rd41
            case hd41 => (intro W hW; (try dsimp only at hW); go_simp; try with_reducible rfl)
            simp only [Act.put, List.getElem_toArray, List.getElem_cons_succ, List.getElem_cons_zero, List.setIfInBounds_toArray, List.set_cons_zero, List.set_cons_succ]
            refine wpAnyH_take (i := 42) (v := ?vd42) rfl (by kernel_rfl) (by kernel_rfl) (by kernel_rfl) (fun _ _ _ h => h) (Or.inl ⟨by rfl, ?hd42⟩) HS0.out ?rd42
            case hd42 => (intro W hW; (try dsimp only at hW); go_simp; try with_reducible rfl)
            simp only [Act.put, List.getElem_toArray, List.getElem_cons_succ, List.getElem_cons_zero, List.setIfInBounds_toArray, List.set_cons_zero, List.set_cons_succ]
            refine wpAnyH_take (i := 43) (v := ?vd43) rfl (by kernel_rfl) (by kernel_rfl) (by kernel_rfl) (fun _ _ _ h => h) (Or.inl ⟨by rfl, ?hd43⟩) HS0.out ?rd43
            case hd43 => (intro W hW; (try dsimp only at hW); go_simp; try with_reducible rfl)
            simp only [Act.put, List.getElem_toArray, List.getElem_cons_succ, List.getElem_cons_zero, List.setIfInBounds_toArray, List.set_cons_zero, List.set_cons_succ]
            refine wpAnyH_take (i := 44) (v := ?vd44) rfl (by kernel_rfl) (by kernel_rfl) (by kernel_rfl) (fun _ _ _ h => h) (Or.inl ⟨by rfl, ?hd44⟩) HS0.out ?rd44
            case hd44 => (intro W hW; (try dsimp only at hW); go_simp; try with_reducible rfl)
            simp only [Act.put, List.getElem_toArray, List.getElem_cons_succ, List.getElem_cons_zero, List.setIfInBounds_toArray, List.set_cons_zero, List.set_cons_succ]
            refine wpAnyH_take (i := 45) (v := ?vd45) rfl (by kernel_rfl) (by kernel_rfl) (by kernel_rfl) (fun _ _ _ h => h) (Or.inl ⟨by rfl, ?hd45⟩) HS0.out ?rd45
            case hd45 => (intro W hW; (try dsimp only at hW); go_simp; try with_reducible rfl)
            simp only [Act.put, List.getElem_toArray, List.getElem_cons_succ, List.getElem_cons_zero, List.setIfInBounds_toArray, List.set_cons_zero, List.set_cons_succ]
            refine wpAnyH_take (i := 46) (v := ?vd46) rfl (by kernel_rfl) (by kernel_rfl) (by kernel_rfl) (fun _ _ _ h => h) (Or.inl ⟨by rfl, ?hd46⟩) HS0.out ?rd46
            case hd46 => (intro W hW; (try dsimp only at hW); go_simp; try with_reducible rfl)
            simp only [Act.put, List.getElem_toArray, List.getElem_cons_succ, List.getElem_cons_zero, List.setIfInBounds_toArray, List.set_cons_zero, List.set_cons_succ]
            refine wpAnyH_take (i := 47) (v := ?vd47) rfl (by kernel_rfl) (by kernel_rfl) (by kernel_rfl) (fun _ _ _ h => h) (Or.inl ⟨by rfl, ?hd47⟩) HS0.out ?rd47
            case hd47 => (intro W hW; (try dsimp only at hW); go_simp; try with_reducible rfl)
            simp only [Act.put, List.getElem_toArray, List.getElem_cons_succ, List.getElem_cons_zero, List.setIfInBounds_toArray, List.set_cons_zero, List.set_cons_succ]
            refine wpAnyH_take (i := 48) (v := ?vd48) rfl (by kernel_rfl) (by kernel_rfl) (by kernel_rfl) (fun _ _ _ h => h) (Or.inl ⟨by rfl, ?hd48⟩) HS0.out ?rd48
            case hd48 => (intro W hW; (try dsimp only at hW); go_simp; try with_reducible rfl)
            simp only [Act.put, List.getElem_toArray, List.getElem_cons_succ, List.getElem_cons_zero, List.setIfInBounds_toArray, List.set_cons_zero, List.set_cons_succ]
            refine wpAnyH_take (i := 49) (v := ?vd49) rfl (by kernel_rfl) (by kernel_rfl) (by kernel_rfl) (fun _ _ _ h => h) (Or.inl ⟨by rfl, ?hd49⟩) HS0.out ?rd49
            case hd49 => (intro W hW; (try dsimp only at hW); go_simp; try with_reducible rfl)
            simp only [Act.put, List.getElem_toArray, List.getElem_cons_succ, List.getElem_cons_zero, List.setIfInBounds_toArray, List.set_cons_zero, List.set_cons_succ]
            refine wpAnyH_take (i := 50) (v := undef) rfl (by kernel_rfl) (by kernel_rfl) (by kernel_rfl) (fun _ _ _ h => h) (Or.inr ⟨by rfl, rfl⟩) HS0.out ?rd50
            simp only [Act.put, List.getElem_toArray, List.getElem_cons_succ, List.getElem_cons_zero, List.setIfInBounds_toArray, List.set_cons_zero, List.set_cons_succ]
            refine wpAnyH_take (i := 51) (v := undef) rfl (by kernel_rfl) (by kernel_rfl) (by kernel_rfl) (fun _ _ _ h => h) (Or.inr ⟨by rfl, rfl⟩) HS0.out ?rd51
            simp only [Act.put, List.getElem_toArray, List.getElem_cons_succ, List.getElem_cons_zero, List.setIfInBounds_toArray, List.set_cons_zero, List.set_cons_succ]
            refine wpAnyH_take (i := 52) (v := undef) rfl (by kernel_rfl) (by kernel_rfl) (by kernel_rfl) (fun _ _ _ h => h) (Or.inr ⟨by rfl, rfl⟩) HS0.out ?rd52
            simp only [Act.put, List.getElem_toArray, List.getElem_cons_succ, List.getElem_cons_zero, List.setIfInBounds_toArray, List.set_cons_zero, List.set_cons_succ]
            refine wpAnyH_take (i := 53) (v := undef) rfl (by kernel_rfl) (by kernel_rfl) (by kernel_rfl) (fun _ _ _ h => h) (Or.inr ⟨by rfl, rfl⟩) HS0.out ?rd53
            simp only [Act.put, List.getElem_toArray, List.getElem_cons_succ, List.getElem_cons_zero, List.setIfInBounds_toArray, List.set_cons_zero, List.set_cons_succ]
            refine wpAnyH_take (i := 54) (v := undef) rfl (by kernel_rfl) (by kernel_rfl) (by kernel_rfl) (fun _ _ _ h => h) (Or.inr ⟨by rfl, rfl⟩) HS0.out ?rd54
            simp only [Act.put, List.getElem_toArray, List.getElem_cons_succ, List.getElem_cons_zero, List.setIfInBounds_toArray, List.set_cons_zero, List.set_cons_succ]
            refine wpAnyH_take (i := 55) (v := ?vd55) rfl (by kernel_rfl) (by kernel_rfl) (by kernel_rfl) (fun _ _ _ h => h) (Or.inl ⟨by rfl, ?hd55⟩) HS0.out ?rd55
            case hd55 => (intro W hW; (try dsimp only at hW); go_simp; try with_reducible rfl)
            simp only [Act.put, List.getElem_toArray, List.getElem_cons_succ, List.getElem_cons_zero, List.setIfInBounds_toArray, List.set_cons_zero, List.set_cons_succ]
            refine wpAnyH_take (i := 56) (v := ?vd56) rfl (by kernel_rfl) (by kernel_rfl) (by kernel_rfl) (fun _ _ _ h => h) (Or.inl ⟨by rfl, ?hd56⟩) HS0.out ?rd56
            case hd56 => (intro W hW; (try dsimp only at hW); go_simp; try with_reducible rfl)
            simp only [Act.put, List.getElem_toArray, List.getElem_cons_succ, List.getElem_cons_zero, List.setIfInBounds_toArray, List.set_cons_zero, List.set_cons_succ]
            obtain ⟨o1, f1⟩ := HO0.out
            refine wpAnyH_ready (rs := [57]) (by kernel_rfl) (by simp) ?_
            refine AllReadyH.cons rfl (fun K hK => ?_) AllReadyH.nil
            go_simp
            have HE1 := Lib.hid (HR0.out.set1 HG.out j true).drew
            have HS1 := Lib.hid (HSF.out _ HE1.out.2.2.2)
            have HO1 : Hid (((wr.setCell ⟨g1, j, none⟩ (.bool true)).drew).cell? ⟨g2, j, none⟩ = some (.bool false) ∧ ((wr.setCell ⟨g1, j, none⟩ (.bool true)).drew).frozen? ⟨g2, j, none⟩ = false) := Lib.hid ⟨by rw [HE1.out.2.1.at_ hlt6]; simp, HE1.out.2.1.frozen j⟩
            obtain ⟨e1, he1⟩ : ∃ e1, e1 = (wr.setCell ⟨g1, j, none⟩ (.bool true)).drew := ⟨_, rfl⟩
            rw [← he1] at HE1 HS1 HO1 ⊢
            clear he1 o1 f1
            refine hK.out _ _ HS1.out (fun _ => ?_)
            clear hK K
            refine wpAnyH_take (i := 58) (v := ?vd58) rfl (by kernel_rfl) (by kernel_rfl) (by kernel_rfl) (fun _ _ _ h => h) (Or.inl ⟨by rfl, ?hd58⟩) HS1.out ?rd58
            case hd58 => (intro W hW; (try dsimp only at hW); go_simp; try with_reducible rfl)
            simp only [Act.put, List.getElem_toArray, List.getElem_cons_succ, List.getElem_cons_zero, List.setIfInBounds_toArray, List.set_cons_zero, List.set_cons_succ]
            obtain ⟨o1, f1⟩ := HO1.out
            refine wpAnyH_ready (rs := [59]) (by kernel_rfl) (by simp) ?_
            refine AllReadyH.cons rfl (fun K hK => ?_) AllReadyH.nil
            go_simp
            have HE2 := Lib.hid (HE1.out.set2 HG.out j vu)
            have HS2 := Lib.hid (HSF.out _ HE2.out.2.2.2)
            have HO2 : Hid ((e1.setCell ⟨g2, j, none⟩ (.bool vu)).cell? ⟨g3, j, none⟩ = some (.bool false) ∧ (e1.setCell ⟨g2, j, none⟩ (.bool vu)).frozen? ⟨g3, j, none⟩ = false) := Lib.hid ⟨by rw [HE2.out.2.2.1.at_ hlt6]; simp, HE2.out.2.2.1.frozen j⟩
            obtain ⟨e2, he2⟩ : ∃ e2, e2 = e1.setCell ⟨g2, j, none⟩ (.bool vu) := ⟨_, rfl⟩
            rw [← he2] at HE2 HS2 HO2 ⊢
            clear he2 o1 f1
            refine hK.out _ _ HS2.out (fun _ => ?_)
            clear hK K
            refine wpAnyH_take (i := 60) (v := ?vd60) rfl (by kernel_rfl) (by kernel_rfl) (by kernel_rfl) (fun _ _ _ h => h) (Or.inl ⟨by rfl, ?hd60⟩) HS2.out ?rd60
            case hd60 => (intro W hW; (try dsimp only at hW); go_simp; try with_reducible rfl)
            simp only [Act.put, List.getElem_toArray, List.getElem_cons_succ, List.getElem_cons_zero, List.setIfInBounds_toArray, List.set_cons_zero, List.set_cons_succ]
            obtain ⟨o1, f1⟩ := HO2.out
            refine wpAnyH_ready (rs := [61]) (by kernel_rfl) (by simp) ?_
            refine AllReadyH.cons rfl (fun K hK => ?_) AllReadyH.nil
            go_simp
            have HE3 := Lib.hid (HE2.out.set3 HG.out j false)
            have HS3 := Lib.hid (HSF.out _ HE3.out.2.2.2)
            obtain ⟨e3, he3⟩ : ∃ e3, e3 = e2.setCell ⟨g3, j, none⟩ (.bool false) := ⟨_, rfl⟩
            rw [← he3] at HE3 HS3 ⊢
            clear he3 o1 f1
            refine hK.out _ _ HS3.out (fun _ => ?_)
            clear hK K
            refine wpAnyH_done (by kernel_rfl) ?_ _
            refine NoPanic.normal ?_
            go_wp2_with fail
            go_meet
            exact ⟨rfl, Lib.hid (HE3.out.fin (by rw [← HVP.out.1, ← HVP.out.2.1, ← HVP.out.2.2]; cases vu <;> rfl) (by rw [← HVP.out.1, ← HVP.out.2.1, ← HVP.out.2.2]; cases vu <;> rfl) (by rw [← HVP.out.1, ← HVP.out.2.1, ← HVP.out.2.2]; cases vu <;> rfl))⟩
        case rest =>
          obtain ⟨rfl, HR1⟩ := hcut
          clear HR0 HO0
          obtain ⟨k0, k1, _, _⟩ := HSF.out wc HR1.out.2.2.2
          have HHas : Hid (∀ W, Below wc.heap.size wc W → Calls Try.prog 10 #[.slice sA nA xA, .int .i64 (IntKind.i64.wrap ((j : Int) - 300))] W fun e w' => e = .returned (.bool vp) ∧ Below W.heap.size W w') := Lib.hid fun W hW => by
            rw [show IntKind.i64.wrap ((j : Int) - 300) = (j : Int) - 300 by rw [IntKind.wrap_i64]; omega]
            exact has_any sA nA xA M ((j : Int) - 300) vp W (HRA2.out.later (HR1.out.2.2.2.trans (hW.mono HR1.out.2.2.2.size))) (by omega) HTA.out.1 (by rw [HVP.out.1]; exact HTA.out.in_ hlt6)
          have HKP : Hid (∀ W, Below wc.heap.size wc W → W.cell? ⟨bp, 0, none⟩ = some (.slice (some ⟨gp, 0, none⟩) 601 601) ∧ W.cell? ⟨gp, j, none⟩ = some (.bool vp)) := Lib.hid fun W hW => by
            obtain ⟨q0, q1, _, _⟩ := HSF.out W (HR1.out.2.2.2.trans (hW.mono HR1.out.2.2.2.size))
            exact ⟨q0, q1⟩
          have HCnt : Hid (((cntT P (j + 1) : Nat) : Int) = (cntT P j : Int) + (if vp then 1 else 0)) := Lib.hid (by rw [cntT_succ, HVP.out.1]; cases P j <;> simp)
          have hcl := cntT_le P j
          have HEnd : Hid (∀ W, Below wc.heap.size wc W → Rows4 w11 W g1 g2 g3 (fun t => if t < j + 1 then (P t || Q t || U t) else false) (fun t => if t < j + 1 then (P t && Q t && U t) else false) (fun t => if t < j + 1 then (P t && !Q t && !U t) else false)) := Lib.hid fun W hW => ⟨HR1.out.1.later hW, HR1.out.2.1.later hW, HR1.out.2.2.1.later hW, HR1.out.2.2.2.trans (hW.mono HR1.out.2.2.2.size)⟩
          cases vp
          · as_aux_lemma =>
            go_upto_region 14 with fail
            refine wp_region_noPanic ?_
            go_region_held3 (fun W => W.cell? ⟨bp, 0, none⟩ = some (.slice (some ⟨gp, 0, none⟩) 601 601) ∧ W.cell? ⟨gp, j, none⟩ = some (.bool false))
              (first | exact k7 | (refine HKP.out _ ?_; (repeat (first | exact Below.refl _ _ | refine Below.drew ?_)); done) | go_keep)
              (first
                | (go_at_call 10; refine (HHas.out _ (Below.refl _ _).drew).mono ?_; rintro e w4 ⟨rfl, hb4⟩; have k7 := HKP.out w4 ((Below.refl _ _).drew.trans hb4)))
            refine NoPanic.normal ?_
            have HEE := Lib.hid (HEnd.out w4 ((Below.refl _ _).drew.trans hb4))
            clear k7 hb4 k0 k1
            go_wp2
            go_roundg (601 - (j + 1))
            case measure => have := HK.out; omega
            case rel => exact ⟨j + 1, rfl, by omega, by go_num, by rw [HCnt.out]; simp, Lib.hid HEE.out.1, Lib.hid HEE.out.2.1, Lib.hid HEE.out.2.2.1, Lib.hid HEE.out.2.2.2⟩
          · as_aux_lemma =>
            go_upto_region 14 with fail
            refine wp_region_noPanic ?_
            go_region_held3 (fun W => W.cell? ⟨bp, 0, none⟩ = some (.slice (some ⟨gp, 0, none⟩) 601 601) ∧ W.cell? ⟨gp, j, none⟩ = some (.bool true))
              (first | exact k7 | (refine HKP.out _ ?_; (repeat (first | exact Below.refl _ _ | refine Below.drew ?_)); done) | go_keep)
              (first
                | (go_at_call 10; refine (HHas.out _ (Below.refl _ _).drew).mono ?_; rintro e w4 ⟨rfl, hb4⟩; have k7 := HKP.out w4 ((Below.refl _ _).drew.trans hb4)))
            refine NoPanic.normal ?_
            have HEE := Lib.hid (HEnd.out w4 ((Below.refl _ _).drew.trans hb4))
            clear k7 hb4 k0 k1
            go_wp2
            go_roundg (601 - (j + 1))
            case measure => have := HK.out; omega
            case rel => exact ⟨j + 1, rfl, by omega, by go_num, by rw [HCnt.out]; simp, Lib.hid HEE.out.1, Lib.hid HEE.out.2.1, Lib.hid HEE.out.2.2.1, Lib.hid HEE.out.2.2.2⟩
      · obtain rfl : j = 601 := by omega
        have HL1' := Lib.hid (HL1.out.same (Q' := fun t => P t || Q t || U t) fun t ht => by simp [ht])
        have HL2' := Lib.hid (HL2.out.same (Q' := fun t => P t && Q t && U t) fun t ht => by simp [ht])
        have HL3' := Lib.hid (HL3.out.same (Q' := fun t => P t && !Q t && !U t) fun t ht => by simp [ht])
        obtain ⟨CN, hCN⟩ : ∃ CN, CN = cntT P 601 := ⟨_, rfl⟩
        rw [← hCN]
        have HCN := Lib.hid hCN
        clear HL1 HL2 HL3 hCN HK hcp HCPB
        go_wp2
        obtain ⟨w12, hw12⟩ : ∃ w12, w12 = (wr.alloc (.cells #[.int .i64 0] 3)).alloc (.cells #[.int .i64 (-1000)] 3) := ⟨_, rfl⟩
        obtain ⟨bk, hbk⟩ : ∃ bk, bk = wr.heap.size := ⟨_, rfl⟩
        obtain ⟨bl, hbl⟩ : ∃ bl, bl = wr.heap.size + 1 := ⟨_, rfl⟩
        have hk12 : w12.heap[bk]? = some (.cells #[.int .i64 0] 3 (0, 0)) := by rw [hw12, hbk]; exact (Below.heap_alloc _ _ _ (by simp)).trans (heap_alloc_new wr _)
        have hl12 : w12.heap[bl]? = some (.cells #[.int .i64 (-1000)] 3 (0, 0)) := by rw [hw12, hbl]; exact heap_alloc2 wr _ _
        have hb12 : Below wr.heap.size wr w12 := by rw [hw12]; exact (Below.alloc0 _ _).alloc (by simp) _
        have hs12 : w12.heap.size = wr.heap.size + 2 := by rw [hw12]; simp
        rw [← hw12, ← hbl, ← hbk]
        have HN := Lib.hid (And.intro hbk (And.intro hbl hs12))
        have H12 := Lib.hid (And.intro hk12 (And.intro hl12 hb12))
        clear hw12 hbk hbl hk12 hl12 hb12 hs12
        refine (wpIn_wide (n := 3)).1 ?_
        generalize hact : (Act.mk _ []) = act
        have hT : ∀ W, Below wr.heap.size wr W → RdR W sA nA M := fun W hW => (HRA2.out.later HBr.out).later hW
        have HT := Lib.hid hT
        clear hT
        refine range_all sA nA xA M (by omega) HTA.out.ok (by rw [← hact]; rfl) rfl
          (fun pre W => W.heap[bk]? = some (.cells #[.int .i64 (pre.length : Int)] 3 (0, 0)) ∧ W.heap[bl]? = some (.cells #[.int .i64 (lastN pre)] 3 (0, 0)) ∧ Below wr.heap.size wr W)
          (fun _ _ _ => False)
          (fun pre W W' h hW => by
            obtain ⟨e1, e2, e3⟩ := HN.out
            exact ⟨(hW.block bk (by omega)).trans h.1, (hW.block bl (by omega)).trans h.2.1, h.2.2.trans (hW.mono (by omega))⟩)
          (fun _ _ _ _ h _ => h) (fun pre W h => HT.out W h.2.2) ⟨by simpa using H12.out.1, by simpa [lastN] using H12.out.2.1, H12.out.2.2⟩
          (fun x => { tmps := (act.tmps.setIfInBounds 142 (.int .i64 x)).setIfInBounds 23 (.int .i64 x), defers := [] }) ?assign ?body ?done ?stop
        case assign =>
          as_aux_lemma =>
          intro l x W K hK
          subst hact
          simp only [List.setIfInBounds_toArray, List.set_cons_succ, List.set_cons_zero] at hK
          gi_wp2
          exact hK
        case body =>
          as_aux_lemma =>
          rintro l pre x W ⟨h1, h2, h3⟩ hsz hpre
          subst hact
          simp only [List.setIfInBounds_toArray, List.set_cons_succ, List.set_cons_zero]
          obtain ⟨hn1, i, hi, hPi, hx⟩ := HTA.out.next hpre
          have hll : lastN pre < x := lastN_lt hn1 (by omega)
          have d1 : W.cell? ⟨bk, 0, none⟩ = some (.int .i64 (pre.length : Int)) := by rw [cell_of_row W bk 0 _ 3 (0, 0) h1]; rfl
          have d2 : W.cell? ⟨bl, 0, none⟩ = some (.int .i64 (lastN pre)) := by rw [cell_of_row W bl 0 _ 3 (0, 0) h2]; rfl
          have f1 : W.frozen? ⟨bk, 0, none⟩ = false := by simp [World.frozen?, h1]
          have f2 : W.frozen? ⟨bl, 0, none⟩ = false := by simp [World.frozen?, h2]
          have hBW : Below w11.heap.size w11 W := HBr.out.trans (h3.mono HBr.out.size)
          have d3 : W.cell? ⟨bp, 0, none⟩ = some (.slice (some ⟨gp, 0, none⟩) 601 601) := by rw [cell_of_row W bp 0 _ 25 (0, 0) ((hBW.block bp (lt_of_block HCP2.out)).trans HCP2.out)]; rfl
          have d4 := (HBP2.out.later hBW).at_ hi
          rw [hPi] at d4
          have hne : bk ≠ bl := by obtain ⟨e1, e2, e3⟩ := HN.out; omega
          have hpl : pre.length ≤ 1000 := by
            have h9 := hpre.length_le
            rw [HTA.out.len] at h9
            have := cntT_le P 601
            simp at h9
            omega
          have HFin : Hid (∀ W', W' = (W.setCell ⟨bl, 0, none⟩ (.int .i64 x)).setCell ⟨bk, 0, none⟩ (.int .i64 ((pre.length : Int) + 1)) → KeepU w12.heap.size W W' ∧ (W'.heap[bk]? = some (.cells #[.int .i64 ((pre ++ [x]).length : Int)] 3 (0, 0)) ∧ W'.heap[bl]? = some (.cells #[.int .i64 (lastN (pre ++ [x]))] 3 (0, 0)) ∧ Below wr.heap.size wr W')) := Lib.hid (by
            intro W' hW'
            obtain ⟨e1, e2, e3⟩ := HN.out
            subst hW'
            refine ⟨⟨by simp [World.setCell], fun k hk _ => ?_⟩, ?_, ?_, ?_⟩
            · rw [Below.heap_setCell _ _ _ k (by show k ≠ bk; omega), Below.heap_setCell _ _ _ k (by show k ≠ bl; omega)]
            · have h8 := heap_setCell_same (W.setCell ⟨bl, 0, none⟩ (.int .i64 x)) bk 0 _ 3 (.int .i64 ((pre.length : Int) + 1)) ((Below.heap_setCell _ _ _ bk (by show bk ≠ bl; omega)).trans h1)
              rw [h8]; simp
            · rw [Below.heap_setCell _ _ _ bl (by show bl ≠ bk; omega), heap_setCell_same W bl 0 _ 3 (.int .i64 x) h2, lastN_snoc]
              rfl
            · exact (h3.trans (below_set (by omega) _ _)).trans (below_set (by omega) _ _))
          obtain ⟨lt, hlt⟩ : ∃ lt, lt = lastN pre := ⟨_, rfl⟩
          obtain ⟨ln, hln⟩ : ∃ ln, ln = pre.length := ⟨_, rfl⟩
          rw [← hlt] at d2 hll
          rw [← hln] at d1 hpl HFin
          have hxi : x + 300 = (i : Int) := by omega
          clear h1 h2 hn1 hlt hln hx hPi hpre h3 hBW
          gi_wp2
          exact HFin.out _ rfl
        case done =>
          rintro D1 w13 hD1 ⟨hk13, hl13, hb13⟩ hd13
          subst hact
          have hnl := HTA.out.len
          rw [hnl, ← HCN.out] at hk13
          have hmin : (min (numsR M).length 1 : Nat) = min CN 1 := by rw [hnl, ← HCN.out]
          have HMin1 := Lib.hid hmin
          have H13 := Lib.hid (And.intro hk13 (And.intro hb13 hd13))
          have HD1 := Lib.hid hD1
          clear hk13 hl13 hb13 hd13 hnl hmin hD1
          go_wp2
          obtain ⟨w14, hw14⟩ : ∃ w14, w14 = w13.alloc (.cells #[.int .i64 0] 3) := ⟨_, rfl⟩
          obtain ⟨bf, hbf⟩ : ∃ bf, bf = w13.heap.size := ⟨_, rfl⟩
          have hf14 : w14.heap[bf]? = some (.cells #[.int .i64 0] 3 (0, 0)) := by rw [hw14, hbf]; exact heap_alloc_new w13 _
          have hb14 : Below w13.heap.size w13 w14 := by rw [hw14]; exact Below.alloc0 _ _
          have hs14 : w14.heap.size = w13.heap.size + 1 := by rw [hw14]; simp
          rw [← hw14, ← hbf]
          have HF14 := Lib.hid (And.intro hf14 (And.intro hb14 (And.intro hs14 hbf)))
          clear hw14 hf14 hb14 hs14 hbf
          refine (wpIn_wide (n := 3)).1 ?_
          generalize hact : (Act.mk _ _) = act
          refine range_first sA nA xA M (by omega) HTA.out.ok (by rw [← hact]; rfl) rfl w13 bf (by obtain ⟨_, _, h3, h4⟩ := HF14.out; omega) (by obtain ⟨_, _, h3, h4⟩ := HF14.out; omega)
            (fun W hW => HT.out W (H13.out.2.1.trans (hW.mono H13.out.2.1.size))) HF14.out.1 HF14.out.2.1
            (fun x => { tmps := act.tmps.setIfInBounds 159 (.int .i64 x), defers := [] }) ?assign2 ?body2 ?end2
          case assign2 =>
            as_aux_lemma =>
            intro l x W K hK
            refine wpIn_skip ?_
            change K _ _
            simpa using hK
          case body2 =>
            as_aux_lemma =>
            intro l x W h1 h2
            subst hact
            simp only [List.setIfInBounds_toArray, List.set_cons_succ, List.set_cons_zero]
            have d1 : W.cell? ⟨bf, 0, none⟩ = some (.int .i64 0) := by rw [cell_of_row W bf 0 _ 3 (0, 0) h1]; rfl
            have f1 : W.frozen? ⟨bf, 0, none⟩ = false := by simp [World.frozen?, h1]
            have HFin : Hid (∀ W', W' = W.setCell ⟨bf, 0, none⟩ (.int .i64 1) → KeepU w14.heap.size W W' ∧ W'.heap[bf]? = some (.cells #[.int .i64 1] 3 (0, 0)) ∧ Below w13.heap.size w13 W') := Lib.hid (by
              intro W' hW'
              obtain ⟨_, _, e3, e4⟩ := HF14.out
              subst hW'
              refine ⟨⟨by simp [World.setCell], fun k hk _ => ?_⟩, ?_, h2.trans (below_set (by omega) _ _)⟩
              · rw [Below.heap_setCell _ _ _ k (by show k ≠ bf; omega)]
              · rw [heap_setCell_same W bf 0 _ 3 (.int .i64 1) h1]; rfl)
            clear h1 h2
            gi_wp2
            first | exact HFin.out _ rfl | exact ⟨rfl, HFin.out _ rfl⟩
          case end2 =>
            as_aux_lemma =>
            rintro D2 wE hD2 hfE hbE hdE
            subst hact
            rw [HMin1.out] at hfE
            have hbwE : Below wr.heap.size wr wE := H13.out.2.1.trans (hbE.mono H13.out.2.1.size)
            have hcl := cntT_le P 601
            rw [← HCN.out] at hcl
            have HXW : Hid (∀ W, Below wE.heap.size wE W → Below wr.heap.size wr W) := Lib.hid fun W hW => hbwE.trans (hW.mono hbwE.size)
            have HX11 : Hid (∀ W, Below wE.heap.size wE W → Below w11.heap.size w11 W) := Lib.hid fun W hW => HBr.out.trans ((HXW.out W hW).mono HBr.out.size)
            have HSF : Hid (∀ W, Below wE.heap.size wE W → W.cell? ⟨bp, 0, none⟩ = some (.slice (some ⟨gp, 0, none⟩) 601 601) ∧ W.cell? ⟨bk, 0, none⟩ = some (.int .i64 (CN : Int)) ∧ W.cell? ⟨bf, 0, none⟩ = some (.int .i64 (min (CN : Int) 1))) := Lib.hid fun W hW => by
              obtain ⟨e1, e2, e3⟩ := HN.out
              obtain ⟨_, g2', g3', g4'⟩ := HF14.out
              refine ⟨?_, ?_, ?_⟩
              · rw [cell_of_row W bp 0 _ 25 (0, 0) (((HX11.out W hW).block bp (lt_of_block HCP2.out)).trans HCP2.out)]; rfl
              · rw [cell_of_row W bk 0 _ 3 (0, 0) ((hW.block bk (by have := lt_of_block H13.out.1; have := hbE.size; omega)).trans ((hbE.block bk (lt_of_block H13.out.1)).trans H13.out.1))]; rfl
              · rw [cell_of_row W bf 0 _ 3 (0, 0) ((hW.block bf (lt_of_block hfE)).trans hfE)]
                show some (Value.int .i64 ((min CN 1 : Nat) : Int)) = _
                congr 2
                omega
            have HGC : Hid (∀ W, Below wE.heap.size wE W → W.cell? ⟨gr, 0, none⟩ = some (.bool false) ∧ W.frozen? ⟨gr, 0, none⟩ = false) := Lib.hid fun W hW => by
              have h1 := ((HX11.out W hW).block gr (lt_of_block HCR2.out)).trans HCR2.out
              exact ⟨by rw [cell_of_row W gr 0 _ 4 (0, 0) h1]; rfl, by simp [World.frozen?, h1]⟩
            have HNE : Hid (gr < w11.heap.size ∧ bp < w11.heap.size ∧ gr ≠ bp ∧ w11.heap.size ≤ wr.heap.size ∧ bk = wr.heap.size ∧ wr.heap.size + 2 ≤ D1 ∧ D1 < w13.heap.size ∧ bf = w13.heap.size ∧ w13.heap.size + 1 ≤ D2 ∧ D2 < wE.heap.size) := Lib.hid (by
              obtain ⟨e1, e2, e3⟩ := HN.out
              obtain ⟨_, _, q3, q4⟩ := HF14.out
              have h1 := lt_of_block HCR2.out
              have h2 := lt_of_block HCP2.out
              have h3 := HBr.out.size
              have h4 := lt_of_block H13.out.2.2
              have h5 := lt_of_block hdE
              have h6 := HD1.out
              have hne : gr ≠ bp := by
                rintro rfl
                have h7 := HCR2.out
                rw [HCP2.out] at h7
                injection h7 with h7
                injection h7 with h7 _
                simp at h7
              refine ⟨h1, h2, hne, h3, e1, by omega, h4, q4, by omega, h5⟩)
            have HSZ : Hid (∀ W, Below wE.heap.size wE W → (W.setCell ⟨gr, 0, none⟩ (.bool true)).cell? ⟨bp, 0, none⟩ = some (.slice (some ⟨gp, 0, none⟩) 601 601) ∧ (W.setCell ⟨gr, 0, none⟩ (.bool true)).cell? ⟨bk, 0, none⟩ = some (.int .i64 (CN : Int)) ∧ (W.setCell ⟨gr, 0, none⟩ (.bool true)).cell? ⟨bf, 0, none⟩ = some (.int .i64 (min (CN : Int) 1))) := Lib.hid fun W hW => by
              obtain ⟨q1, q2, q3⟩ := HSF.out W hW
              obtain ⟨e1, e2, e3, e4, e5, e6, e7, e8, e9, e10⟩ := HNE.out
              exact ⟨(World.cell?_of_block (w := W) (Below.heap_setCell W _ _ bp (by show bp ≠ gr; omega))).trans q1, (World.cell?_of_block (w := W) (Below.heap_setCell W _ _ bk (by show bk ≠ gr; omega))).trans q2, (World.cell?_of_block (w := W) (Below.heap_setCell W _ _ bf (by show bf ≠ gr; omega))).trans q3⟩
            have HEZ : Hid (∀ W, Below wE.heap.size wE W → (W.setCell ⟨gr, 0, none⟩ (.bool true)).heap[D2]? = some (.deferred (some [])) ∧ ((W.setCell ⟨gr, 0, none⟩ (.bool true)).putObj D2 (.deferred none)).heap[D1]? = some (.deferred (some [])) ∧ (((W.setCell ⟨gr, 0, none⟩ (.bool true)).putObj D2 (.deferred none)).putObj D1 (.deferred none)).cell? ⟨gr, 0, none⟩ = some (.bool true) ∧ Below w.heap.size w (((W.setCell ⟨gr, 0, none⟩ (.bool true)).putObj D2 (.deferred none)).putObj D1 (.deferred none)) ∧ True) := Lib.hid fun W hW => by
              obtain ⟨e1, e2, e3, e4, e5, e6, e7, e8, e9, e10⟩ := HNE.out
              obtain ⟨q1, q2⟩ := HGC.out W hW
              have hsz := hbE.size
              have hww : w.heap.size ≤ w11.heap.size := HBW.out.size
              have hgw := HGR.out
              refine ⟨?_, ?_, ?_, ?_, trivial⟩
              · rw [Below.heap_setCell W _ _ D2 (by show D2 ≠ gr; omega), hW.block D2 e10]; exact hdE
              · rw [World.putObj_heap_other (by omega), Below.heap_setCell W _ _ D1 (by show D1 ≠ gr; omega), hW.block D1 (by omega), hbE.block D1 e7]; exact H13.out.2.2
              · rw [World.cell?_of_block (World.putObj_heap_other (show gr ≠ D1 by omega)), World.cell?_of_block (World.putObj_heap_other (show gr ≠ D2 by omega))]
                exact World.cell?_setCell_same' _ _ _ (by rw [q1]; rfl)
              · exact (((HBW.out.trans ((HX11.out W hW).mono hww)).trans (below_set hgw _ _)).trans (below_put (by omega) _ _)).trans (below_put (by omega) _ _)
            have HSam : Hid (∀ W, Below wE.heap.size wE W → Calls Try.prog 12 #[.slice sA nA xA, .slice (some ⟨gp, 0, none⟩) 601 601] W fun e w' => e = .returned (.bool true) ∧ Below W.heap.size W w') := Lib.hid fun W hW => same_any sA nA xA gp M P W (HT.out W (HXW.out W hW)) (by omega) (HBP2.out.later (HX11.out W hW)) HTA.out
            have HSamB : Hid (∀ W, Below wE.heap.size wE W → Calls Try.prog 12 #[.slice sB nB xB, .slice (some ⟨gq, 0, none⟩) 601 601] W fun e w' => e = .returned (.bool true) ∧ Below W.heap.size W w') := Lib.hid fun W hW => same_any sB nB xB gq N Q W (HRB2.out.later (HX11.out W hW)) (by omega) (HBQ2.out.later (HX11.out W hW)) HTB.out
            have HLenC : Hid (∀ W, Below wE.heap.size wE W → Calls Try.prog 13 #[.slice sA nA xA] W fun e w' => e = .returned (.int .i64 (CN : Int)) ∧ Below W.heap.size W w') := Lib.hid fun W hW => by
              have h1 := setLen_any sA nA xA M W (HT.out W (HXW.out W hW)) (by omega) HTA.out.ok
              rw [sumLen_nums, HTA.out.len, ← HCN.out] at h1
              exact h1
            have HOr : Hid (∀ W bb, Below wE.heap.size wE W → W.heap[bb]? = some (.cells #[.slice sB nB xB, .slice sC nC xC] 27 (0, 0)) → Calls Try.prog 14 #[.slice sA nA xA, .slice (some ⟨bb, 0, none⟩) 2 2] W fun e w' => ∃ a' n' c', e = .returned (.slice a' n' c') ∧ Hid (Asks w' a' n' c' g1) ∧ Hid (Below W.heap.size W w')) := Lib.hid fun W bb hW hbb => orC HTA.out HTB.out HTC.out sA sB sC nA nB nC xA xB xC bb g1 W (HT.out W (HXW.out W hW)) (HRB2.out.later (HX11.out W hW)) (HRC2.out.later (HX11.out W hW)) hbb (HL1'.out.later (HXW.out W hW))
            have HAnd : Hid (∀ W bb, Below wE.heap.size wE W → W.heap[bb]? = some (.cells #[.slice sB nB xB, .slice sC nC xC] 27 (0, 0)) → Calls Try.prog 15 #[.slice sA nA xA, .slice (some ⟨bb, 0, none⟩) 2 2] W fun e w' => ∃ a' n' c', e = .returned (.slice a' n' c') ∧ Hid (Asks w' a' n' c' g2) ∧ Hid (Below W.heap.size W w')) := Lib.hid fun W bb hW hbb => andC HTA.out HTB.out HTC.out sA sB sC nA nB nC xA xB xC bb g2 W (HT.out W (HXW.out W hW)) (HRB2.out.later (HX11.out W hW)) (HRC2.out.later (HX11.out W hW)) hbb (HL2'.out.later (HXW.out W hW))
            have HMin : Hid (∀ W bb, Below wE.heap.size wE W → W.heap[bb]? = some (.cells #[.slice sB nB xB, .slice sC nC xC] 27 (0, 0)) → Calls Try.prog 16 #[.slice sA nA xA, .slice (some ⟨bb, 0, none⟩) 2 2] W fun e w' => ∃ a' n' c', e = .returned (.slice a' n' c') ∧ Hid (Asks w' a' n' c' g3) ∧ Hid (Below W.heap.size W w')) := Lib.hid fun W bb hW hbb => minusC HTA.out HTB.out HTC.out sA sB sC nA nB nC xA xB xC bb g3 W (HT.out W (HXW.out W hW)) (HRB2.out.later (HX11.out W hW)) (HRC2.out.later (HX11.out W hW)) hbb (HL3'.out.later (HXW.out W hW))
            have HOr0 : Hid (∀ W, Below wE.heap.size wE W → Calls Try.prog 14 #[.slice sA nA xA, .slice none 0 0] W fun e w' => ∃ a' n' c', e = .returned (.slice a' n' c') ∧ Hid (Asks w' a' n' c' gp) ∧ Hid (Below W.heap.size W w')) := Lib.hid fun W hW => or0C HTA.out sA nA xA gp W (HT.out W (HXW.out W hW)) (HBP2.out.later (HX11.out W hW))
            have HAnd0 : Hid (∀ W, Below wE.heap.size wE W → Calls Try.prog 15 #[.slice sA nA xA, .slice none 0 0] W fun e w' => ∃ a' n' c', e = .returned (.slice a' n' c') ∧ Hid (Asks w' a' n' c' gp) ∧ Hid (Below W.heap.size W w')) := Lib.hid fun W hW => and0C HTA.out sA nA xA gp W (HT.out W (HXW.out W hW)) (HBP2.out.later (HX11.out W hW))
            have HMin0 : Hid (∀ W, Below wE.heap.size wE W → Calls Try.prog 16 #[.slice sA nA xA, .slice none 0 0] W fun e w' => ∃ a' n' c', e = .returned (.slice a' n' c') ∧ Hid (Asks w' a' n' c' gp) ∧ Hid (Below W.heap.size W w')) := Lib.hid fun W hW => minus0C HTA.out sA nA xA gp W (HT.out W (HXW.out W hW)) (HBP2.out.later (HX11.out W hW))
            have HB0 : Hid (Below wE.heap.size wE wE.drew) := Lib.hid (Below.refl _ _).drew
            have HS0 : Hid (wE.cell? ⟨bp, 0, none⟩ = some (.slice (some ⟨gp, 0, none⟩) 601 601) ∧ wE.cell? ⟨bk, 0, none⟩ = some (.int .i64 (CN : Int)) ∧ wE.cell? ⟨bf, 0, none⟩ = some (.int .i64 (min (CN : Int) 1))) := Lib.hid (HSF.out wE (Below.refl _ _))
            clear hD2 hfE hbE hdE hbwE HTA HTB HTC HRA2 HRB2 HRC2 HBP2 HBQ2 HBO2 HCR2 HCP2 HBW HBr H12 HF14 H13 HN HL1' HL2' HL3' HT HG HG0 HXW HX11 HNE HD1 HMin1 HCN
            go_upto_region 27 with fail
            simp only [List.append_eq, List.cons_append, List.nil_append]
            refine wp_region_noPanic ?_
            refine wp_region_held_drew (S := fun W => W.cell? ⟨bp, 0, none⟩ = some (.slice (some ⟨gp, 0, none⟩) 601 601) ∧ W.cell? ⟨bk, 0, none⟩ = some (.int .i64 (CN : Int)) ∧ W.cell? ⟨bf, 0, none⟩ = some (.int .i64 (min (CN : Int) 1))) (by kernel_rfl) HS0.out (fun _ => ?_)
            refine wpAnyH_take (i := 0) (v := ?vz0) rfl (by kernel_rfl) (by kernel_rfl) (by kernel_rfl) (fun _ _ _ h => h) (Or.inl ⟨by rfl, ?hz0⟩) HS0.out ?rz0
            case hz0 => (intro W hW; (try dsimp only at hW); go_simp; try with_reducible rfl)
            simp only [Act.put, List.getElem_toArray, List.getElem_cons_succ, List.getElem_cons_zero, List.setIfInBounds_toArray, List.set_cons_zero, List.set_cons_succ]
            refine wpAnyH_take (i := 1) (v := ?vz1) rfl (by kernel_rfl) (by kernel_rfl) (by kernel_rfl) (fun _ _ _ h => h) (Or.inl ⟨by rfl, ?hz1⟩) HS0.out ?rz1
            case hz1 => (intro W hW; (try dsimp only at hW); go_simp; try with_reducible rfl)
            simp only [Act.put, List.getElem_toArray, List.getElem_cons_succ, List.getElem_cons_zero, List.setIfInBounds_toArray, List.set_cons_zero, List.set_cons_succ]
            refine wpAnyH_ready (rs := [2]) (by kernel_rfl) (by simp) ?_
            refine AllReadyH.cons rfl (fun K hK => ?_) AllReadyH.nil
            go_simp
            refine (HSam.out _ HB0.out).mono ?_
            rintro e vs1 ⟨rfl, hbs1⟩
            have HBs1 : Hid (Below wE.heap.size wE vs1) := Lib.hid (HB0.out.trans (hbs1.mono HB0.out.size))
            clear hbs1
            have HSs1 := Lib.hid (HSF.out _ HBs1.out)
            refine hK.out _ _ HSs1.out (fun _ => ?_)
            clear hK K
            refine wpAnyH_take (i := 3) (v := ?vz3) rfl (by kernel_rfl) (by kernel_rfl) (by kernel_rfl) (fun _ _ _ h => h) (Or.inl ⟨by rfl, ?hz3⟩) HSs1.out ?rz3
            case hz3 => (intro W hW; (try dsimp only at hW); go_simp; try with_reducible rfl)
            simp only [Act.put, List.getElem_toArray, List.getElem_cons_succ, List.getElem_cons_zero, List.setIfInBounds_toArray, List.set_cons_zero, List.set_cons_succ]
            refine wpAnyH_take (i := 4) (v := ?vz4) rfl (by kernel_rfl) (by kernel_rfl) (by kernel_rfl) (fun _ _ _ h => h) (Or.inl ⟨by rfl, ?hz4⟩) HSs1.out ?rz4
            case hz4 => (intro W hW; (try dsimp only at hW); go_simp; try with_reducible rfl)
            simp only [Act.put, List.getElem_toArray, List.getElem_cons_succ, List.getElem_cons_zero, List.setIfInBounds_toArray, List.set_cons_zero, List.set_cons_succ]
            refine wpAnyH_take (i := 6) (v := ?vz6) rfl (by kernel_rfl) (by kernel_rfl) (by kernel_rfl) (fun _ _ _ h => h) (Or.inl ⟨by rfl, ?hz6⟩) HSs1.out ?rz6
            case hz6 => (intro W hW; (try dsimp only at hW); go_simp; try with_reducible rfl)
            simp only [Act.put, List.getElem_toArray, List.getElem_cons_succ, List.getElem_cons_zero, List.setIfInBounds_toArray, List.set_cons_zero, List.set_cons_succ]
            refine wpAnyH_ready (rs := [5]) (by kernel_rfl) (by simp) ?_
            refine AllReadyH.cons rfl (fun K hK => ?_) AllReadyH.nil
            go_simp
            refine (HLenC.out _ HBs1.out).mono ?_
            rintro e vs2 ⟨rfl, hbs2⟩
            have HBs2 : Hid (Below wE.heap.size wE vs2) := Lib.hid (HBs1.out.trans (hbs2.mono HBs1.out.size))
            clear hbs2
            have HSs2 := Lib.hid (HSF.out _ HBs2.out)
            refine hK.out _ _ HSs2.out (fun _ => ?_)
            clear hK K
            refine wpAnyH_take (i := 7) (v := ?vz7) rfl (by kernel_rfl) (by kernel_rfl) (by kernel_rfl) (fun _ _ _ h => h) (Or.inl ⟨by rfl, ?hz7⟩) HSs2.out ?rz7
            case hz7 => (intro W hW; (try dsimp only at hW); go_simp; try with_reducible rfl)
            simp only [Act.put, List.getElem_toArray, List.getElem_cons_succ, List.getElem_cons_zero, List.setIfInBounds_toArray, List.set_cons_zero, List.set_cons_succ]
            refine wpAnyH_take (i := 8) (v := ?vz8) rfl (by kernel_rfl) (by kernel_rfl) (by kernel_rfl) (fun _ _ _ h => h) (Or.inl ⟨by rfl, ?hz8⟩) HSs2.out ?rz8
            case hz8 => (intro W hW; (try dsimp only at hW); go_simp; try with_reducible rfl)
            simp only [Act.put, List.getElem_toArray, List.getElem_cons_succ, List.getElem_cons_zero, List.setIfInBounds_toArray, List.set_cons_zero, List.set_cons_succ]
            refine wpAnyH_take (i := 9) (v := ?vz9) rfl (by kernel_rfl) (by kernel_rfl) (by kernel_rfl) (fun _ _ _ h => h) (Or.inl ⟨by rfl, ?hz9⟩) HSs2.out ?rz9
            case hz9 => (intro W hW; (try dsimp only at hW); go_simp; try with_reducible rfl)
            simp only [Act.put, List.getElem_toArray, List.getElem_cons_succ, List.getElem_cons_zero, List.setIfInBounds_toArray, List.set_cons_zero, List.set_cons_succ]
            refine wpAnyH_take (i := 10) (v := ?vz10) rfl (by kernel_rfl) (by kernel_rfl) (by kernel_rfl) (fun _ _ _ h => h) (Or.inl ⟨by rfl, ?hz10⟩) HSs2.out ?rz10
            case hz10 => (intro W hW; (try dsimp only at hW); go_simp; try with_reducible rfl)
            simp only [Act.put, List.getElem_toArray, List.getElem_cons_succ, List.getElem_cons_zero, List.setIfInBounds_toArray, List.set_cons_zero, List.set_cons_succ]
            refine wpAnyH_take (i := 11) (v := ?vz11) rfl (by kernel_rfl) (by kernel_rfl) (by kernel_rfl) (fun _ _ _ h => h) (Or.inl ⟨by rfl, ?hz11⟩) HSs2.out ?rz11
            case hz11 => (intro W hW; (try dsimp only at hW); go_simp; try with_reducible rfl)
            simp only [Act.put, List.getElem_toArray, List.getElem_cons_succ, List.getElem_cons_zero, List.setIfInBounds_toArray, List.set_cons_zero, List.set_cons_succ]
            refine wpAnyH_take (i := 12) (v := ?vz12) rfl (by kernel_rfl) (by kernel_rfl) (by kernel_rfl) (fun _ _ _ h => h) (Or.inl ⟨by rfl, ?hz12⟩) HSs2.out ?rz12
            case hz12 => (intro W hW; (try dsimp only at hW); go_simp; try with_reducible rfl)
            simp only [Act.put, List.getElem_toArray, List.getElem_cons_succ, List.getElem_cons_zero, List.setIfInBounds_toArray, List.set_cons_zero, List.set_cons_succ]
            refine wpAnyH_take (i := 13) (v := ?vz13) rfl (by kernel_rfl) (by kernel_rfl) (by kernel_rfl) (fun _ _ _ h => h) (Or.inl ⟨by rfl, ?hz13⟩) HSs2.out ?rz13
            case hz13 => (intro W hW; (try dsimp only at hW); go_simp; try with_reducible rfl)
            simp only [Act.put, List.getElem_toArray, List.getElem_cons_succ, List.getElem_cons_zero, List.setIfInBounds_toArray, List.set_cons_zero, List.set_cons_succ]
            refine wpAnyH_take (i := 14) (v := ?vz14) rfl (by kernel_rfl) (by kernel_rfl) (by kernel_rfl) (fun _ _ _ h => h) (Or.inl ⟨by rfl, ?hz14⟩) HSs2.out ?rz14
            case hz14 => (intro W hW; (try dsimp only at hW); go_simp; try with_reducible rfl)
            simp only [Act.put, List.getElem_toArray, List.getElem_cons_succ, List.getElem_cons_zero, List.setIfInBounds_toArray, List.set_cons_zero, List.set_cons_succ]
            refine wpAnyH_take (i := 15) (v := ?vz15) rfl (by kernel_rfl) (by kernel_rfl) (by kernel_rfl) (fun _ _ _ h => h) (Or.inl ⟨by rfl, ?hz15⟩) HSs2.out ?rz15
            case hz15 => (intro W hW; (try dsimp only at hW); go_simp; try with_reducible rfl)
            simp only [Act.put, List.getElem_toArray, List.getElem_cons_succ, List.getElem_cons_zero, List.setIfInBounds_toArray, List.set_cons_zero, List.set_cons_succ]
            refine wpAnyH_take (i := 16) (v := ?vz16) rfl (by kernel_rfl) (by kernel_rfl) (by kernel_rfl) (fun _ _ _ h => h) (Or.inl ⟨by rfl, ?hz16⟩) HSs2.out ?rz16
            case hz16 => (intro W hW; (try dsimp only at hW); go_simp; try with_reducible rfl)
            simp only [Act.put, List.getElem_toArray, List.getElem_cons_succ, List.getElem_cons_zero, List.setIfInBounds_toArray, List.set_cons_zero, List.set_cons_succ]
            refine wpAnyH_take (i := 17) (v := ?vz17) rfl (by kernel_rfl) (by kernel_rfl) (by kernel_rfl) (fun _ _ _ h => h) (Or.inl ⟨by rfl, ?hz17⟩) HSs2.out ?rz17
            case hz17 => (intro W hW; (try dsimp only at hW); go_simp; try with_reducible rfl)
            simp only [Act.put, List.getElem_toArray, List.getElem_cons_succ, List.getElem_cons_zero, List.setIfInBounds_toArray, List.set_cons_zero, List.set_cons_succ]
            refine wpAnyH_take (i := 18) (v := ?vz18) rfl (by kernel_rfl) (by kernel_rfl) (by kernel_rfl) (fun _ _ _ h => h) (Or.inl ⟨by rfl, ?hz18⟩) HSs2.out ?rz18
            case hz18 => (intro W hW; (try dsimp only at hW); go_simp; try with_reducible rfl)
            simp only [Act.put, List.getElem_toArray, List.getElem_cons_succ, List.getElem_cons_zero, List.setIfInBounds_toArray, List.set_cons_zero, List.set_cons_succ]
            refine wpAnyH_take (i := 19) (v := ?vz19) rfl (by kernel_rfl) (by kernel_rfl) (by kernel_rfl) (fun _ _ _ h => h) (Or.inl ⟨by rfl, ?hz19⟩) HSs2.out ?rz19
            case hz19 => (intro W hW; (try dsimp only at hW); go_simp; try with_reducible rfl)
            simp only [Act.put, List.getElem_toArray, List.getElem_cons_succ, List.getElem_cons_zero, List.setIfInBounds_toArray, List.set_cons_zero, List.set_cons_succ]
            refine wpAnyH_take (i := 20) (v := ?vz20) rfl (by kernel_rfl) (by kernel_rfl) (by kernel_rfl) (fun _ _ _ h => h) (Or.inl ⟨by rfl, ?hz20⟩) HSs2.out ?rz20
            case hz20 => (intro W hW; (try dsimp only at hW); go_simp; try with_reducible rfl)
            simp only [Act.put, List.getElem_toArray, List.getElem_cons_succ, List.getElem_cons_zero, List.setIfInBounds_toArray, List.set_cons_zero, List.set_cons_succ]
            refine wpAnyH_take (i := 21) (v := ?vz21) rfl (by kernel_rfl) (by kernel_rfl) (by kernel_rfl) (fun _ _ _ h => h) (Or.inl ⟨by rfl, ?hz21⟩) HSs2.out ?rz21
            case hz21 => (intro W hW; (try dsimp only at hW); go_simp; try with_reducible rfl)
            simp only [Act.put, List.getElem_toArray, List.getElem_cons_succ, List.getElem_cons_zero, List.setIfInBounds_toArray, List.set_cons_zero, List.set_cons_succ]
            refine wpAnyH_take (i := 22) (v := ?vz22) rfl (by kernel_rfl) (by kernel_rfl) (by kernel_rfl) (fun _ _ _ h => h) (Or.inl ⟨by rfl, ?hz22⟩) HSs2.out ?rz22
            case hz22 => (intro W hW; (try dsimp only at hW); go_simp; try with_reducible rfl)
            simp only [Act.put, List.getElem_toArray, List.getElem_cons_succ, List.getElem_cons_zero, List.setIfInBounds_toArray, List.set_cons_zero, List.set_cons_succ]
            refine wpAnyH_take (i := 23) (v := ?vz23) rfl (by kernel_rfl) (by kernel_rfl) (by kernel_rfl) (fun _ _ _ h => h) (Or.inl ⟨by rfl, ?hz23⟩) HSs2.out ?rz23
            case hz23 => (intro W hW; (try dsimp only at hW); go_simp; try with_reducible rfl)
            simp only [Act.put, List.getElem_toArray, List.getElem_cons_succ, List.getElem_cons_zero, List.setIfInBounds_toArray, List.set_cons_zero, List.set_cons_succ]
            refine wpAnyH_take (i := 26) (v := ?vz26) rfl (by kernel_rfl) (by kernel_rfl) (by kernel_rfl) (fun _ _ _ h => h) (Or.inl ⟨by rfl, ?hz26⟩) HSs2.out ?rz26
            case hz26 => (intro W hW; (try dsimp only at hW); go_simp; try with_reducible rfl)
            simp only [Act.put, List.getElem_toArray, List.getElem_cons_succ, List.getElem_cons_zero, List.setIfInBounds_toArray, List.set_cons_zero, List.set_cons_succ]
            refine wpAnyH_ready (rs := [24]) (by kernel_rfl) (by simp) ?_
            refine AllReadyH.cons rfl (fun K hK => ?_) AllReadyH.nil
            go_simp
            obtain ⟨vs3, hvs3⟩ : ∃ vs3, vs3 = vs2.alloc (.cells #[.slice sB nB xB, .slice sC nC xC] 27) := ⟨_, rfl⟩
            obtain ⟨bs3, hxs3⟩ : ∃ bs3, bs3 = vs2.heap.size := ⟨_, rfl⟩
            have HDs3 : Hid (vs3.heap[bs3]? = some (.cells #[.slice sB nB xB, .slice sC nC xC] 27 (0, 0))) := Lib.hid (by rw [hvs3, hxs3]; exact heap_alloc_new _ _)
            have HBs3 : Hid (Below wE.heap.size wE vs3) := Lib.hid (by rw [hvs3]; exact HBs2.out.alloc HBs2.out.size _)
            rw [← hvs3, ← hxs3]
            clear hvs3 hxs3
            have HSs3 := Lib.hid (HSF.out _ HBs3.out)
            refine hK.out _ _ HSs3.out (fun _ => ?_)
            clear hK K
            refine wpAnyH_ready (rs := [25]) (by kernel_rfl) (by simp) ?_
            refine AllReadyH.cons rfl (fun K hK => ?_) AllReadyH.nil
            go_simp
            refine (HOr.out _ _ HBs3.out HDs3.out).mono ?_
            rintro e vs4 ⟨as4, ns4, cs4, rfl, HAs4, HQs4⟩
            have HBs4 : Hid (Below wE.heap.size wE vs4) := Lib.hid (HBs3.out.trans (HQs4.out.mono HBs3.out.size))
            have HSs4 := Lib.hid (HSF.out _ HBs4.out)
            refine hK.out _ _ HSs4.out (fun _ => ?_)
            clear hK K
            refine wpAnyH_ready (rs := [27]) (by kernel_rfl) (by simp) ?_
            refine AllReadyH.cons rfl (fun K hK => ?_) AllReadyH.nil
            go_simp
            refine (HAs4.out _ (Below.refl _ _)).mono ?_
            rintro e vs5 ⟨rfl, hbs5⟩
            have HBs5 : Hid (Below wE.heap.size wE vs5) := Lib.hid (HBs4.out.trans (hbs5.mono HBs4.out.size))
            clear hbs5
            have HSs5 := Lib.hid (HSF.out _ HBs5.out)
            refine hK.out _ _ HSs5.out (fun _ => ?_)
            clear hK K
            refine wpAnyH_take (i := 28) (v := ?vz28) rfl (by kernel_rfl) (by kernel_rfl) (by kernel_rfl) (fun _ _ _ h => h) (Or.inl ⟨by rfl, ?hz28⟩) HSs5.out ?rz28
            case hz28 => (intro W hW; (try dsimp only at hW); go_simp; try with_reducible rfl)
            simp only [Act.put, List.getElem_toArray, List.getElem_cons_succ, List.getElem_cons_zero, List.setIfInBounds_toArray, List.set_cons_zero, List.set_cons_succ]
            refine wpAnyH_take (i := 29) (v := ?vz29) rfl (by kernel_rfl) (by kernel_rfl) (by kernel_rfl) (fun _ _ _ h => h) (Or.inl ⟨by rfl, ?hz29⟩) HSs5.out ?rz29
            case hz29 => (intro W hW; (try dsimp only at hW); go_simp; try with_reducible rfl)
            simp only [Act.put, List.getElem_toArray, List.getElem_cons_succ, List.getElem_cons_zero, List.setIfInBounds_toArray, List.set_cons_zero, List.set_cons_succ]
            refine wpAnyH_take (i := 30) (v := ?vz30) rfl (by kernel_rfl) (by kernel_rfl) (by kernel_rfl) (fun _ _ _ h => h) (Or.inl ⟨by rfl, ?hz30⟩) HSs5.out ?rz30
            case hz30 => (intro W hW; (try dsimp only at hW); go_simp; try with_reducible rfl)
            simp only [Act.put, List.getElem_toArray, List.getElem_cons_succ, List.getElem_cons_zero, List.setIfInBounds_toArray, List.set_cons_zero, List.set_cons_succ]
            refine wpAnyH_take (i := 31) (v := ?vz31) rfl (by kernel_rfl) (by kernel_rfl) (by kernel_rfl) (fun _ _ _ h => h) (Or.inl ⟨by rfl, ?hz31⟩) HSs5.out ?rz31
            case hz31 => (intro W hW; (try dsimp only at hW); go_simp; try with_reducible rfl)
            simp only [Act.put, List.getElem_toArray, List.getElem_cons_succ, List.getElem_cons_zero, List.setIfInBounds_toArray, List.set_cons_zero, List.set_cons_succ]
            refine wpAnyH_take (i := 32) (v := ?vz32) rfl (by kernel_rfl) (by kernel_rfl) (by kernel_rfl) (fun _ _ _ h => h) (Or.inl ⟨by rfl, ?hz32⟩) HSs5.out ?rz32
            case hz32 => (intro W hW; (try dsimp only at hW); go_simp; try with_reducible rfl)
            simp only [Act.put, List.getElem_toArray, List.getElem_cons_succ, List.getElem_cons_zero, List.setIfInBounds_toArray, List.set_cons_zero, List.set_cons_succ]
            refine wpAnyH_take (i := 35) (v := ?vz35) rfl (by kernel_rfl) (by kernel_rfl) (by kernel_rfl) (fun _ _ _ h => h) (Or.inl ⟨by rfl, ?hz35⟩) HSs5.out ?rz35
            case hz35 => (intro W hW; (try dsimp only at hW); go_simp; try with_reducible rfl)
            simp only [Act.put, List.getElem_toArray, List.getElem_cons_succ, List.getElem_cons_zero, List.setIfInBounds_toArray, List.set_cons_zero, List.set_cons_succ]
            refine wpAnyH_ready (rs := [33]) (by kernel_rfl) (by simp) ?_
            refine AllReadyH.cons rfl (fun K hK => ?_) AllReadyH.nil
            go_simp
            obtain ⟨vs6, hvs6⟩ : ∃ vs6, vs6 = vs5.alloc (.cells #[.slice sB nB xB, .slice sC nC xC] 27) := ⟨_, rfl⟩
            obtain ⟨bs6, hxs6⟩ : ∃ bs6, bs6 = vs5.heap.size := ⟨_, rfl⟩
            have HDs6 : Hid (vs6.heap[bs6]? = some (.cells #[.slice sB nB xB, .slice sC nC xC] 27 (0, 0))) := Lib.hid (by rw [hvs6, hxs6]; exact heap_alloc_new _ _)
            have HBs6 : Hid (Below wE.heap.size wE vs6) := Lib.hid (by rw [hvs6]; exact HBs5.out.alloc HBs5.out.size _)
            rw [← hvs6, ← hxs6]
            clear hvs6 hxs6
            have HSs6 := Lib.hid (HSF.out _ HBs6.out)
            refine hK.out _ _ HSs6.out (fun _ => ?_)
            clear hK K
            refine wpAnyH_ready (rs := [34]) (by kernel_rfl) (by simp) ?_
            refine AllReadyH.cons rfl (fun K hK => ?_) AllReadyH.nil
            go_simp
            refine (HAnd.out _ _ HBs6.out HDs6.out).mono ?_
            rintro e vs7 ⟨as7, ns7, cs7, rfl, HAs7, HQs7⟩
            have HBs7 : Hid (Below wE.heap.size wE vs7) := Lib.hid (HBs6.out.trans (HQs7.out.mono HBs6.out.size))
            have HSs7 := Lib.hid (HSF.out _ HBs7.out)
            refine hK.out _ _ HSs7.out (fun _ => ?_)
            clear hK K
            refine wpAnyH_ready (rs := [36]) (by kernel_rfl) (by simp) ?_
            refine AllReadyH.cons rfl (fun K hK => ?_) AllReadyH.nil
            go_simp
            refine (HAs7.out _ (Below.refl _ _)).mono ?_
            rintro e vs8 ⟨rfl, hbs8⟩
            have HBs8 : Hid (Below wE.heap.size wE vs8) := Lib.hid (HBs7.out.trans (hbs8.mono HBs7.out.size))
            clear hbs8
            have HSs8 := Lib.hid (HSF.out _ HBs8.out)
            refine hK.out _ _ HSs8.out (fun _ => ?_)
            clear hK K
            refine wpAnyH_take (i := 37) (v := ?vz37) rfl (by kernel_rfl) (by kernel_rfl) (by kernel_rfl) (fun _ _ _ h => h) (Or.inl ⟨by rfl, ?hz37⟩) HSs8.out ?rz37
            case hz37 => (intro W hW; (try dsimp only at hW); go_simp; try with_reducible rfl)
            simp only [Act.put, List.getElem_toArray, List.getElem_cons_succ, List.getElem_cons_zero, List.setIfInBounds_toArray, List.set_cons_zero, List.set_cons_succ]
            refine wpAnyH_take (i := 38) (v := ?vz38) rfl (by kernel_rfl) (by kernel_rfl) (by kernel_rfl) (fun _ _ _ h => h) (Or.inl ⟨by rfl, ?hz38⟩) HSs8.out ?rz38
            case hz38 => (intro W hW; (try dsimp only at hW); go_simp; try with_reducible rfl)
            simp only [Act.put, List.getElem_toArray, List.getElem_cons_succ, List.getElem_cons_zero, List.setIfInBounds_toArray, List.set_cons_zero, List.set_cons_succ]
            refine wpAnyH_take (i := 39) (v := ?vz39) rfl (by kernel_rfl) (by kernel_rfl) (by kernel_rfl) (fun _ _ _ h => h) (Or.inl ⟨by rfl, ?hz39⟩) HSs8.out ?rz39
            case hz39 => (intro W hW; (try dsimp only at hW); go_simp; try with_reducible rfl)
            simp only [Act.put, List.getElem_toArray, List.getElem_cons_succ, List.getElem_cons_zero, List.setIfInBounds_toArray, List.set_cons_zero, List.set_cons_succ]
            refine wpAnyH_take (i := 40) (v := ?vz40) rfl (by kernel_rfl) (by kernel_rfl) (by kernel_rfl) (fun _ _ _ h => h) (Or.inl ⟨by rfl, ?hz40⟩) HSs8.out ?rz40
            case hz40 => (intro W hW; (try dsimp only at hW); go_simp; try with_reducible rfl)
            simp only [Act.put, List.getElem_toArray, List.getElem_cons_succ, List.getElem_cons_zero, List.setIfInBounds_toArray, List.set_cons_zero, List.set_cons_succ]
            refine wpAnyH_take (i := 41) (v := ?vz41) rfl (by kernel_rfl) (by kernel_rfl) (by kernel_rfl) (fun _ _ _ h => h) (Or.inl ⟨by rfl, ?hz41⟩) HSs8.out ?rz41
            case hz41 => (intro W hW; (try dsimp only at hW); go_simp; try with_reducible rfl)
            simp only [Act.put, List.getElem_toArray, List.getElem_cons_succ, List.getElem_cons_zero, List.setIfInBounds_toArray, List.set_cons_zero, List.set_cons_succ]
            refine wpAnyH_take (i := 44) (v := ?vz44) rfl (by kernel_rfl) (by kernel_rfl) (by kernel_rfl) (fun _ _ _ h => h) (Or.inl ⟨by rfl, ?hz44⟩) HSs8.out ?rz44
            case hz44 => (intro W hW; (try dsimp only at hW); go_simp; try with_reducible rfl)
            simp only [Act.put, List.getElem_toArray, List.getElem_cons_succ, List.getElem_cons_zero, List.setIfInBounds_toArray, List.set_cons_zero, List.set_cons_succ]
            refine wpAnyH_ready (rs := [42]) (by kernel_rfl) (by simp) ?_
            refine AllReadyH.cons rfl (fun K hK => ?_) AllReadyH.nil
            go_simp
            obtain ⟨vs9, hvs9⟩ : ∃ vs9, vs9 = vs8.alloc (.cells #[.slice sB nB xB, .slice sC nC xC] 27) := ⟨_, rfl⟩
            obtain ⟨bs9, hxs9⟩ : ∃ bs9, bs9 = vs8.heap.size := ⟨_, rfl⟩
            have HDs9 : Hid (vs9.heap[bs9]? = some (.cells #[.slice sB nB xB, .slice sC nC xC] 27 (0, 0))) := Lib.hid (by rw [hvs9, hxs9]; exact heap_alloc_new _ _)
            have HBs9 : Hid (Below wE.heap.size wE vs9) := Lib.hid (by rw [hvs9]; exact HBs8.out.alloc HBs8.out.size _)
            rw [← hvs9, ← hxs9]
            clear hvs9 hxs9
            have HSs9 := Lib.hid (HSF.out _ HBs9.out)
            refine hK.out _ _ HSs9.out (fun _ => ?_)
            clear hK K
            refine wpAnyH_ready (rs := [43]) (by kernel_rfl) (by simp) ?_
            refine AllReadyH.cons rfl (fun K hK => ?_) AllReadyH.nil
            go_simp
            refine (HMin.out _ _ HBs9.out HDs9.out).mono ?_
            rintro e vs10 ⟨as10, ns10, cs10, rfl, HAs10, HQs10⟩
            have HBs10 : Hid (Below wE.heap.size wE vs10) := Lib.hid (HBs9.out.trans (HQs10.out.mono HBs9.out.size))
            have HSs10 := Lib.hid (HSF.out _ HBs10.out)
            refine hK.out _ _ HSs10.out (fun _ => ?_)
            clear hK K
            refine wpAnyH_ready (rs := [45]) (by kernel_rfl) (by simp) ?_
            refine AllReadyH.cons rfl (fun K hK => ?_) AllReadyH.nil
            go_simp
            refine (HAs10.out _ (Below.refl _ _)).mono ?_
            rintro e vs11 ⟨rfl, hbs11⟩
            have HBs11 : Hid (Below wE.heap.size wE vs11) := Lib.hid (HBs10.out.trans (hbs11.mono HBs10.out.size))
            clear hbs11
            have HSs11 := Lib.hid (HSF.out _ HBs11.out)
            refine hK.out _ _ HSs11.out (fun _ => ?_)
            clear hK K
            refine wpAnyH_take (i := 46) (v := ?vz46) rfl (by kernel_rfl) (by kernel_rfl) (by kernel_rfl) (fun _ _ _ h => h) (Or.inl ⟨by rfl, ?hz46⟩) HSs11.out ?rz46
            case hz46 => (intro W hW; (try dsimp only at hW); go_simp; try with_reducible rfl)
            simp only [Act.put, List.getElem_toArray, List.getElem_cons_succ, List.getElem_cons_zero, List.setIfInBounds_toArray, List.set_cons_zero, List.set_cons_succ]
            refine wpAnyH_take (i := 47) (v := ?vz47) rfl (by kernel_rfl) (by kernel_rfl) (by kernel_rfl) (fun _ _ _ h => h) (Or.inl ⟨by rfl, ?hz47⟩) HSs11.out ?rz47
            case hz47 => (intro W hW; (try dsimp only at hW); go_simp; try with_reducible rfl)
            simp only [Act.put, List.getElem_toArray, List.getElem_cons_succ, List.getElem_cons_zero, List.setIfInBounds_toArray, List.set_cons_zero, List.set_cons_succ]
            refine wpAnyH_take (i := 48) (v := ?vz48) rfl (by kernel_rfl) (by kernel_rfl) (by kernel_rfl) (fun _ _ _ h => h) (Or.inl ⟨by rfl, ?hz48⟩) HSs11.out ?rz48
            case hz48 => (intro W hW; (try dsimp only at hW); go_simp; try with_reducible rfl)
            simp only [Act.put, List.getElem_toArray, List.getElem_cons_succ, List.getElem_cons_zero, List.setIfInBounds_toArray, List.set_cons_zero, List.set_cons_succ]
            refine wpAnyH_take (i := 50) (v := ?vz50) rfl (by kernel_rfl) (by kernel_rfl) (by kernel_rfl) (fun _ _ _ h => h) (Or.inl ⟨by rfl, ?hz50⟩) HSs11.out ?rz50
            case hz50 => (intro W hW; (try dsimp only at hW); go_simp; try with_reducible rfl)
            simp only [Act.put, List.getElem_toArray, List.getElem_cons_succ, List.getElem_cons_zero, List.setIfInBounds_toArray, List.set_cons_zero, List.set_cons_succ]
            refine wpAnyH_ready (rs := [49]) (by kernel_rfl) (by simp) ?_
            refine AllReadyH.cons rfl (fun K hK => ?_) AllReadyH.nil
            go_simp
            refine (HOr0.out _ HBs11.out).mono ?_
            rintro e vs12 ⟨as12, ns12, cs12, rfl, HAs12, HQs12⟩
            have HBs12 : Hid (Below wE.heap.size wE vs12) := Lib.hid (HBs11.out.trans (HQs12.out.mono HBs11.out.size))
            have HSs12 := Lib.hid (HSF.out _ HBs12.out)
            refine hK.out _ _ HSs12.out (fun _ => ?_)
            clear hK K
            refine wpAnyH_ready (rs := [51]) (by kernel_rfl) (by simp) ?_
            refine AllReadyH.cons rfl (fun K hK => ?_) AllReadyH.nil
            go_simp
            refine (HAs12.out _ (Below.refl _ _)).mono ?_
            rintro e vs13 ⟨rfl, hbs13⟩
            have HBs13 : Hid (Below wE.heap.size wE vs13) := Lib.hid (HBs12.out.trans (hbs13.mono HBs12.out.size))
            clear hbs13
            have HSs13 := Lib.hid (HSF.out _ HBs13.out)
            refine hK.out _ _ HSs13.out (fun _ => ?_)
            clear hK K
            refine wpAnyH_take (i := 52) (v := ?vz52) rfl (by kernel_rfl) (by kernel_rfl) (by kernel_rfl) (fun _ _ _ h => h) (Or.inl ⟨by rfl, ?hz52⟩) HSs13.out ?rz52
            case hz52 => (intro W hW; (try dsimp only at hW); go_simp; try with_reducible rfl)
            simp only [Act.put, List.getElem_toArray, List.getElem_cons_succ, List.getElem_cons_zero, List.setIfInBounds_toArray, List.set_cons_zero, List.set_cons_succ]
            refine wpAnyH_take (i := 53) (v := ?vz53) rfl (by kernel_rfl) (by kernel_rfl) (by kernel_rfl) (fun _ _ _ h => h) (Or.inl ⟨by rfl, ?hz53⟩) HSs13.out ?rz53
            case hz53 => (intro W hW; (try dsimp only at hW); go_simp; try with_reducible rfl)
            simp only [Act.put, List.getElem_toArray, List.getElem_cons_succ, List.getElem_cons_zero, List.setIfInBounds_toArray, List.set_cons_zero, List.set_cons_succ]
            refine wpAnyH_take (i := 54) (v := ?vz54) rfl (by kernel_rfl) (by kernel_rfl) (by kernel_rfl) (fun _ _ _ h => h) (Or.inl ⟨by rfl, ?hz54⟩) HSs13.out ?rz54
            case hz54 => (intro W hW; (try dsimp only at hW); go_simp; try with_reducible rfl)
            simp only [Act.put, List.getElem_toArray, List.getElem_cons_succ, List.getElem_cons_zero, List.setIfInBounds_toArray, List.set_cons_zero, List.set_cons_succ]
            refine wpAnyH_take (i := 56) (v := ?vz56) rfl (by kernel_rfl) (by kernel_rfl) (by kernel_rfl) (fun _ _ _ h => h) (Or.inl ⟨by rfl, ?hz56⟩) HSs13.out ?rz56
            case hz56 => (intro W hW; (try dsimp only at hW); go_simp; try with_reducible rfl)
            simp only [Act.put, List.getElem_toArray, List.getElem_cons_succ, List.getElem_cons_zero, List.setIfInBounds_toArray, List.set_cons_zero, List.set_cons_succ]
            refine wpAnyH_ready (rs := [55]) (by kernel_rfl) (by simp) ?_
            refine AllReadyH.cons rfl (fun K hK => ?_) AllReadyH.nil
            go_simp
            refine (HAnd0.out _ HBs13.out).mono ?_
            rintro e vs14 ⟨as14, ns14, cs14, rfl, HAs14, HQs14⟩
            have HBs14 : Hid (Below wE.heap.size wE vs14) := Lib.hid (HBs13.out.trans (HQs14.out.mono HBs13.out.size))
            have HSs14 := Lib.hid (HSF.out _ HBs14.out)
            refine hK.out _ _ HSs14.out (fun _ => ?_)
            clear hK K
            refine wpAnyH_ready (rs := [57]) (by kernel_rfl) (by simp) ?_
            refine AllReadyH.cons rfl (fun K hK => ?_) AllReadyH.nil
            go_simp
            refine (HAs14.out _ (Below.refl _ _)).mono ?_
            rintro e vs15 ⟨rfl, hbs15⟩
            have HBs15 : Hid (Below wE.heap.size wE vs15) := Lib.hid (HBs14.out.trans (hbs15.mono HBs14.out.size))
            clear hbs15
            have HSs15 := Lib.hid (HSF.out _ HBs15.out)
            refine hK.out _ _ HSs15.out (fun _ => ?_)
            clear hK K
            refine wpAnyH_take (i := 58) (v := ?vz58) rfl (by kernel_rfl) (by kernel_rfl) (by kernel_rfl) (fun _ _ _ h => h) (Or.inl ⟨by rfl, ?hz58⟩) HSs15.out ?rz58
            case hz58 => (intro W hW; (try dsimp only at hW); go_simp; try with_reducible rfl)
            simp only [Act.put, List.getElem_toArray, List.getElem_cons_succ, List.getElem_cons_zero, List.setIfInBounds_toArray, List.set_cons_zero, List.set_cons_succ]
            refine wpAnyH_take (i := 59) (v := ?vz59) rfl (by kernel_rfl) (by kernel_rfl) (by kernel_rfl) (fun _ _ _ h => h) (Or.inl ⟨by rfl, ?hz59⟩) HSs15.out ?rz59
            case hz59 => (intro W hW; (try dsimp only at hW); go_simp; try with_reducible rfl)
            simp only [Act.put, List.getElem_toArray, List.getElem_cons_succ, List.getElem_cons_zero, List.setIfInBounds_toArray, List.set_cons_zero, List.set_cons_succ]
            refine wpAnyH_take (i := 60) (v := ?vz60) rfl (by kernel_rfl) (by kernel_rfl) (by kernel_rfl) (fun _ _ _ h => h) (Or.inl ⟨by rfl, ?hz60⟩) HSs15.out ?rz60
            case hz60 => (intro W hW; (try dsimp only at hW); go_simp; try with_reducible rfl)
            simp only [Act.put, List.getElem_toArray, List.getElem_cons_succ, List.getElem_cons_zero, List.setIfInBounds_toArray, List.set_cons_zero, List.set_cons_succ]
            refine wpAnyH_take (i := 62) (v := ?vz62) rfl (by kernel_rfl) (by kernel_rfl) (by kernel_rfl) (fun _ _ _ h => h) (Or.inl ⟨by rfl, ?hz62⟩) HSs15.out ?rz62
            case hz62 => (intro W hW; (try dsimp only at hW); go_simp; try with_reducible rfl)
            simp only [Act.put, List.getElem_toArray, List.getElem_cons_succ, List.getElem_cons_zero, List.setIfInBounds_toArray, List.set_cons_zero, List.set_cons_succ]
            refine wpAnyH_ready (rs := [61]) (by kernel_rfl) (by simp) ?_
            refine AllReadyH.cons rfl (fun K hK => ?_) AllReadyH.nil
            go_simp
            refine (HMin0.out _ HBs15.out).mono ?_
            rintro e vs16 ⟨as16, ns16, cs16, rfl, HAs16, HQs16⟩
            have HBs16 : Hid (Below wE.heap.size wE vs16) := Lib.hid (HBs15.out.trans (HQs16.out.mono HBs15.out.size))
            have HSs16 := Lib.hid (HSF.out _ HBs16.out)
            refine hK.out _ _ HSs16.out (fun _ => ?_)
            clear hK K
            refine wpAnyH_ready (rs := [63]) (by kernel_rfl) (by simp) ?_
            refine AllReadyH.cons rfl (fun K hK => ?_) AllReadyH.nil
            go_simp
            refine (HAs16.out _ (Below.refl _ _)).mono ?_
            rintro e vs17 ⟨rfl, hbs17⟩
            have HBs17 : Hid (Below wE.heap.size wE vs17) := Lib.hid (HBs16.out.trans (hbs17.mono HBs16.out.size))
            clear hbs17
            have HSs17 := Lib.hid (HSF.out _ HBs17.out)
            refine hK.out _ _ HSs17.out (fun _ => ?_)
            clear hK K
            refine wpAnyH_take (i := 64) (v := ?vz64) rfl (by kernel_rfl) (by kernel_rfl) (by kernel_rfl) (fun _ _ _ h => h) (Or.inl ⟨by rfl, ?hz64⟩) HSs17.out ?rz64
            case hz64 => (intro W hW; (try dsimp only at hW); go_simp; try with_reducible rfl)
            simp only [Act.put, List.getElem_toArray, List.getElem_cons_succ, List.getElem_cons_zero, List.setIfInBounds_toArray, List.set_cons_zero, List.set_cons_succ]
            refine wpAnyH_take (i := 65) (v := ?vz65) rfl (by kernel_rfl) (by kernel_rfl) (by kernel_rfl) (fun _ _ _ h => h) (Or.inl ⟨by rfl, ?hz65⟩) HSs17.out ?rz65
            case hz65 => (intro W hW; (try dsimp only at hW); go_simp; try with_reducible rfl)
            simp only [Act.put, List.getElem_toArray, List.getElem_cons_succ, List.getElem_cons_zero, List.setIfInBounds_toArray, List.set_cons_zero, List.set_cons_succ]
            refine wpAnyH_take (i := 66) (v := ?vz66) rfl (by kernel_rfl) (by kernel_rfl) (by kernel_rfl) (fun _ _ _ h => h) (Or.inl ⟨by rfl, ?hz66⟩) HSs17.out ?rz66
            case hz66 => (intro W hW; (try dsimp only at hW); go_simp; try with_reducible rfl)
            simp only [Act.put, List.getElem_toArray, List.getElem_cons_succ, List.getElem_cons_zero, List.setIfInBounds_toArray, List.set_cons_zero, List.set_cons_succ]
            refine wpAnyH_take (i := 67) (v := ?vz67) rfl (by kernel_rfl) (by kernel_rfl) (by kernel_rfl) (fun _ _ _ h => h) (Or.inl ⟨by rfl, ?hz67⟩) HSs17.out ?rz67
            case hz67 => (intro W hW; (try dsimp only at hW); go_simp; try with_reducible rfl)
            simp only [Act.put, List.getElem_toArray, List.getElem_cons_succ, List.getElem_cons_zero, List.setIfInBounds_toArray, List.set_cons_zero, List.set_cons_succ]
            refine wpAnyH_ready (rs := [68]) (by kernel_rfl) (by simp) ?_
            refine AllReadyH.cons rfl (fun K hK => ?_) AllReadyH.nil
            go_simp
            refine (HSamB.out _ HBs17.out).mono ?_
            rintro e vs18 ⟨rfl, hbs18⟩
            have HBs18 : Hid (Below wE.heap.size wE vs18) := Lib.hid (HBs17.out.trans (hbs18.mono HBs17.out.size))
            clear hbs18
            have HSs18 := Lib.hid (HSF.out _ HBs18.out)
            refine hK.out _ _ HSs18.out (fun _ => ?_)
            clear hK K
            refine wpAnyH_take (i := 69) (v := ?vz69) rfl (by kernel_rfl) (by kernel_rfl) (by kernel_rfl) (fun _ _ _ h => h) (Or.inl ⟨by rfl, ?hz69⟩) HSs18.out ?rz69
            case hz69 => (intro W hW; (try dsimp only at hW); go_simp; try with_reducible rfl)
            simp only [Act.put, List.getElem_toArray, List.getElem_cons_succ, List.getElem_cons_zero, List.setIfInBounds_toArray, List.set_cons_zero, List.set_cons_succ]
            obtain ⟨o1, f1⟩ := HGC.out _ HBs18.out
            refine wpAnyH_ready (rs := [70]) (by kernel_rfl) (by simp) ?_
            refine AllReadyH.cons rfl (fun K hK => ?_) AllReadyH.nil
            go_simp
            have HBz : Hid (Below wE.heap.size wE vs18) := HBs18
            obtain ⟨vz, hvz⟩ : ∃ vz, vz = vs18.setCell ⟨gr, 0, none⟩ (.bool true) := ⟨_, rfl⟩
            have HSz := Lib.hid (HSZ.out _ HBs18.out)
            have HZ := Lib.hid (HEZ.out _ HBs18.out)
            rw [← hvz] at HSz HZ ⊢
            clear hvz o1 f1
            refine hK.out _ _ HSz.out (fun _ => ?_)
            clear hK K
            refine wpAnyH_done (by kernel_rfl) ?_ _
            refine NoPanic.normal ?_
            go_wp2
            obtain ⟨z1, z2, z3, z4, z5⟩ := HZ.out
            refine ⟨by simp, .inl ⟨_, _, rfl, run_takeDeferred z1, ⟨by simp, .inl ⟨_, _, rfl, run_takeDeferred z2, ?_⟩⟩⟩⟩
            exact ⟨.bool true, res_sets (gr := gr) (by rfl) z3, rfl, z4⟩
        case stop =>
          rintro D' c pre W _ _ h _
          exact h.elim

end Go.Proofs.Ytfmaapojlbheaaa
