/- A stream that makes an image of another one: the contract of Make, over any world. -/
import Derived.Test.YtaijldcfoaeogaaGreatGSmMathToSmMk
import Derived.Test.YtaijldcfoaeogaaGreatGIDelToIDiff
namespace Go.Proofs.YtaijldcfoaeogaaGreat
open Go.RowKit Go.Shelf
set_option linter.unusedSimpArgs false
attribute [local go_sem] Oper.semAt_some

theorem diff_in {F G : List (List Nat)} (hF : okF F) (hG : okF G) : ∀ z : Int, fAt (diffF F G) z ≠ [] → fAt F z ≠ [] := fun z hz h => by
  rw [fAt_diffF hF.1 hG.1] at hz
  split at hz
  · exact hz rfl
  · exact hz h

theorem recs_ok {i bb : Int} {F G : List (List Nat)} {M N : List Rn} (hF : okF F) (hG : okF G) (hh : (headR i bb).ok = true) (hM : SetF (diffF F G) M) (hN : SetF (goneF F G) N) : (∀ y ∈ recsR i bb F M N, y.ok = true) ∧ (recsR i bb F M N).length ≤ 400 := by
  have hd := diff_in hF hG
  constructor
  · intro y hy
    simp only [recsR, List.mem_cons, List.mem_append, List.mem_map] at hy
    rcases hy with rfl | ⟨r, hr, rfl⟩ | ⟨r, hr, rfl⟩
    · exact hh
    · exact (dataR_ok hF (diffF_len F G) hM hd hr).1
    · exact holeR_ok (goneF_len F G) hN hr
  · have h1 := pcsR_len M
    have h2 := hN.len (goneF_len F G)
    have h3 : (numsR M).length ≤ 256 := by
      have := whole_len (diffF_len F G) (pre := numsR M) (List.Pairwise.imp (fun h => Int.ne_of_lt h) (by obtain ⟨a, ha⟩ := hM.set; exact numsR_sorted ha)) fun x hx => (hM.mem x).1 (mem_numsR.1 hx)
      exact this
    simp only [recsR, List.length_cons, List.length_append, List.length_map]
    omega

set_option maxHeartbeats 8000000 in
set_option maxRecDepth 100000 in
theorem make_any (w : World) (i bb : Int) (g b q : Nat) (F G : List (List Nat)) (pb : Value) (h : Img w g b q F) (hG : okF G)
    (hD : ∀ W, Below w.heap.size w W → Calls Tryz.prog 21 #[.pointer (some ⟨g, 0, none⟩), pb] W fun e w' => ∃ v u M N, e = .returned (.tuple #[v, u]) ∧ OwnR w' W.heap.size 53 v M ∧ SetF (diffF F G) M ∧ OwnR w' W.heap.size 53 u N ∧ SetF (goneF F G) N ∧ Below W.heap.size W w') :
    Calls Tryz.prog 7 #[.agg #[.int .i64 i, .int .i64 bb], .pointer (some ⟨g, 0, none⟩), pb] w fun e w' => Below w.heap.size w w' ∧ (((headR i bb).ok = false ∧ e = .returned (.tuple #[.slice none 0 0, .int .i64 1])) ∨
      ((headR i bb).ok = true ∧ ∃ M N v, SetF (diffF F G) M ∧ SetF (goneF F G) N ∧ e = .returned (.tuple #[v, .int .i64 0]) ∧ Own w' w.heap.size v (strmB (recsR i bb F M N)))) := by
  have hmf : ∀ (fn : Fn) (first cap : Array Value) (w : World), (Instr.makeFunc fn first cap).run Tryz.prog w = .ok (.func fn first cap) w := fun _ _ _ _ => rfl
  obtain ⟨g1, hg1⟩ : ∃ g1, g1 = w.heap.size := ⟨_, rfl⟩
  obtain ⟨w1, hw1⟩ : ∃ w1, w1 = ((w.alloc (.cells #[.int .i64 i, .int .i64 bb] 24)).alloc (.cells #[.pointer (some ⟨g, 0, none⟩)] 26)).alloc (.cells #[.slice none 0 0, .int .i64 0] 68) := ⟨_, rfl⟩
  have hs1 : w1.heap.size = g1 + 3 := by rw [hw1, hg1]; simp
  have hb1 : Below g1 w w1 := by rw [hw1, hg1]; exact (((Below.refl _ _).alloc (Nat.le_refl _) _).alloc (by simp) _).alloc (by simp; omega) _
  have hx1 : w1.heap[g1]? = some (.cells #[.int .i64 i, .int .i64 bb] 24 (0, 0)) := by
    rw [hw1, hg1]
    exact (heap_alloc_old _ _ (by simp; omega)).trans ((heap_alloc_old _ _ (by simp)).trans (heap_alloc_new w _))
  have hx2 : w1.heap[g1 + 1]? = some (.cells #[.pointer (some ⟨g, 0, none⟩)] 26 (0, 0)) := by
    rw [hw1, hg1]
    have e := heap_alloc_new (w.alloc (.cells #[.int .i64 i, .int .i64 bb] 24)) (.cells #[.pointer (some ⟨g, 0, none⟩)] 26)
    rw [World.size_alloc] at e
    exact (heap_alloc_old _ _ (by simp)).trans e
  have hx3 : w1.heap[g1 + 2]? = some (.cells #[.slice none 0 0, .int .i64 0] 68 (0, 0)) := by
    rw [hw1, hg1]
    have e := heap_alloc_new ((w.alloc (.cells #[.int .i64 i, .int .i64 bb] 24)).alloc (.cells #[.pointer (some ⟨g, 0, none⟩)] 26)) (.cells #[.slice none 0 0, .int .i64 0] 68)
    rw [World.size_alloc, World.size_alloc] at e
    exact e
  have HW : Hid (((w.alloc (.cells #[.int .i64 i, .int .i64 bb] 24)).alloc (.cells #[.pointer (some ⟨g, 0, none⟩)] 26)).alloc (.cells #[.slice none 0 0, .int .i64 0] 68) = w1 ∧ w.heap.size = g1) := Lib.hid ⟨hw1.symm, hg1.symm⟩
  have HS1 := Lib.hid hs1
  have HB1 := Lib.hid hb1
  have HX := Lib.hid (And.intro hx1 (And.intro hx2 hx3))
  have HI := Lib.hid h
  have HD : Hid (∀ W, Below g1 w W → _) := Lib.hid fun W hW => hD W (by rw [← hg1]; exact hW)
  have HG := Lib.hid hG
  have HA1 : Hid (Ahd w1 (g1 + 2) (g1 + 2 + 1) none [] 0) := Lib.hid ⟨⟨.slice none 0 0, hx3, rfl, Own.nil _ _⟩, Nat.lt_succ_self _⟩
  have d1 : w1.cell? ⟨g1, 0, none⟩ = some (.int .i64 i) := by rw [cell_of_row w1 g1 0 _ _ _ hx1]; rfl
  have d2 : w1.cell? ⟨g1, 1, none⟩ = some (.int .i64 bb) := by rw [cell_of_row w1 g1 1 _ _ _ hx1]; rfl
  have d3 : w1.cell? ⟨g1 + 1, 0, none⟩ = some (.pointer (some ⟨g, 0, none⟩)) := by rw [cell_of_row w1 (g1 + 1) 0 _ _ _ hx2]; rfl
  rw [← hg1]
  clear h hw1 hs1 hb1 hx1 hx2 hx3 hg1 hD hG
  refine enter_make _ w _ _ rfl ?_
  simp only [Tryz.ntmps7, List.size_toArray, List.length_cons, List.length_nil, Nat.reduceAdd, Nat.reduceSub, Array.replicate_succ, Array.replicate_zero, List.push_toArray, List.append_toArray, List.nil_append, List.cons_append]
  go_upto_region 2 with fail
  rw [HW.out.1, HW.out.2]
  simp only [Nat.add_assoc, Nat.reduceAdd]
  by_cases hh : (headR i bb).ok = true
  · have hadd := add_any (headR i bb) none 0 0 w1 (g1 + 2) (g1 + 2 + 1) none [] 0 HA1.out hh ⟨rfl, by simp [headR], by omega⟩ (by simp) (by omega) (by have := HS1.out; omega)
    simp only [headR, rcV] at hadd
    have HADD := Lib.hid hadd
    have HH := Lib.hid hh
    clear hadd
    go_wp2_with fail
    refine HADD.out.mono ?_
    rintro e w2 ⟨rfl, r2, HA2, HS2, HR2⟩
    have HB2 : Hid (Below g1 w w2) := Lib.hid (HB1.out.trans (HS2.out.below (by have := HS1.out; omega) (by simp)))
    have d3 : w2.cell? ⟨g1 + 1, 0, none⟩ = some (.pointer (some ⟨g, 0, none⟩)) := by
      rw [cell_of_row w2 (g1 + 1) 0 _ _ _ ((HS2.out.block (g1 + 1) (by have := HS1.out; omega) (by simp)).trans HX.out.2.1)]; rfl
    clear d1 d2
    go_wp2_with fail
    refine (HD.out w2 HB2.out).mono ?_
    rintro e w3 ⟨v, u, M, N, rfl, hov, hM, hou, hN, hb3⟩
    obtain ⟨va, vc, rfl, hrv, hvc, hvl⟩ := hov.rd
    obtain ⟨ua, uc, rfl, hru, huc, hul⟩ := hou.rd
    have HRv := Lib.hid hrv
    have HRu := Lib.hid hru
    have HMN := Lib.hid (And.intro hM hN)
    have HB3 := Lib.hid hb3
    have HVL := Lib.hid (And.intro hvl hul)
    obtain ⟨ml, hml⟩ : ∃ ml, ml = M.length := ⟨_, rfl⟩
    obtain ⟨nl, hnl⟩ : ∃ nl, nl = N.length := ⟨_, rfl⟩
    rw [← hml, ← hnl]
    rw [← hml] at HRv
    rw [← hnl] at HRu
    have HML := Lib.hid (And.intro hml hnl)
    clear hov hou hrv hru hM hN hb3 hvl hul hvc huc hml hnl d3
    go_wp2_with fail
    refine (pieces_any w3 va ml vc).mono ?_
    rintro e V ⟨rfl, hV⟩
    obtain ⟨gp, hgp⟩ : ∃ gp, gp = w3.heap.size := ⟨_, rfl⟩
    rw [← hgp]
    have HVx : Hid (V.heap[gp]? = some (.cells #[.slice va ml vc] 71 (0, 0)) ∧ Below w3.heap.size w3 V ∧ V.heap.size = gp + 1 ∧ gp = w3.heap.size) := Lib.hid (by
      refine ⟨by rw [hV, hgp]; exact heap_alloc_new w3 _, by rw [hV]; exact Below.alloc0 _ _, by rw [hV, hgp]; simp, hgp⟩)
    clear hV hgp
    have hz2 : w1.heap.size ≤ w2.heap.size := HS2.out.size
    have HZ : Hid (g1 + 3 ≤ w2.heap.size ∧ w2.heap.size ≤ w3.heap.size ∧ w3.heap.size < V.heap.size) := Lib.hid ⟨by have := HS1.out; omega, HB3.out.size, by have := HVx.out.2.2; omega⟩
    have HB2V : Hid (Below w2.heap.size w2 V) := Lib.hid (HB3.out.trans (HVx.out.2.1.mono HZ.out.2.1))
    have HAV : Hid (Ahd V (g1 + 2) (g1 + 2 + 1) r2 (headR i bb).bytes 1) := Lib.hid (by have := HA2.out.later HB2V.out; simpa [headR] using this)
    have HIV : Hid (∀ W, Below g1 w W → Img W g b q F) := Lib.hid fun W hW => HI.out.later (by rw [HW.out.2]; exact hW)
    have HBV : Hid (∀ W, Save ((g1 + 2) :: r2.toList) V W → Below g1 w W) := Lib.hid fun W hW => (HB2.out.trans (HB2V.out.mono (by have := HZ.out; omega))).trans (hW.below (by have := HZ.out; omega) (by
      intro z hz
      simp only [List.mem_cons, Option.mem_toList] at hz
      rcases hz with rfl | hz
      · omega
      · have := (HAV.out.row_lt hz).1; omega))
    have HGM : Hid (∀ W, Save ((g1 + 2) :: r2.toList) V W → W.heap[g1 + 1]? = some (.cells #[.pointer (some ⟨g, 0, none⟩)] 26 (0, 0))) := Lib.hid fun W hW => (hW.block (g1 + 1) (by have := HZ.out; omega) (by
      simp only [List.mem_cons, Option.mem_toList, not_or]
      exact ⟨by omega, fun e => by have := (HAV.out.row_lt e).1; omega⟩)).trans ((HB2V.out.block (g1 + 1) (by have := HZ.out; omega)).trans ((HS2.out.block (g1 + 1) (by have := HS1.out; omega) (by simp)).trans HX.out.2.1))
    have HNR : Hid (∀ z, w2.heap.size ≤ z → r2 ≠ some z) := Lib.hid fun z hz e => by
      have := (HA2.out.row_lt e).2; omega
    have HOk := Lib.hid (recs_ok HI.out.ok HG.out HH.out HMN.out.1 HMN.out.2)
    go_wp2_with fail
    refine (wpIn_wide (n := 3)).1 ?_
    generalize hact : (Act.mk _ []) = act
    refine range_pcsR gp va ml vc M (by have := HMN.out.1.len (diffF_len F G); have := HML.out.1; omega) (HMN.out.1.ok (diffF_len F G)) (by rw [← hact]; rfl) rfl (RowS (g1 + 2)) (fun pre W => Mk V (g1 + 2) r2 (headR i bb :: pre.map (dataR F)) W) (fun _ _ _ => False)
      (fun W W' k hb hr => hr.back (hb.block (g1 + 2) (by have := HZ.out; omega)))
      (fun pre W k h hr => by
        obtain ⟨r, h1, _⟩ := h.ahd
        obtain ⟨v, e1, e2, e3⟩ := h1.ex
        obtain ⟨_, cs, e4⟩ := owns_block e3.2 (e2.trans ((h1.row_iff k).1 hr))
        exact ⟨cs, _, _, e4⟩)
      (fun pre W W' h hb hr => h.same hb (by have := HZ.out; omega) hr hb.size)
      (fun _ _ _ _ h _ => h) (fun pre W h => ⟨?gp1, ?gp2⟩)
      ⟨⟨r2, by simpa [flatB] using HAV.out, fun k hk => .inl hk⟩, Save.refl _ _⟩
      (fun x bx => { tmps := (act.tmps.setIfInBounds 32 (.agg #[.int .i64 x.f, .int .i64 x.t])).setIfInBounds 12 (.pointer (some ⟨bx, 0, none⟩)), defers := [] }) ?assign ?body ?done ?stop
    case gp1 =>
      have e := (h.sav.block gp (by have := HVx.out; omega) (by
        simp only [List.mem_cons, Option.mem_toList, not_or]
        exact ⟨by have := HZ.out; have := HVx.out; omega, HNR.out gp (by have := HZ.out; have := HVx.out; omega)⟩)).trans HVx.out.1
      simp [World.cell?, e]
    case gp2 =>
      refine save_all (HRv.out.later HVx.out.2.1) h.sav fun b o e => ?_
      have h1 := (HVL.out.1 b o e).1
      simp only [List.mem_cons, Option.mem_toList, not_or]
      exact ⟨by have := HZ.out; omega, HNR.out b h1⟩
    case stop => intro D c pre W _ _ h _; exact h.elim
    case assign =>
      intro l x W K hK
      subst hact
      simp only [List.setIfInBounds_toArray, List.set_cons_succ, List.set_cons_zero] at hK
      gi_wp2
      exact hK
    case body =>
      intro l pre x bx W hI hbx hcell hnr hpre
      subst hact
      simp only [List.setIfInBounds_toArray, List.set_cons_succ, List.set_cons_zero]
      have hxm : x ∈ pcsR M := hpre.subset (by simp)
      have hdr := dataR_ok HI.out.ok (diffF_len F G) HMN.out.1 (diff_in HI.out.ok HG.out) hxm
      have hxz : ∀ z, x.f ≤ z → z < x.t → fAt F z ≠ [] := fun z h1 h2 => by
        obtain ⟨r, hr, h3, h4, h5, h6⟩ := mem_pcsR hxm
        exact diff_in HI.out.ok HG.out z ((HMN.out.1.mem z).1 ⟨r, hr, by omega, by omega⟩)
      have hsub : ∀ y ∈ (headR i bb :: pre.map (dataR F)), y.ok = true := by
        intro y hy
        refine HOk.out.1 y ?_
        simp only [recsR, List.mem_cons, List.mem_append, List.mem_map] at hy ⊢
        rcases hy with h1 | ⟨r, hr, h1⟩
        · exact .inl h1
        · exact .inr (.inl ⟨r, hpre.subset (by simp [hr]), h1⟩)
      have hlen : (headR i bb :: pre.map (dataR F)).length ≤ 5000 := by
        have h1 := hpre.length_le
        have h2 := HOk.out.2
        simp [recsR] at h1 h2 ⊢
        omega
      have hbw := HBV.out W hI.sav
      have hbxl : bx < W.heap.size := lt_of_block hcell
      have HBO : Hid (∀ W', Below W.heap.size W W' → Calls Tryz.prog 23 #[.pointer (some ⟨g, 0, none⟩), .agg #[.int .i64 x.f, .int .i64 x.t]] W' fun e W2 => ∃ a c, e = .returned (.slice a (blkF F ⟨x.f, x.t⟩).length c) ∧ Hid (Rd W2 a (blkF F ⟨x.f, x.t⟩).length (blkF F ⟨x.f, x.t⟩)) ∧ Hid (Below W.heap.size W W2)) := Lib.hid fun W' hW' =>
        (blocksOf_any W' g b q F (HIV.out W' (hbw.trans (hW'.mono (by have := hbw.size; have := HW.out.2; omega)))) x.f x.t hdr.2.1 hdr.2.2.1 hdr.2.2.2.1 hxz).mono fun e W2 ⟨a, c, e1, e2, e3⟩ => ⟨a, c, e1, e2, Lib.hid (hW'.trans (e3.out.mono hW'.size))⟩
      have hgm := HGM.out W hI.sav
      have HC : Hid (∀ W', Below W.heap.size W W' → W'.cell? ⟨bx, 0, none⟩ = some (.int .i64 x.f) ∧ W'.cell? ⟨bx, 1, none⟩ = some (.int .i64 x.t) ∧ W'.cell? ⟨g1 + 1, 0, none⟩ = some (.pointer (some ⟨g, 0, none⟩))) := Lib.hid fun W' hW' => by
        have e1 := (hW'.block bx hbxl).trans hcell
        have e2 := (hW'.block (g1 + 1) (by have := hI.lt; omega)).trans hgm
        exact ⟨by simp [World.cell?, e1], by simp [World.cell?, e1], by simp [World.cell?, e2]⟩
      have HIh := Lib.hid hI
      have HBX := Lib.hid (And.intro hbx (And.intro hbxl hnr))
      have HSUB := Lib.hid (And.intro hsub (And.intro hlen hdr.1))
      have HXE : Hid ((⟨x.f, x.t⟩ : Rn) = x ∧ 0 ≤ x.f ∧ x.f < x.t ∧ x.t ≤ 256) := Lib.hid ⟨rfl, hdr.2.1, hdr.2.2.1, hdr.2.2.2.1⟩
      obtain ⟨bl, hbl⟩ : ∃ bl, bl = (blkF F ⟨x.f, x.t⟩).length := ⟨_, rfl⟩
      rw [← hbl] at HBO
      have HBLe := Lib.hid hbl
      clear hxm hdr hxz hsub hlen hbw hgm hI hbx hbxl hcell hnr hpre hbl
      obtain ⟨f, hf⟩ : ∃ f, f = x.f := ⟨_, rfl⟩
      obtain ⟨t, ht⟩ : ∃ t, t = x.t := ⟨_, rfl⟩
      rw [← hf, ← ht] at HBO HC
      have HFT := Lib.hid (And.intro hf ht)
      clear hf ht
      gi_wp2_with fail
      have H : Hid (Below W.heap.size W W.drew) := Lib.hid (Below.refl _ _).drew
      refine wpIn_region_held_drew (S := fun W' => W'.cell? ⟨bx, 0, none⟩ = some (.int .i64 f) ∧ W'.cell? ⟨bx, 1, none⟩ = some (.int .i64 t) ∧ W'.cell? ⟨g1 + 1, 0, none⟩ = some (.pointer (some ⟨g, 0, none⟩))) (by kernel_rfl) (by kernel_rfl) ?_
      refine wpAnyH_take (i := 0) (v := ?va0) rfl (by kernel_rfl) (by kernel_rfl) (by kernel_rfl) (fun _ _ _ h => h) (Or.inl ⟨by rfl, ?ha0⟩) (HC.out _ H.out) ?ra0
      case ha0 => (intro W hW; (try dsimp only at hW); go_simp; try with_reducible rfl)
      simp only [Act.put, List.getElem_toArray, List.getElem_cons_succ, List.getElem_cons_zero, List.setIfInBounds_toArray, List.set_cons_zero, List.set_cons_succ]
      refine wpAnyH_take (i := 1) (v := ?va1) rfl (by kernel_rfl) (by kernel_rfl) (by kernel_rfl) (fun _ _ _ h => h) (Or.inl ⟨by rfl, ?ha1⟩) (HC.out _ H.out) ?ra1
      case ha1 => (intro W hW; (try dsimp only at hW); go_simp; try with_reducible rfl)
      simp only [Act.put, List.getElem_toArray, List.getElem_cons_succ, List.getElem_cons_zero, List.setIfInBounds_toArray, List.set_cons_zero, List.set_cons_succ]
      refine wpAnyH_take (i := 2) (v := ?va2) rfl (by kernel_rfl) (by kernel_rfl) (by kernel_rfl) (fun _ _ _ h => h) (Or.inl ⟨by rfl, ?ha2⟩) (HC.out _ H.out) ?ra2
      case ha2 => (intro W hW; (try dsimp only at hW); go_simp; try with_reducible rfl)
      simp only [Act.put, List.getElem_toArray, List.getElem_cons_succ, List.getElem_cons_zero, List.setIfInBounds_toArray, List.set_cons_zero, List.set_cons_succ]
      refine wpAnyH_ready (rs := [3]) (by kernel_rfl) (by simp) ?_
      refine AllReadyH.cons rfl (fun K hK => ?_) AllReadyH.nil
      refine ready_call (f := 23) (vs := #[.pointer (some ⟨g, 0, none⟩), .agg #[.int .i64 f, .int .i64 t]]) (by rfl) (by (go_simp; try with_reducible rfl)) ?_
      refine (HBO.out _ H.out).mono ?_
      rintro e W3 ⟨ba, bc, rfl, HR3, HB3'⟩
      refine ⟨_, rfl, hK.out _ _ (HC.out _ HB3'.out) (fun _ => ?_)⟩
      clear hK K
      simp only [Act.put, List.getElem_toArray, List.getElem_cons_succ, List.getElem_cons_zero, List.setIfInBounds_toArray, List.set_cons_zero, List.set_cons_succ]
      refine wpAnyH_take (i := 4) (v := ?va4) rfl (by kernel_rfl) (by kernel_rfl) (by kernel_rfl) (fun _ _ _ h => h) (Or.inl ⟨by rfl, ?ha4⟩) (HC.out _ HB3'.out) ?ra4
      case ha4 => (intro W hW; (try dsimp only at hW); go_simp; try with_reducible rfl)
      simp only [Act.put, List.getElem_toArray, List.getElem_cons_succ, List.getElem_cons_zero, List.setIfInBounds_toArray, List.set_cons_zero, List.set_cons_succ]
      refine wpAnyH_ready (rs := [5]) (by kernel_rfl) (by simp) ?_
      refine AllReadyH.cons rfl (fun K hK => ?_) AllReadyH.nil
      have HMK3 : Hid (Mk V (g1 + 2) r2 (headR i bb :: pre.map (dataR F)) W3) := Lib.hid (HIh.out.later HB3'.out (by have := HZ.out; omega))
      have hadd := mk_add HMK3.out (dataR F x) ba bl bc HSUB.out.2.2 (by have h1 := HR3.out; rw [HFT.out.1, HFT.out.2] at h1; exact h1) HSUB.out.1 HSUB.out.2.1
      simp only [dataR, rcV] at hadd
      rw [← HFT.out.1, ← HFT.out.2] at hadd
      have HADD2 := Lib.hid hadd
      clear hadd
      refine ready_call (f := 20) (vs := #[.pointer (some ⟨g1 + 2, 0, none⟩), .agg #[.int .u8 2, .int .i64 0, .int .i64 0, .int .i64 f, .int .i64 t, .slice ba bl bc, .int .i64 0, .int .u64 0, .int .u64 0]]) (by rfl) (by (go_simp; try with_reducible rfl)) ?_
      refine HADD2.out.mono ?_
      rintro e W4 ⟨rfl, HMK4, HKS⟩
      have hgs3 : g1 + 2 < W3.heap.size := HMK3.out.lt
      have hback : ∀ k, RowS (g1 + 2) W3 k → RowS (g1 + 2) W k := fun k hr => hr.back (HB3'.out.block (g1 + 2) HIh.out.lt)
      have hS4 : W4.cell? ⟨bx, 0, none⟩ = some (.int .i64 f) ∧ W4.cell? ⟨bx, 1, none⟩ = some (.int .i64 t) ∧ W4.cell? ⟨g1 + 1, 0, none⟩ = some (.pointer (some ⟨g, 0, none⟩)) := by
        have e1 := HKS.out.same bx (Nat.lt_of_lt_of_le HBX.out.2.1 HB3'.out.size) (by have := HBX.out.1; have := HZ.out; omega) fun hr => HBX.out.2.2 (hback bx hr)
        have e2 := HKS.out.same (g1 + 1) (by omega) (by omega) fun hr => by
          obtain ⟨r, h1, _⟩ := HMK3.out.ahd
          have := (h1.row_lt ((h1.row_iff _).1 hr)).1
          omega
        obtain ⟨c0, c1, c2⟩ := HC.out _ HB3'.out
        exact ⟨(World.cell?_of_block (w := W3) e1).trans c0, (World.cell?_of_block (w := W3) e1).trans c1, (World.cell?_of_block (w := W3) e2).trans c2⟩
      refine ⟨_, rfl, hK.out _ _ hS4 (fun _ => ?_)⟩
      clear hK K hS4
      simp only [Act.put, List.getElem_toArray, List.getElem_cons_succ, List.getElem_cons_zero, List.setIfInBounds_toArray, List.set_cons_zero, List.set_cons_succ]
      refine wpAnyH_done (by kernel_rfl) ?_ _
      unfold QN
      have e5 : headR i bb :: (pre ++ [x]).map (dataR F) = (headR i bb :: pre.map (dataR F)) ++ [dataR F x] := by simp
      have hI5 : Mk V (g1 + 2) r2 (headR i bb :: (pre ++ [x]).map (dataR F)) W4 := by
        rw [e5]
        have h1 := HMK4.out
        have h2 : (dataR F x) = ⟨2, 0, 0, f, t, blkF F x, 0, 0, 0⟩ := by rw [HFT.out.1, HFT.out.2]; rfl
        rw [h2]
        exact h1
      have hK5 : KeepRU (RowS (g1 + 2)) V.heap.size W W4 := by
        refine ⟨Nat.le_trans HB3'.out.size HKS.out.size, fun k hk hkl hnr => ?_, fun k hr => ?_⟩
        · exact (HKS.out.same k (Nat.lt_of_lt_of_le hkl HB3'.out.size) (by have := HZ.out; omega) fun hr => hnr (hback k hr)).trans (HB3'.out.block k hkl)
        · rcases HKS.out.row k hr with h1 | h1
          · exact .inl (hback k h1)
          · exact .inr (Nat.le_trans HB3'.out.size h1)
      have HFin := Lib.hid (And.intro hK5 hI5)
      clear e5 hI5 hK5 hback hgs3
      gi_wp2
      exact ⟨HFin.out.1, HFin.out.2⟩
    case done =>
      intro D W hD hI hdef
      subst hact
      obtain ⟨r3, ha3, hr3⟩ := hI.ahd
      have hrw : RdR W ua nl N := save_all (HRu.out.later HVx.out.2.1) hI.sav fun b o e => by
        have h1 := (HVL.out.2 b o e).1
        simp only [List.mem_cons, Option.mem_toList, not_or]
        exact ⟨by have := HZ.out; omega, HNR.out b h1⟩
      have HUX : Hid (∀ W', Save ((g1 + 2) :: r3.toList) W W' → RdR W' ua nl N) := Lib.hid fun W' hW' => save_all hrw hW' fun b o e => by
        have h1 := HVL.out.2 b o e
        simp only [List.mem_cons, Option.mem_toList, not_or]
        refine ⟨by have := HZ.out; omega, fun e3 => ?_⟩
        rcases hr3 b e3 with h4 | h4
        · exact HNR.out b h1.1 h4
        · have := HZ.out; have := h1.2.1; omega
      have HDX : Hid (∀ W', Save ((g1 + 2) :: r3.toList) W W' → W'.heap[D]? = some (.deferred (some []))) := Lib.hid fun W' hW' => (hW'.block D (lt_of_block hdef) (by
        simp only [List.mem_cons, Option.mem_toList, not_or]
        refine ⟨by have := HZ.out; omega, fun e3 => ?_⟩
        obtain ⟨v, e1, e2, e4⟩ := ha3.ex
        obtain ⟨_, cs, e5⟩ := owns_block e4.2 (e2.trans e3)
        rw [hdef] at e5
        cases e5)).trans hdef
      have HMK : Hid (Mk W (g1 + 2) r3 (headR i bb :: (pcsR M).map (dataR F)) W) := Lib.hid ⟨⟨r3, ha3, fun k hk => .inl hk⟩, Save.refl _ _⟩
      have HGW : Hid (g1 + 2 < W.heap.size ∧ V.heap.size ≤ W.heap.size) := Lib.hid ⟨hI.lt, hI.sav.size⟩
      have HBW : Hid (Below g1 w W) := Lib.hid (HBV.out W hI.sav)
      have HXS : Hid (∀ j, (∀ y ∈ (headR i bb :: (pcsR M).map (dataR F)) ++ (N.take j).map holeR, y.ok = true) ∧ ((headR i bb :: (pcsR M).map (dataR F)) ++ (N.take j).map holeR).length ≤ 5000) := Lib.hid fun j => by
        constructor
        · intro y hy
          refine HOk.out.1 y ?_
          simp only [recsR, List.mem_cons, List.mem_append, List.mem_map] at hy ⊢
          rcases hy with (h1 | ⟨r, hr, h1⟩) | ⟨r, hr, h1⟩
          · exact .inl h1
          · exact .inr (.inl ⟨r, hr, h1⟩)
          · exact .inr (.inr ⟨r, List.mem_of_mem_take hr, h1⟩)
        · have h2 := HOk.out.2
          simp [recsR] at h2 ⊢
          omega
      obtain ⟨xs1, hxs1⟩ : ∃ xs1, xs1 = headR i bb :: (pcsR M).map (dataR F) := ⟨_, rfl⟩
      rw [← hxs1] at HMK HXS
      have HX1 := Lib.hid hxs1
      have HR3B : Hid (∀ z, r3 = some z → g1 ≤ z) := Lib.hid fun z hz => by have := (ha3.row_lt hz).1; omega
      have hnl : nl ≤ 128 := by have := HMN.out.2.len (goneF_len F G); have := HML.out.2; omega
      have HDB : Hid (V.heap.size ≤ D) := Lib.hid hD
      clear hI hdef ha3 hr3 hrw hxs1 hD
      go_wp2_with fail
      go_loopg [41] nl (fun k s41 wr => ∃ j : Nat, k = nl - j ∧ j ≤ nl ∧ s41 = .int .i64 (j : Int) ∧ Hid (Mk W (g1 + 2) r3 (xs1 ++ (N.take j).map holeR) wr))
      case atStart => exact ⟨0, rfl, Nat.zero_le _, rfl, Lib.hid (by simpa using HMK.out)⟩
      case round =>
        obtain ⟨j, hk, hj, rfl, HMj⟩ := hrel
        have HKj := Lib.hid hk
        clear hk
        by_cases hlt : j < nl
        · obtain ⟨b0, o0, r, rfl, hre, hbl, e0, e1⟩ := (HUX.out wr HMj.out.sav).at_ (Below.refl _ _) hlt
          have hrm : r ∈ N := by rw [hre]; exact getD_mem (by have := HML.out.2; omega)
          have HRE : Hid (N.take (j + 1) = N.take j ++ [r]) := Lib.hid (by rw [hre]; exact takeR_succ (by have := HML.out.2; omega) rfl)
          have HRO := Lib.hid (holeR_ok (goneF_len F G) HMN.out.2 hrm)
          have hmk := HMj.out.later (Below.alloc0 wr (.cells #[.int .i64 r.f, .int .i64 r.t] 53)) HGW.out.1
          have hadd := mk_add hmk (holeR r) none 0 0 HRO.out ⟨rfl, by simp [holeR], by omega⟩ (HXS.out j).1 (HXS.out j).2
          simp only [holeR, rcV] at hadd
          obtain ⟨f, t⟩ := r
          simp only at e0 e1 hadd HRE
          have HADD3 := Lib.hid hadd
          clear hadd hre hrm hmk hbl
          have bx1 := BoxR.new wr f t 53
          have bx2 := bx1.2
          have bx3 := bx1.1
          clear bx1
          go_wp2_with fail
          refine HADD3.out.mono ?_
          rintro e w5 ⟨rfl, HMK5, _⟩
          clear bx2 bx3 e0 e1
          go_wp2
          go_roundg (nl - (j + 1))
          case measure => have := HKj.out; omega
          case rel =>
            refine ⟨j + 1, rfl, by omega, rfl, Lib.hid ?_⟩
            rw [HRE.out, List.map_append, ← List.append_assoc]
            exact HMK5.out
        · obtain rfl : j = nl := by omega
          have htk : N.take j = N := List.take_of_length_le (by have := HML.out.2; omega)
          have hxa : xs1 ++ N.map holeR = recsR i bb F M N := by rw [HX1.out]; simp [recsR]
          have hmj := HMj.out
          rw [htk, hxa] at hmj
          obtain ⟨XS, hXS⟩ : ∃ XS, XS = recsR i bb F M N := ⟨_, rfl⟩
          rw [← hXS] at hmj
          obtain ⟨r5, ha5, hr5⟩ := hmj.ahd
          have hfl := flatB_len (xs := XS) (by rw [hXS]; exact HOk.out.1)
          have hxl := HOk.out.2
          rw [← hXS] at hxl
          have htl := tail_any wr (g1 + 2) (g1 + 2 + 1) r5 (flatB XS) XS.length ha5 (by omega)
          have htok := tailR_ok (xs := XS) (by rw [hXS]; exact HOk.out.1) (by omega)
          have HAT : Hid (∀ W', Below wr.heap.size wr W' → _) := Lib.hid fun W' (hW' : Below wr.heap.size wr W') => mk_add (hmj.later hW' HGW.out.1) (tailR XS) none 0 0 htok ⟨rfl, by simp [tailR], by omega⟩ (by rw [hXS]; exact HOk.out.1) (by omega)
          obtain ⟨xl, hxl2⟩ : ∃ xl, xl = XS.length := ⟨_, rfl⟩
          obtain ⟨fl, hfl2⟩ : ∃ fl, fl = (flatB XS).length := ⟨_, rfl⟩
          obtain ⟨fd, hfd2⟩ : ∃ fd, fd = dSum (flatB XS) := ⟨_, rfl⟩
          simp only [rcV] at htl
          simp only [tailR, rcV] at HAT
          rw [← hxl2, ← hfl2, ← hfd2] at htl HAT
          have HTL := Lib.hid htl
          have HXS5 := Lib.hid (And.intro hXS (And.intro hxl2 (And.intro hfl2 hfd2)))
          clear htk hxa hmj hXS ha5 hr5 hfl hxl htl htok hxl2 hfl2 hfd2
          go_wp2_with fail
          refine HTL.out.mono ?_
          rintro e w6 ⟨rfl, hb6⟩
          go_wp2_with fail
          refine (HAT.out w6 hb6).mono ?_
          rintro e w7 ⟨rfl, HM7, _⟩
          obtain ⟨r7, ha7, hr7⟩ := HM7.out.ahd
          obtain ⟨v7, e71, e72, e73⟩ := ha7.ex
          obtain ⟨a7, c7, hv7⟩ := owns_shape e73.2
          have d7 : w7.cell? ⟨g1 + 2, 0, none⟩ = some v7 := by rw [cell_of_row w7 (g1 + 2) 0 _ _ _ e71]; rfl
          have HD7 := Lib.hid (HDX.out w7 HM7.out.sav)
          have HO7 : Hid (Own w7 (g1 + 2 + 1) v7 (strmB (recsR i bb F M N))) := Lib.hid (by
            have e1 : strmB (recsR i bb F M N) = flatB (XS ++ [⟨4, 0, 0, 0, 0, [], (xl : Int), fl, fd⟩]) := by
              obtain ⟨f1, f2, f3, f4⟩ := HXS5.out
              rw [flatB_append, flatB_one, f1, f2, f3, f4, f1]
              rfl
            rw [e1]
            exact e73)
          have HB7 : Hid (Below g1 w w7) := Lib.hid (HBW.out.trans (HM7.out.sav.below (by have := HGW.out; omega) (by
            intro z hz
            simp only [List.mem_cons, Option.mem_toList] at hz
            rcases hz with rfl | hz
            · omega
            · have := HR3B.out z hz; omega)))
          clear e71 e72 e73 ha7 hr7 hb6
          subst hv7
          go_wp2
          refine ⟨by simp, .inl ⟨_, _, rfl, run_takeDeferred HD7.out, ?_⟩⟩
          have hrow : ∀ k, (Value.slice a7 (flatB (XS ++ [⟨4, 0, 0, 0, 0, [], (xl : Int), fl, fd⟩])).length c7).ownBlock = some k → k ≠ D := fun k hk hkd => by
            obtain ⟨_, cs, e5⟩ := owns_block HO7.out.2 hk
            rw [hkd, HD7.out] at e5
            cases e5
          refine ⟨.tuple #[.slice a7 (flatB (XS ++ [⟨4, 0, 0, 0, 0, [], (xl : Int), fl, fd⟩])).length c7, .int .i64 0], by simp [results, Tryz.results7, go_sem], ?_⟩
          refine ⟨HB7.out.trans (below_put (by have := HDB.out; have := HZ.out; omega) _ _), .inr ⟨HH.out, M, N, _, HMN.out.1, HMN.out.2, rfl, ?_⟩⟩
          have h8 := HO7.out.mono (base' := g1) (by omega)
          exact ⟨h8.1, owns_same h8.2 fun k hk => World.putObj_heap_other (hrow k hk)⟩
  · have hadd := add_no (headR i bb) none 0 0 w1 (g1 + 2) (by simpa using hh) ⟨rfl, by simp [headR], by omega⟩
    simp only [headR, rcV] at hadd
    have HADD := Lib.hid hadd
    have HH : Hid ((headR i bb).ok = false) := Lib.hid (by simpa using hh)
    clear hadd hh
    go_wp2_with fail
    refine HADD.out.mono ?_
    rintro e w2 ⟨rfl, hb2⟩
    have HB2 : Hid (Below g1 w w2) := Lib.hid (HB1.out.trans (hb2.mono (by have := HS1.out; omega)))
    clear hb2 d1 d2 d3
    go_wp2
    refine ⟨.tuple #[.slice none 0 0, .int .i64 1], by simp [results, Tryz.results7, go_sem], ?_⟩
    exact ⟨HB2.out, .inl ⟨HH.out, rfl⟩⟩

end Go.Proofs.YtaijldcfoaeogaaGreat
