/- LabelTapes, walked: over any world. -/
import Derived.Test.YtcmbnijjkpfhlaaLtIn
import Derived.Test.YtcmbnijjkpfhlaaOrders
import Derived.BigRegion
import Derived.Deep.RegionLaw
namespace Go.Proofs.Ytcmbnijjkpfhlaa
open Go.RowKit
set_option linter.unusedSimpArgs false

theorem heap_alloc2 (w : World) (o o' : Obj) : ((w.alloc o).alloc o').heap[w.heap.size + 1]? = some o' := by
  have := heap_alloc_new (w.alloc o) o'
  simpa using this

theorem pow_laid (w : World) (s : Pw) : Pow (w.alloc (powObj s)) w.heap.size s := heap_alloc_new w _

theorem planned_on (s : Pw) (a t : Int) : (s.up.planned a t).on = true := by
  by_cases h : 0 ≤ a
  · rw [planned_yes _ _ h]; rfl
  · rw [planned_no _ _ (by omega)]; rfl

/-- A library of one tape, none in the drive, and the document's tape. -/
def Pre (w W : World) (gl gp gm : Nat) (T0 : Tst) : Prop := ∃ g t F v H G, Lbr W gl gp ⟨true, none, 0⟩ none 1 g t F v H ∧ t 0 = T0 ∧ (∀ k ∈ H, w.heap.size ≤ k) ∧ w.heap.size ≤ gp ∧ Mta W gm T0 G ∧ (∀ k ∈ G, w.heap.size ≤ k ∧ k ∉ gp :: H) ∧ Below w.heap.size w W

set_option maxHeartbeats 8000000 in
set_option maxRecDepth 100000 in
theorem labelTapes_walk (w : World) (R0 Y0 : Int) (aW aR : Option Addr) (nW cW nR cR : Nat) (LW LR : List Int) (hW : RdI w aW nW LW) (hR : RdI w aR nR LR) (a : Option Addr) (n c : Nat) (X : List Cal) (h : RdC w a n X) (hn : n ≤ 60) (hsum : nR + nW ≤ 60) (z At To : Int) (x : Lab) (hf : x.fits) (hp : x.p.length ≤ 50) (hAt : At < 9223372036854775808) :
    Calls Try.prog 5 #[.agg #[.int .i64 R0, .int .i64 Y0, .slice aW nW cW, .slice aR nR cR], .slice a n c, .agg #[.int .i64 z, .string (strB x.p), .int .i64 x.g, .int .i64 x.m, .int .i64 At, .int .i64 To]] w fun e w' => e = .returned (.bool true) ∧ Below w.heap.size w w' := by
  obtain ⟨u, hu⟩ : ∃ u : Nat, IntKind.u64.wrap R0 = (u : Int) := ⟨(IntKind.u64.wrap R0).toNat, by rw [IntKind.wrap_u64]; omega⟩
  obtain ⟨r0, hr0⟩ : ∃ r0 : Nat, r0 = u % 3000 := ⟨_, rfl⟩
  have hr03 : r0 < 3000 := by omega
  have htm : (u : Int).tmod 3000 = (r0 : Int) := by rw [Int.tmod_eq_emod_of_nonneg (by omega)]; omega
  have hem : (u : Int) % 3000 = (r0 : Int) := by omega
  obtain ⟨r, hr⟩ : ∃ r : Nat, r = 1 + r0 := ⟨_, rfl⟩
  have hr1 : 1 + (r0 : Int) = (r : Int) := by omega
  have hrb : 1 ≤ r ∧ r ≤ 3000 := by omega
  have hsumI : ((nR : Int) + (nW : Int)) ≤ 60 := by omega
  have hws : IntKind.i64.wrap ((nR : Int) + (nW : Int)) = ((nR + nW : Nat) : Int) := by rw [IntKind.wrap_i64] <;> omega
  -- the label
  have hsz : (strB x.p).size ≤ 50 := by rw [strB_size]; exact hp
  have HLIVE := Lib.hid (And.intro hf hp)
  have HLAB : Hid (lbV x = .agg #[.string (strB x.p), .int .i64 x.g, .int .i64 x.m]) := Lib.hid rfl
  obtain ⟨s, hs⟩ : ∃ s, s = strB x.p := ⟨_, rfl⟩
  obtain ⟨g, hg⟩ : ∃ g, g = x.g := ⟨_, rfl⟩
  obtain ⟨m, hm⟩ : ∃ m, m = x.m := ⟨_, rfl⟩
  rw [← hs, ← hg, ← hm] at HLAB
  rw [← hs] at hsz
  rw [← hs, ← hg, ← hm]
  have hszI : ¬ (50 : Int) < (s.size : Int) := by omega
  obtain ⟨w1, h1⟩ : ∃ w1, w1 = ((w.alloc (plnObj R0 Y0 (.slice aW nW cW) (.slice aR nR cR))).alloc (sltObj z s g m At To)).alloc (.cells #[.string s, .int .i64 g, .int .i64 m] 23) := ⟨_, rfl⟩
  obtain ⟨gb, hgb⟩ : ∃ gb, gb = w.heap.size := ⟨_, rfl⟩
  have hob : w1.heap[gb]? = some (plnObj R0 Y0 (.slice aW nW cW) (.slice aR nR cR)) := by
    rw [h1, hgb]
    exact (heap_alloc_old _ _ (by simp; omega)).trans ((heap_alloc_old _ _ (by simp)).trans (heap_alloc_new w _))
  have hos : w1.heap[gb + 1]? = some (sltObj z s g m At To) := by
    rw [h1, hgb]
    exact (heap_alloc_old _ _ (by simp)).trans (heap_alloc2 w _ _)
  have hoy : w1.heap[gb + 2]? = some (.cells #[.string s, .int .i64 g, .int .i64 m] 23) := by
    rw [h1, hgb]
    have := heap_alloc_new ((w.alloc (plnObj R0 Y0 (.slice aW nW cW) (.slice aR nR cR))).alloc (sltObj z s g m At To)) (.cells #[.string s, .int .i64 g, .int .i64 m] 23)
    simpa using this
  have hb1 : Below w.heap.size w w1 := by rw [h1]; exact (((Below.refl _ _).alloc (Nat.le_refl _) _).alloc (by simp) _).alloc (by simp; omega) _
  have HL : Hid (Calls Try.prog 7 #[] w1 fun e w' => e = .returned (.bool true) ∧ Hid (w'.heap[gb]? = some (plnObj R0 Y0 (.slice aW nW cW) (.slice aR nR cR)) ∧ w'.heap[gb + 1]? = some (sltObj z s g m At To) ∧ w'.heap[gb + 2]? = some (.cells #[.string s, .int .i64 g, .int .i64 m] 23) ∧ Below w.heap.size w w')) := by
    refine Lib.hid ((lives_any w1).mono ?_)
    rintro e w' ⟨rfl, hb⟩
    exact ⟨rfl, Lib.hid ⟨(hb.block gb (lt_of_block hob)).trans hob, (hb.block (gb + 1) (lt_of_block hos)).trans hos, (hb.block (gb + 2) (lt_of_block hoy)).trans hoy, hb1.trans (hb.mono hb1.size)⟩⟩
  have HIN := Lib.hid (And.intro hW (And.intro hR h))
  have HW1 := Lib.hid (And.intro h1 hgb)
  have hnWR : nW ≤ 60 ∧ nR ≤ 60 := by omega
  obtain ⟨q, hq⟩ : ∃ q, q = nR + nW := ⟨_, rfl⟩
  rw [← hq] at hws hsum
  clear hW hR h h1 hgb hob hos hoy hb1 hr0 hr hq hf hp hs hg hm hsz
  go_enter Try.func5, Try.ntmps5
  go_upto_region 2 with fail
  change Code.wp _ _ _ _ (((w.alloc (plnObj R0 Y0 (.slice aW nW cW) (.slice aR nR cR))).alloc (sltObj z s g m At To)).alloc (.cells #[.string s, .int .i64 g, .int .i64 m] 23))
  rw [← HW1.out.1]
  go_wp2_with fail
  refine HL.out.mono ?_
  rintro e w2 ⟨rfl, H2⟩
  rw [← HW1.out.2]
  obtain ⟨x0, x1, x2, x3⟩ := pln_cells H2.out.1
  obtain ⟨y0, y1, y2⟩ := lab_cells H2.out.2.2.1
  have fx := pln_soft H2.out.1
  have e1 : w2.setCell ⟨gb, 0, none⟩ (.int .i64 (r : Int)) = put w2 gb (plnObj (r : Int) Y0 (.slice aW nW cW) (.slice aR nR cR)) := plnlay0 H2.out.1 r
  have HE1 := Lib.hid e1
  clear e1 HL
  go_upto_region 5 with fail
  obtain ⟨w3, h3⟩ : ∃ w3, w3 = put w2 gb (plnObj (r : Int) 0 (.slice aW nW cW) (.slice aR nR cR)) := ⟨_, rfl⟩
  have HW3 : Hid ((w2.setCell ⟨gb, 0, none⟩ (.int .i64 (r : Int))).setCell ⟨gb, 1, none⟩ (.int .i64 0) = w3) := by
    refine Lib.hid ?_
    rw [HE1.out, plnlay1 (put_same H2.out.1), put_put, h3]
  rw [HW3.out]
  have hgbw : w.heap.size ≤ gb := by rw [HW1.out.2]; exact Nat.le_refl _
  have hob3 : w3.heap[gb]? = some (plnObj (r : Int) 0 (.slice aW nW cW) (.slice aR nR cR)) := by rw [h3]; exact put_same H2.out.1
  have hos3 : w3.heap[gb + 1]? = some (sltObj z s g m At To) := by rw [h3, put_other (by omega)]; exact H2.out.2.1
  have hoy3 : w3.heap[gb + 2]? = some (.cells #[.string s, .int .i64 g, .int .i64 m] 23) := by rw [h3, put_other (by omega)]; exact H2.out.2.2.1
  have hb3 : Below w.heap.size w w3 := by rw [h3]; exact H2.out.2.2.2.trans (put_below _ hgbw)
  have HKX : Hid (∀ W, Below w3.heap.size w3 W → W.cell? ⟨gb, 0, none⟩ = some (.int .i64 (r : Int)) ∧ W.cell? ⟨gb, 1, none⟩ = some (.int .i64 0) ∧ W.cell? ⟨gb, 2, none⟩ = some (.slice aW nW cW) ∧ W.cell? ⟨gb, 3, none⟩ = some (.slice aR nR cR)) := Lib.hid fun W hW => pln_cells ((hW.block gb (lt_of_block hob3)).trans hob3)
  have HKS : Hid (∀ W, Below w3.heap.size w3 W → W.cell? ⟨gb + 1, 0, none⟩ = some (.int .i64 z) ∧ W.cell? ⟨gb + 1, 4, none⟩ = some (.int .i64 At) ∧ W.cell? ⟨gb + 1, 5, none⟩ = some (.int .i64 To)) := Lib.hid fun W hW => by
    obtain ⟨k0, _, _, _, k4, k5⟩ := slt_cells ((hW.block (gb + 1) (lt_of_block hos3)).trans hos3)
    exact ⟨k0, k4, k5⟩
  have HKY : Hid (∀ W, Below w3.heap.size w3 W → W.cell? ⟨gb + 2, 0, none⟩ = some (.string s) ∧ W.cell? ⟨gb + 2, 1, none⟩ = some (.int .i64 g) ∧ W.cell? ⟨gb + 2, 2, none⟩ = some (.int .i64 m)) := Lib.hid fun W hW => lab_cells ((hW.block (gb + 2) (lt_of_block hoy3)).trans hoy3)
  have HB3 := Lib.hid hb3
  have HGB := Lib.hid (And.intro hgbw (lt_of_block hob3))
  have HIN3 : Hid (RdI w3 aW nW LW ∧ RdI w3 aR nR LR) := Lib.hid ⟨HIN.out.1.later hb3, HIN.out.2.1.later hb3⟩
  clear h3 hob3 hos3 hoy3 hb3 hgbw HW3 x0 x1 x2 x3 y0 y1 y2 fx HE1 H2 hu htm hem hr1 hws hsumI hszI
  go_wp2_with fail
  refine (new_any w3).mono ?_
  rintro e w4 ⟨rfl, hw4⟩
  obtain ⟨gp, hgp⟩ : ∃ gp, gp = w3.heap.size := ⟨_, rfl⟩
  rw [← hgp]
  have H4 : Hid (Pow w4 gp ⟨true, none, 0⟩ ∧ Below w3.heap.size w3 w4 ∧ gp = w3.heap.size) := Lib.hid ⟨by rw [hw4, hgp]; exact pow_laid w3 _, by rw [hw4]; exact Below.alloc0 _ _, hgp⟩
  clear hw4 hgp
  go_wp2_with fail
  refine (lnew_any w4 gp).mono ?_
  rintro e w5 ⟨rfl, hw5⟩
  obtain ⟨gl, hgl⟩ : ∃ gl, gl = w4.heap.size := ⟨_, rfl⟩
  rw [← hgl]
  have H5 : Hid (Lbr w5 gl gp ⟨true, none, 0⟩ none 0 (fun _ => 0) (fun _ => ⟨0, 0, [], [], [], 0⟩) (fun _ => []) (.slice none 0 0) [gl] ∧ Below w3.heap.size w3 w5 ∧ w3.heap.size ≤ gp ∧ w3.heap.size ≤ gl) := by
    obtain ⟨hp, hb, hg⟩ := H4.out
    have hL := lbr_new hp (fun _ => 0) (fun _ => ⟨0, 0, [], [], [], 0⟩) (fun _ => [])
    rw [← hw5, ← hgl] at hL
    exact Lib.hid ⟨hL, by rw [hw5]; exact hb.alloc hb.size _, by omega, by rw [hgl]; exact hb.size⟩
  clear hw5 hgl H4
  obtain ⟨T0, hT0⟩ : ∃ T0 : Tst, T0 = ⟨r, 0, LW, LR, [], 0⟩ := ⟨_, rfl⟩
  have HT0 := Lib.hid hT0
  have HADD : Hid (Calls Try.prog 19 #[.pointer (some ⟨gl, 0, none⟩), .agg #[.int .i64 (r : Int), .int .i64 0, .slice aW nW cW, .slice aR nR cR]] w5 fun e w' => e = .returned (.tuple #[.int .i64 0, .int .i64 0]) ∧ Hid (∃ g t F v H, Lbr w' gl gp ⟨true, none, 0⟩ none 1 g t F v H ∧ t 0 = T0 ∧ (∀ k ∈ H, w3.heap.size ≤ k) ∧ Below w3.heap.size w3 w')) := by
    obtain ⟨hL, hb, hg1, hg2⟩ := H5.out
    refine Lib.hid ((ladd_yes hL (by omega) r 0 aW aR nW cW nR cR LW LR hrb.1 (by omega) (by omega) (HIN3.out.1.later hb) (HIN3.out.2.later hb) (by omega) (by omega)).mono ?_)
    rintro e w' ⟨rfl, gt, F', v', H', h1, h2, h3⟩
    refine ⟨rfl, Lib.hid ⟨_, _, _, _, _, h1, by rw [upd_same, hT0], fun k hk => ?_, hb.trans (h2.below hb.size (fun k hk => by simp only [List.mem_singleton] at hk; rw [hk]; exact hg2))⟩⟩
    rcases h3 k hk with h4 | h4
    · simp only [List.mem_singleton] at h4
      rw [h4]
      exact hg2
    · exact Nat.le_trans hb.size h4
  obtain ⟨x0, x1, x2, x3⟩ := HKX.out w5 H5.out.2.1
  have HGP : Hid (w3.heap.size ≤ gp) := Lib.hid H5.out.2.2.1
  clear H5 hT0
  go_wp2_with fail
  refine HADD.out.mono ?_
  rintro e w6 ⟨rfl, H6⟩
  have HB6 : Hid (Below w3.heap.size w3 w6) := Lib.hid (by obtain ⟨_, _, _, _, _, _, _, _, h⟩ := H6.out; exact h)
  have HRW : Hid (RdI w6 aW nW LW ∧ RdI w6 aR nR LR) := Lib.hid ⟨HIN3.out.1.later HB6.out, HIN3.out.2.later HB6.out⟩
  clear x0 x1 x2 x3 HADD
  obtain ⟨x0, x1, x2, x3⟩ := HKX.out w6 HB6.out
  go_upto_region 7 with fail
  go_cut [12] (fun v12 wx => ∃ gm : Nat, v12 = .pointer (some ⟨gm, 0, none⟩) ∧ Hid (Pre w3 wx gl gp gm T0))
  case first => as_aux_lemma =>
    have HK6 : Hid (∀ W, Below w6.heap.size w6 W → W.cell? ⟨gb, 0, none⟩ = some (.int .i64 (r : Int)) ∧ W.cell? ⟨gb, 2, none⟩ = some (.slice aW nW cW) ∧ W.cell? ⟨gb, 3, none⟩ = some (.slice aR nR cR)) := Lib.hid fun W hW => by
      obtain ⟨k0, _, k2, k3⟩ := HKX.out W (HB6.out.trans (hW.mono HB6.out.size))
      exact ⟨k0, k2, k3⟩
    have HEND : Hid (∀ (w8 : World) (g1 g2 c1 c2 : Nat), Below w6.heap.size w6 w8 → RdI w8 (some ⟨g1, 0, none⟩) nW LW → RdI w8 (some ⟨g2, 0, none⟩) nR LR → w6.heap.size ≤ g1 ∧ g1 < w8.heap.size → w6.heap.size ≤ g2 ∧ g2 < w8.heap.size → Hid (Pre w3 (w8.alloc (mtObj r 0 (.slice (some ⟨g1, 0, none⟩) nW c1) (.slice (some ⟨g2, 0, none⟩) nR c2) (.slice none 0 0) 0)) gl gp w8.heap.size T0)) := by
      refine Lib.hid fun w8 g1 g2 c1 c2 hb h1 h2 k1 k2 => Lib.hid ?_
      obtain ⟨g, t, F, v, H, hL, ht, hH, hb6⟩ := H6.out
      obtain ⟨G, hG, hGk⟩ := mta_start (y := 0) (c1 := c1) (c2 := c2) hb h1 h2 k1 k2 hrb.2
      have hbz := hb.alloc hb.size (mtObj r 0 (.slice (some ⟨g1, 0, none⟩) nW c1) (.slice (some ⟨g2, 0, none⟩) nR c2) (.slice none 0 0) 0)
      refine ⟨g, t, F, v, H, G, hL.later hbz, ht, hH, HGP.out, by rw [HT0.out]; exact hG, fun k hk => ⟨Nat.le_trans hb6.size (hGk k hk), ?_⟩, hb6.trans (hbz.mono hb6.size)⟩
      have h9 := hGk k hk
      have h10 := hL.pow.lt
      simp only [List.mem_cons, not_or]
      exact ⟨by omega, fun hx => by have := hL.lt k hx; omega⟩
    go_region_held3 (fun W => W.cell? ⟨gb, 0, none⟩ = some (.int .i64 (r : Int)) ∧ W.cell? ⟨gb, 2, none⟩ = some (.slice aW nW cW) ∧ W.cell? ⟨gb, 3, none⟩ = some (.slice aR nR cR))
      (first | (refine HK6.out _ ?_; (repeat (first | exact Below.refl _ _ | assumption | refine Below.drew ?_ | refine Below.alloc ?_ (by first | (simp; done) | exact B7.size | exact B8.size | (simp; omega)) _)); done) | go_keep)
      (first
        | (refine step_freshV (V := w6) (by rfl) _ _ (by rfl) _ (by rfl) aW nW cW (by rfl) LW HRW.out.1 (by omega) (by (repeat (first | exact Below.refl _ _ | assumption | refine Below.drew ?_ | refine Below.alloc ?_ (by first | (simp; done) | exact B7.size | exact B8.size | (simp; omega)) _))) (by first | (simp; done) | (simp; omega)) ?_; intro g1 c1 w7 hr1 hb1 B7 hg1 hl1)
        | (refine step_freshV (V := w6) (by rfl) _ _ (by rfl) _ (by rfl) aR nR cR (by rfl) LR HRW.out.2 (by omega) (by (repeat (first | exact Below.refl _ _ | assumption | refine Below.drew ?_ | refine Below.alloc ?_ (by first | (simp; done) | exact B7.size | exact B8.size | (simp; omega)) _))) (by have h8 := B7.size; have h9 := hb1.size; first | (simp; done) | (simp; omega) | (simp at h9 ⊢; omega)) ?_; intro g2 c2 w8 hr2 hb2 B8 hg2 hl2))
    all_goals
      go_wp2_with fail
      go_meet
      refine ⟨_, rfl, HEND.out w8 g1 g2 c1 c2 B8 ?_ hr2 ⟨hg1, ?_⟩ ⟨hg2, hl2⟩⟩
      · first
          | exact hr1.later hb2
          | exact hr1.later ((Below.alloc0 _ _).trans (hb2.mono (by simp)))
      · have h9 := hb2.size
        first
          | omega
          | (simp at h9; omega)
  case rest => as_aux_lemma =>
    obtain ⟨gm, rfl, HC⟩ := hcut
    clear H6 HRW x0 x1 x2 x3
    go_upto_region 9 with fail
    obtain ⟨gq, hgq⟩ : ∃ gq, gq = wc.heap.size := ⟨_, rfl⟩
    obtain ⟨wz, hwz⟩ : ∃ wz, wz = wc.alloc (mpObj true (-1) 0) := ⟨_, rfl⟩
    have HLOAD : Hid (Calls Try.prog 20 #[.pointer (some ⟨gl, 0, none⟩), .int .i64 0] wz fun e W' => e = .returned (.int .i64 0) ∧ Hid (∃ gt, Duos w3 W' gl gp gt gm gq ⟨true, none, 0⟩ T0 ⟨true, none, 0⟩ T0)) := by
      obtain ⟨g, t, F, v, H, G, hL, ht, hH, hgp, hM, hG, hb⟩ := HC.out
      have hbe : Below wc.heap.size wc wz := by rw [hwz]; exact Below.alloc0 _ _
      have hml := hM.fl
      have hLz := hL.later hbe
      have hP : MP wz gq ⟨true, none, 0⟩ := ⟨0, by rw [hwz, hgq]; exact heap_alloc_new wc _, fun j u e => (by cases e)⟩
      have hgqH : gq ∉ gp :: H := by
        have h10 := hL.pow.lt
        simp only [List.mem_cons, not_or]
        exact ⟨by omega, fun hx => by have := hL.lt gq hx; omega⟩
      refine Lib.hid ((load_yes hLz 0 (by omega) rfl).mono ?_)
      rintro e W' ⟨rfl, h1, h2⟩
      have hs : Save (gp :: H) wz W' := h2.mono (by simp +contextual)
      have hbz := hb.trans (hbe.mono hb.size)
      refine ⟨rfl, Lib.hid ⟨_, g, _, F, v, H, G, h1, rfl, ?_, (hM.later hbe).save hs (fun k hk => (hG k hk).2), hP.save hs hgqH, hH, hgp, fun k hk => (hG k hk).1, by rw [hgq]; exact hb.size, fun hx => by have := hml gq hx; omega, hgqH, fun k hk => (hG k hk).2, hbz.trans (hs.below hbz.size (fun k hk => ?_))⟩⟩
      · rw [upd_same, ht, HT0.out]
        rfl
      · simp only [List.mem_cons] at hk
        rcases hk with rfl | hk
        · exact hgp
        · exact hH k hk
    try (change Code.wp _ _ _ _ (wc.alloc (mpObj true (-1) 0)))
    rw [← hgq, ← hwz]
    clear hgq hwz HC
    go_wp2_with fail
    refine HLOAD.out.mono ?_
    rintro e wl ⟨rfl, HDL⟩
    clear HLOAD
    obtain ⟨gt, HDT⟩ : ∃ gt, Hid (Duos w3 wl gl gp gt gm gq ⟨true, none, 0⟩ T0 ⟨true, none, 0⟩ T0) := by
      obtain ⟨gt, h⟩ := HDL.out
      exact ⟨gt, Lib.hid h⟩
    clear HDL
    go_wp2
    go_loopg [94] n (fun gk i wr => ∃ (j : Nat) (sp : Pw) (t : Tst), gk = n - j ∧ j ≤ n ∧ i = .int .i64 (j : Int) ∧ Hid (Duos w3 wr gl gp gt gm gq sp t sp t ∧ sp.within j ∧ Tst.like T0 t))
    case atStart => exact ⟨0, _, _, rfl, Nat.zero_le _, rfl, Lib.hid ⟨HDT.out, ⟨fun k t e => (by cases e), Nat.le_refl _⟩, Tst.like_refl _⟩⟩
    case round =>
      obtain ⟨j, sp, t, hgk, hj, rfl, HI⟩ := hrel
      have HGK := Lib.hid hgk
      clear hgk HDT
      have HBR : Hid (Below w.heap.size w wr) := Lib.hid (HB3.out.trans (HI.out.1.bel.mono HB3.out.size))
      by_cases hlt : j < n
      · as_aux_lemma =>
        have HRr := HIN.out.2.2.later HBR.out
        obtain ⟨b, o, rfl, hc⟩ := HRr.2.2 (by omega)
        obtain ⟨e0, e1, e2, e3⟩ := hc j hlt
        have hjl : j < X.length := by rw [HIN.out.2.2.1]; exact hlt
        have HX0 := HIN.out.2.2.2.1 (X.getD j Cal.none) (by simp [List.getD, hjl])
        obtain ⟨y, hxe⟩ : ∃ y, y = X.getD j Cal.none := ⟨_, rfl⟩
        rw [← hxe] at e0 e1 e2 e3 HX0
        clear hxe hc HRr hjl
        obtain ⟨K, I, Z, ab, nb, cb, bb⟩ := y
        simp only at e0 e1 e2 e3
        have HX := Lib.hid HX0
        clear HX0
        go_upto_region 14 with fail
        obtain ⟨W1, hW1⟩ : ∃ W1, W1 = wr.alloc (actObj K I Z (.slice ab nb cb)) := ⟨_, rfl⟩
        obtain ⟨gx, hgx⟩ : ∃ gx, gx = wr.heap.size := ⟨_, rfl⟩
        change Code.wp _ _ _ _ (wr.alloc (actObj K I Z (.slice ab nb cb)))
        rw [← hW1, ← hgx]
        have hob : W1.heap[gx]? = some (actObj K I Z (.slice ab nb cb)) := by rw [hW1, hgx]; exact heap_alloc_new wr _
        have hbW : Below wr.heap.size wr W1 := by rw [hW1]; exact Below.alloc0 _ _
        obtain ⟨a0, a1, a2, a3⟩ := act_cells hob
        have d0 := (HI.out.1.later hbW).drive
        by_cases hbig : 300 < nb
        · as_aux_lemma =>
          have hbigI : (300 : Int) < (nb : Int) := by omega
          clear hbig
          have HBW := Lib.hid (HBR.out.trans (hbW.mono HBR.out.size))
          clear hW1 hgx hob hbW e0 e1 e2 e3 d0
          go_quiet (fail)
          obtain ⟨W2, hW2⟩ : ∃ W2, W2 = W1.drewN nq := ⟨_, rfl⟩
          rw [← hW2]
          have b3 : W2.cell? ⟨gx, 3, none⟩ = some (.slice ab nb cb) := by rw [hW2]; exact a3
          have HB2 : Hid (Below w.heap.size w W2) := Lib.hid (by rw [hW2]; exact Below.drewN' HBW.out _)
          clear hW2 a0 a1 a2 a3
          go_wp2
          go_ret
          exact ⟨rfl, HB2.out⟩
        · as_aux_lemma =>
          have hnb : nb ≤ 300 := by omega
          have hnbI : ¬ (300 : Int) < (nb : Int) := by omega
          clear hbig
          have HSTEP : Hid (Calls Try.prog 21 #[.pointer (some ⟨gt, 0, none⟩), .pointer (some ⟨gm, 0, none⟩), .pointer (some ⟨gq, 0, none⟩), .agg #[.int .u8 (K : Int), .int .i64 I, .int .i64 Z, .slice ab nb cb]] W1.drew fun e W' => e = .returned (.bool true) ∧ (W'.cell? ⟨gl, 0, none⟩ = some (.pointer (some ⟨gt, 0, none⟩)) ∧ W'.cell? ⟨gx, 0, none⟩ = some (.int .u8 (K : Int)) ∧ W'.cell? ⟨gx, 1, none⟩ = some (.int .i64 I) ∧ W'.cell? ⟨gx, 2, none⟩ = some (.int .i64 Z) ∧ W'.cell? ⟨gx, 3, none⟩ = some (.slice ab nb cb)) ∧ Hid (∃ s' x, Duos w3 W' gl gp gt gm gq s' x s' x ∧ s'.within (j + 1) ∧ Tst.like T0 x)) := by
            have hl := HI.out.2.2
            obtain ⟨l1, l2, l3, l4⟩ := hl
            rw [HT0.out] at l1 l3 l4
            simp only at l1 l3 l4
            have hWl := HIN.out.1.1
            have hRl := HIN.out.2.1.1
            obtain ⟨p1, p2, p3, p4⟩ := HX.out
            have hbD : Below wr.heap.size wr W1.drew := hbW.drew
            have hrd : Rd W1.drew ab nb bb := p4.later (HBR.out.trans (hbD.mono HBR.out.size))
            refine Lib.hid ((HI.out.1.step hbD j HI.out.2.1 (by omega) (by rw [l1]; omega) (by rw [l3]; omega) (by rw [l4]; omega) K I Z ab nb cb bb p2 hrd (fun h0 b' o' e => ?_) hnb).mono ?_)
            · obtain ⟨b2, o2, e2, hcc⟩ := p4.2.2 h0
              simp only at e2
              rw [e2] at e
              injection e with e
              injection e with e
              subst e
              have := World.block_lt_of_cell? w _ (hcc 0 h0)
              have := HB3.out.size
              simp only at *
              omega
            · rintro e W' ⟨rfl, ⟨s', x', h1, h2, h3⟩, h4⟩
              have hgx' : W'.heap[gx]? = some (actObj K I Z (.slice ab nb cb)) := (h4 gx (by rw [hgx]; exact Nat.le_refl _) (by have := lt_of_block hob; simpa using this)).trans hob
              obtain ⟨q0, q1, q2, q3⟩ := act_cells hgx'
              exact ⟨rfl, ⟨h1.drive, q0, q1, q2, q3⟩, Lib.hid ⟨s', x', h1, h2, Tst.like_trans HI.out.2.2 h3⟩⟩
          have HJL := Lib.hid hlt
          clear hW1 hgx hob hbW e0 e1 e2 e3
          go_region_held3 (fun W => W.cell? ⟨gl, 0, none⟩ = some (.pointer (some ⟨gt, 0, none⟩)) ∧ W.cell? ⟨gx, 0, none⟩ = some (.int .u8 (K : Int)) ∧ W.cell? ⟨gx, 1, none⟩ = some (.int .i64 I) ∧ W.cell? ⟨gx, 2, none⟩ = some (.int .i64 Z) ∧ W.cell? ⟨gx, 3, none⟩ = some (.slice ab nb cb))
            (first | exact ⟨d0, a0, a1, a2, a3⟩ | exact k2 | go_keep)
            (first
              | (go_at_call 21; refine HSTEP.out.mono ?_; rintro e W2 ⟨rfl, k2, H2⟩))
          clear d0 a0 a1 a2 a3 k2
          go_wp2
          go_roundg (n - (j + 1))
          case measure => have := HGK.out; have := HJL.out; omega
          case rel =>
            obtain ⟨s', x', h1, h2, h3⟩ := H2.out
            exact ⟨j + 1, s', x', rfl, HJL.out, by go_num, Lib.hid ⟨h1, h2, h3⟩⟩
      · as_aux_lemma =>
        have hjn : j = n := by omega
        clear hj
        obtain ⟨HD0, HWI, HLK⟩ : Hid (Duos w3 wr gl gp gt gm gq sp t sp t) ∧ Hid (sp.within 60) ∧ Hid (Tst.like T0 t) := ⟨Lib.hid HI.out.1, Lib.hid (HI.out.2.1.mono (by omega)), Lib.hid HI.out.2.2⟩
        clear HI HGK HBR hjn
        have HBEL : Hid (∀ W, Below w3.heap.size w3 W → Below w.heap.size w W) := Lib.hid fun W hW => HB3.out.trans (hW.mono HB3.out.size)
        -- power comes back
        have c0 := HD0.out.drive
        have c1 := HD0.out.supply
        have HUP : Hid (Calls Try.prog 22 #[.pointer (some ⟨gp, 0, none⟩)] wr fun e W' => e = .returned (.tuple #[]) ∧ Hid (Duos w3 W' gl gp gt gm gq sp.up t sp t)) := Lib.hid (HD0.out.up.mono fun e W' ⟨h1, h2⟩ => ⟨h1, Lib.hid h2⟩)
        go_wp2_with fail
        refine HUP.out.mono ?_
        rintro e u1 ⟨rfl, H1⟩
        clear c0 c1 HUP HD0
        -- and is planned to fall
        obtain ⟨s1, hs1⟩ : ∃ s1, s1 = sp.up.planned At To := ⟨_, rfl⟩
        have HS1 := Lib.hid hs1
        have c0 := H1.out.drive
        have c1 := H1.out.supply
        obtain ⟨k0, k4, k5⟩ := HKS.out u1 H1.out.bel
        have HPLAN : Hid (Calls Try.prog 23 #[.pointer (some ⟨gp, 0, none⟩), .int .i64 At, .int .i64 To] u1.drew fun e W' => e = .returned (.tuple #[]) ∧ (W'.cell? ⟨gl, 0, none⟩ = some (.pointer (some ⟨gt, 0, none⟩)) ∧ W'.cell? ⟨gt, 0, none⟩ = some (.pointer (some ⟨gp, 0, none⟩)) ∧ W'.cell? ⟨gb + 1, 4, none⟩ = some (.int .i64 At) ∧ W'.cell? ⟨gb + 1, 5, none⟩ = some (.int .i64 To)) ∧ Hid (Duos w3 W' gl gp gt gm gq s1 t sp t)) := by
          refine Lib.hid (((H1.out.later (Below.refl _ _).drew).plan At To).mono ?_)
          rintro e W' ⟨rfl, h2, _⟩
          obtain ⟨_, q4, q5⟩ := HKS.out W' h2.bel
          exact ⟨rfl, ⟨h2.drive, h2.supply, q4, q5⟩, Lib.hid (by rw [HS1.out]; exact h2)⟩
        clear hs1
        go_upto_region 18 with fail
        go_region_held3 (fun W => W.cell? ⟨gl, 0, none⟩ = some (.pointer (some ⟨gt, 0, none⟩)) ∧ W.cell? ⟨gt, 0, none⟩ = some (.pointer (some ⟨gp, 0, none⟩)) ∧ W.cell? ⟨gb + 1, 4, none⟩ = some (.int .i64 At) ∧ W.cell? ⟨gb + 1, 5, none⟩ = some (.int .i64 To))
          (first | exact ⟨c0, c1, k4, k5⟩ | exact kk2 | go_keep)
          (first
            | (go_at_call 23; refine HPLAN.out.mono ?_; rintro e u2 ⟨rfl, kk2, H2⟩))
        clear c0 c1 k0 k4 k5 kk2 HPLAN
        -- the document's power
        go_upto_region 19 with fail
        go_cut [] (fun wx => Hid (Duos w3 wx gl gp gt gm gq s1 t s1 t))
        case first => as_aux_lemma =>
          obtain ⟨tt, hq, _⟩ := H2.out.mp
          obtain ⟨d0, d1, d2⟩ := mpcells hq
          have df := mpsoft hq
          obtain ⟨k0, k4, k5⟩ := HKS.out u2 H2.out.bel
          have HQ := Lib.hid hq
          clear hq
          go_region
          all_goals
            go_wp2_with fail
            go_meet
            have e0 : u2.drew.heap[gq]? = some (mpObj sp.on sp.till tt) := HQ.out
            have eon : s1.on = true := by rw [HS1.out]; exact planned_on sp At To
            have eti : s1.till = max At (-1) := by rw [HS1.out]; exact till_planned _ _ _
            refine Lib.hid (H2.out.mpower (((((Save.refl _ _).drew).trans (Save.set _ _ _ _)).trans (Save.set _ _ _ _)).trans (Save.set _ _ _ _)) ⟨To, ?_, by rw [HS1.out]; exact torn_planned _ _ _⟩)
            rw [eon, eti]
            first
              | (change (((u2.drew.setCell ⟨gq, 0, none⟩ (.bool true)).setCell ⟨gq, 1, none⟩ (.int .i64 (max At (-1)))).setCell ⟨gq, 2, none⟩ (.int .i64 To)).heap[gq]? = _
                 rw [mplay0 e0, mplay1 (put_same e0), mplay2 (put_same (put_same e0))]; exact put_same (put_same (put_same e0)))
              | (change (((u2.drew.setCell ⟨gq, 0, none⟩ (.bool true)).setCell ⟨gq, 2, none⟩ (.int .i64 To)).setCell ⟨gq, 1, none⟩ (.int .i64 (max At (-1)))).heap[gq]? = _
                 rw [mplay0 e0, mplay2 (put_same e0), mplay1 (put_same (put_same e0))]; exact put_same (put_same (put_same e0)))
              | (change (((u2.drew.setCell ⟨gq, 1, none⟩ (.int .i64 (max At (-1)))).setCell ⟨gq, 0, none⟩ (.bool true)).setCell ⟨gq, 2, none⟩ (.int .i64 To)).heap[gq]? = _
                 rw [mplay1 e0, mplay0 (put_same e0), mplay2 (put_same (put_same e0))]; exact put_same (put_same (put_same e0)))
              | (change (((u2.drew.setCell ⟨gq, 1, none⟩ (.int .i64 (max At (-1)))).setCell ⟨gq, 2, none⟩ (.int .i64 To)).setCell ⟨gq, 0, none⟩ (.bool true)).heap[gq]? = _
                 rw [mplay1 e0, mplay2 (put_same e0), mplay0 (put_same (put_same e0))]; exact put_same (put_same (put_same e0)))
              | (change (((u2.drew.setCell ⟨gq, 2, none⟩ (.int .i64 To)).setCell ⟨gq, 0, none⟩ (.bool true)).setCell ⟨gq, 1, none⟩ (.int .i64 (max At (-1)))).heap[gq]? = _
                 rw [mplay2 e0, mplay0 (put_same e0), mplay1 (put_same (put_same e0))]; exact put_same (put_same (put_same e0)))
              | (change (((u2.drew.setCell ⟨gq, 2, none⟩ (.int .i64 To)).setCell ⟨gq, 1, none⟩ (.int .i64 (max At (-1)))).setCell ⟨gq, 0, none⟩ (.bool true)).heap[gq]? = _
                 rw [mplay2 e0, mplay1 (put_same e0), mplay0 (put_same (put_same e0))]; exact put_same (put_same (put_same e0)))
        case rest => as_aux_lemma =>
          have HD1 : Hid (Duos w3 wc gl gp gt gm gq s1 t s1 t) := hcut
          clear hcut H1 H2
          have HOF : Hid (∀ W, Calls Try.prog 10 #[.agg #[.string s, .int .i64 g, .int .i64 m]] W fun e w' => e = .returned (.agg #[.string s, .int .i64 g, .int .i64 m]) ∧ Hid (Below W.heap.size W w')) := Lib.hid fun W => by
            have h1 := of_any x W
            rw [HLAB.out] at h1
            exact h1.mono fun e w' ⟨h1, h2⟩ => ⟨h1, Lib.hid h2⟩
          have HRI : Hid (∀ W, Calls Try.prog 9 #[.agg #[.string s, .int .i64 g, .int .i64 m]] W fun e w' => e = .returned (.bool x.ok) ∧ Hid (Below W.heap.size W w')) := Lib.hid fun W => by
            have h1 := refRight_any x W HLIVE.out.1 (by have := HLIVE.out.2; omega)
            rw [HLAB.out] at h1
            exact h1.mono fun e w' ⟨h1, h2⟩ => ⟨h1, Lib.hid h2⟩
          obtain ⟨k0, k4, k5⟩ := HKS.out wc HD1.out.bel
          obtain ⟨y0, y1, y2⟩ := HKY.out wc HD1.out.bel
          clear k4 k5
          by_cases hok : x.ok = true
          · by_cases hz : z = 0
            · subst hz
              have hon : s1.on = true := by rw [HS1.out]; exact planned_on sp At To
              have hwi1 : s1.within 60 := by rw [HS1.out]; exact HWI.out.up.planned To hAt
              have hyes := lput_yes HD1.out hon 60 hwi1 (by omega) x HLIVE.out.1 (by have := HLIVE.out.2; omega) hok
              have hpos0 := labPut_pos s1 t.rewound x.bytes rfl
              have hlike := labPut_like s1 t.rewound x.bytes 60 hwi1
              have hpl := put_like s1 t.rewound x.bytes 60 hwi1
              have HRB : Hid (∀ W, Calls Try.prog 15 #[.agg #[.string s, .int .i64 g, .int .i64 m]] W fun e w' => ∃ a c, e = .returned (.slice a x.bytes.length c) ∧ Hid (Rd w' a x.bytes.length x.bytes ∧ x.bytes.length ≤ c ∧ (∀ b o, a = some ⟨b, o, none⟩ → W.heap.size ≤ b) ∧ Below W.heap.size W w')) := Lib.hid fun W => by
                have h1 := refBytes_any x W hok
                rw [HLAB.out] at h1
                refine h1.mono ?_
                rintro e w' ⟨a, c, rfl, h2, h3⟩
                obtain ⟨a', c', hv, hr, hc, hlo⟩ := h2.lies
                injection hv with e1 e2 e3
                subst e1 e3
                exact ⟨a, c, rfl, Lib.hid ⟨hr, hc, hlo, h3⟩⟩
              have hbl := Lab.bytes_len hok
              rw [HLAB.out] at hyes
              rw [hok] at HRI
              obtain ⟨L, hL⟩ : ∃ L, L = x.bytes := ⟨_, rfl⟩
              rw [← hL] at hyes hpos0 hlike hpl HRB hbl
              have HR0 : Hid (labPut s1 t.rewound L = if (Tst.put s1 t.rewound L).2.2 = 0 then Tst.write (Tst.put s1 t.rewound L).1 (Tst.put s1 t.rewound L).2.1 [] else Tst.put s1 t.rewound L) := Lib.hid rfl
              obtain ⟨R, hR⟩ : ∃ R, R = labPut s1 t.rewound L := ⟨_, rfl⟩
              rw [← hR] at hyes hpos0 hlike HR0
              have HPS : Hid ((R.2.2 = 0 → labPos R = 2) ∧ (R.2.2 ≠ 0 → labPos R = 0)) := Lib.hid ⟨fun h => by unfold labPos; rw [if_pos h, hpos0 h], fun h => by unfold labPos; rw [if_neg h]⟩
              obtain ⟨ps, hps⟩ : ∃ ps, ps = labPos R := ⟨_, rfl⟩
              rw [← hps] at hyes HPS
              obtain ⟨A, hA⟩ : ∃ A, A = Tst.put s1 t.rewound L := ⟨_, rfl⟩
              rw [← hA] at HR0 hpl
              have HA := Lib.hid hA
              have HPUT := Lib.hid hyes
              have HLR : Hid (Tst.like T0 R.2.1 ∧ R.1.within 62) := Lib.hid ⟨Tst.like_trans HLK.out (Tst.like_trans ⟨rfl, rfl, rfl, rfl⟩ hlike.1), hlike.2⟩
              have HLA : Hid (Tst.like T0 A.2.1 ∧ A.1.within 61) := Lib.hid ⟨Tst.like_trans HLK.out (Tst.like_trans ⟨rfl, rfl, rfl, rfl⟩ hpl.1), hpl.2⟩
              have HOK1 : Hid s1.ok := Lib.hid (hwi1.ok (by omega))
              have HNWL : Hid (t.rewound.nw.length ≤ 1000000 ∧ A.2.1.nw.length ≤ 1000000) := by
                have h0 := HIN3.out.1.1
                obtain ⟨_, _, l3, _⟩ := HLK.out
                obtain ⟨_, _, l3', _⟩ := HLA.out.1
                rw [HT0.out] at l3 l3'
                exact Lib.hid ⟨by show t.nw.length ≤ _; rw [l3]; simp only; omega, by rw [l3']; simp only; omega⟩
              have HBL := Lib.hid hbl
              obtain ⟨nL, hnL⟩ : ∃ nL, nL = L.length := ⟨_, rfl⟩
              rw [← hnL] at HRB
              have HNL := Lib.hid hnL
              clear hon hwi1 hyes hpos0 hlike hpl hbl hL hR hps hA hok hnL
              go_wp2_with fail
              refine HPUT.out.mono ?_
              rintro e u3 ⟨rfl, H3⟩
              clear k0 y0 y1 y2 HPUT HD1
              obtain ⟨y0, y1, y2⟩ := HKY.out u3 H3.out.bel
              go_wp2_with fail
              refine (HOF.out u3).mono ?_
              rintro e u4 ⟨rfl, hb4⟩
              have H4 : Hid (Duos w3 u4 gl gp gt gm gq R.1 R.2.1 s1 t) := Lib.hid (H3.out.later hb4.out)
              go_wp2_with fail
              refine (HRI.out u4).mono ?_
              rintro e u5 ⟨rfl, hb5⟩
              have H5 : Hid (Duos w3 u5 gl gp gt gm gq R.1 R.2.1 s1 t) := Lib.hid (H4.out.later hb5.out)
              clear y0 y1 y2 hb4 hb5 H3 H4
              obtain ⟨k0, k4, k5⟩ := HKS.out u5 H5.out.bel
              obtain ⟨_, m5, mf⟩ := H5.out.mcells
              have H6 : Hid (Duos w3 (u5.setCell ⟨gm, 5, none⟩ (.int .i64 0)) gl gp gt gm gq R.1 R.2.1 s1 t.rewound) := Lib.hid H5.out.rewind
              clear k4 k5
              go_upto_region 24 with fail
              obtain ⟨u6, hu6⟩ : ∃ u6, u6 = u5.setCell ⟨gm, 5, none⟩ (.int .i64 0) := ⟨_, rfl⟩
              rw [← hu6] at H6 ⊢
              clear hu6 k0 m5 mf H5
              obtain ⟨y0, y1, y2⟩ := HKY.out u6 H6.out.bel
              go_wp2_with fail
              refine (HOF.out u6).mono ?_
              rintro e u7 ⟨rfl, hb7⟩
              go_wp2_with fail
              refine (HRB.out u7).mono ?_
              rintro e u8 ⟨aB, cB', rfl, HB8⟩
              have HMPUT : Hid (Calls Try.prog 25 #[.pointer (some ⟨gm, 0, none⟩), .pointer (some ⟨gq, 0, none⟩), .agg #[.slice aB nL cB', .bool false]] u8 fun e W' => e = .returned (.int .i64 (A.2.2 : Int)) ∧ Hid (Duos w3 W' gl gp gt gm gq R.1 R.2.1 A.1 A.2.1)) := by
                have hb68 : Below u6.heap.size u6 u8 := hb7.out.trans (HB8.out.2.2.2.mono hb7.out.size)
                have hm := H6.out.mput HOK1.out HNWL.out.1 hb68 aB nL cB' L false (by simp) HB8.out.1 (fun _ b o e => Nat.le_trans hb7.out.size (HB8.out.2.2.1 b o e)) HB8.out.2.1
                rw [mput_put, ← HA.out] at hm
                exact Lib.hid (hm.mono fun e W' ⟨h1, h2⟩ => ⟨h1, Lib.hid h2⟩)
              clear y0 y1 y2
              go_wp2_with fail
              refine HMPUT.out.mono ?_
              rintro e u9 ⟨rfl, H9⟩
              clear HMPUT HB8 hb7 H6
              obtain ⟨sA, tA, E⟩ := A
              simp only at HR0 HLA HNWL H9
              go_upto_if 186 with fail
              go_cut [18] (fun v wx => v = .int .i64 (R.2.2 : Int) ∧ Hid (Duos w3 wx gl gp gt gm gq R.1 R.2.1 R.1 R.2.1))
              case first => as_aux_lemma =>
                by_cases hE : E = 0
                · as_aux_lemma =>
                  subst hE
                  have hRw : R = Tst.write sA tA [] := by have := HR0.out; simpa using this
                  have HMK : Hid (Calls Try.prog 25 #[.pointer (some ⟨gm, 0, none⟩), .pointer (some ⟨gq, 0, none⟩), .agg #[.slice none 0 0, .bool true]] u9 fun e W' => e = .returned (.int .i64 (R.2.2 : Int)) ∧ Hid (Duos w3 W' gl gp gt gm gq R.1 R.2.1 R.1 R.2.1)) := by
                    have hm := H9.out.mput (HLA.out.2.ok (by omega)) HNWL.out.2 (Below.refl _ _) none 0 0 [] true (fun _ => rfl) ⟨rfl, by simp, by simp⟩ (by simp) (Nat.le_refl _)
                    rw [mput_mark, ← hRw] at hm
                    exact Lib.hid (hm.mono fun e W' ⟨h1, h2⟩ => ⟨h1, Lib.hid h2⟩)
                  clear hRw
                  have hb0 : (((0 : Nat) : Int) == 0) = true := rfl
                  go_wp2_with fail
                  refine HMK.out.mono ?_
                  rintro e u10 ⟨rfl, H10⟩
                  go_wp2
                  go_meet
                  exact ⟨rfl, H10⟩
                · as_aux_lemma =>
                  have hEb : ((E : Int) == 0) = false := by simp; omega
                  have hRw : R = (sA, tA, E) := by have := HR0.out; simpa [hE] using this
                  subst hRw
                  clear hE
                  go_wp2
                  go_meet
                  exact ⟨rfl, H9⟩
              case rest => as_aux_lemma =>
                obtain ⟨rfl, H10⟩ := hcut
                clear H9 HR0 HLA HNWL HOK1 HA
                obtain ⟨sR, tR, E⟩ := R
                simp only at H10 HPS HLR
                have HRMM : Hid (tR.room ≤ 3000 ∧ tR.nr.length ≤ 60) := by
                  obtain ⟨l1, _, _, l4⟩ := HLR.out.1
                  have h0 := HIN3.out.2.1
                  rw [HT0.out] at l1 l4
                  simp only at l1 l4
                  exact Lib.hid ⟨by rw [l1]; exact hrb.2, by rw [l4]; omega⟩
                -- what is returned
                go_upto_region 27 with fail
                go_cut [222] (fun v wx => v = .bool false ∧ Hid (Duos w3 wx gl gp gt gm gq sR tR sR tR))
                case first => as_aux_lemma =>
                  have c0 := H10.out.drive
                  obtain ⟨⟨av, cv, m4⟩, _, _⟩ := H10.out.mcells
                  obtain ⟨pn, hpn⟩ : ∃ pn, pn = tR.P.length := ⟨_, rfl⟩
                  have HLEN : Hid (Calls Try.prog 26 #[.pointer (some ⟨gt, 0, none⟩)] wc.drew fun e w' => e = .returned (.int .i64 (pn : Int)) ∧ w' = wc.drew) := Lib.hid (by rw [hpn]; exact (H10.out.later (Below.refl _ _).drew).len)
                  rw [← hpn] at m4
                  clear hpn
                  have hEE : ((E : Int) != (E : Int)) = false := by simp
                  have hPP : ((pn : Int) != (pn : Int)) = false := by simp
                  by_cases hE : E = 0
                  · as_aux_lemma =>
                    have hE1 : ((E : Int) == 0) = true := by simp [hE]
                    have hE2 : ((E : Int) != 0) = false := by simp [hE]
                    have hP2 : ((ps : Int) != 2) = false := by rw [HPS.out.1 hE]; rfl
                    clear hE
                    refine wp_region_held_drew (S := fun W => W.cell? ⟨gl, 0, none⟩ = some (.pointer (some ⟨gt, 0, none⟩)) ∧ W.cell? ⟨gm, 4, none⟩ = some (.slice av pn cv)) (by kernel_rfl) ⟨c0, m4⟩ (fun _ => ?_)
                    obtain ⟨v20, hv20⟩ : ∃ v20, v20 = wc.drew := ⟨_, rfl⟩
                    have HSF : Hid (v20.cell? ⟨gl, 0, none⟩ = some (.pointer (some ⟨gt, 0, none⟩)) ∧ v20.cell? ⟨gm, 4, none⟩ = some (.slice av pn cv)) := Lib.hid (by rw [hv20]; exact ⟨c0, m4⟩)
                    have HD20 : Hid (Duos w3 v20 gl gp gt gm gq sR tR sR tR) := Lib.hid (by rw [hv20]; exact H10.out.later (Below.refl _ _).drew)
                    rw [← hv20] at HLEN ⊢
                    clear hv20 c0 m4
                    refine wpAnyH_take (i := 0) (v := ?va0) rfl (by kernel_rfl) (by kernel_rfl) (by kernel_rfl) (fun _ _ _ h => h) (Or.inl ⟨by rfl, ?ha0⟩) HSF.out ?ra0
                    case ha0 => (intro W hW; (try dsimp only at hW); go_simp; try with_reducible rfl)
                    simp only [Act.put, List.getElem_toArray, List.getElem_cons_succ, List.getElem_cons_zero, List.setIfInBounds_toArray, List.set_cons_zero, List.set_cons_succ]
                    refine wpAnyH_take (i := 1) (v := ?va1) rfl (by kernel_rfl) (by kernel_rfl) (by kernel_rfl) (fun _ _ _ h => h) (Or.inl ⟨by rfl, ?ha1⟩) HSF.out ?ra1
                    case ha1 => (intro W hW; (try dsimp only at hW); go_simp; try with_reducible rfl)
                    simp only [Act.put, List.getElem_toArray, List.getElem_cons_succ, List.getElem_cons_zero, List.setIfInBounds_toArray, List.set_cons_zero, List.set_cons_succ]
                    refine wpAnyH_take (i := 2) (v := ?va2) rfl (by kernel_rfl) (by kernel_rfl) (by kernel_rfl) (fun _ _ _ h => h) (Or.inl ⟨by rfl, ?ha2⟩) HSF.out ?ra2
                    case ha2 => (intro W hW; (try dsimp only at hW); go_simp; try with_reducible rfl)
                    simp only [Act.put, List.getElem_toArray, List.getElem_cons_succ, List.getElem_cons_zero, List.setIfInBounds_toArray, List.set_cons_zero, List.set_cons_succ]
                    refine wpAnyH_take (i := 3) (v := ?va3) rfl (by kernel_rfl) (by kernel_rfl) (by kernel_rfl) (fun _ _ _ h => h) (Or.inl ⟨by rfl, ?ha3⟩) HSF.out ?ra3
                    case ha3 => (intro W hW; (try dsimp only at hW); go_simp; try with_reducible rfl)
                    simp only [Act.put, List.getElem_toArray, List.getElem_cons_succ, List.getElem_cons_zero, List.setIfInBounds_toArray, List.set_cons_zero, List.set_cons_succ]
                    refine wpAnyH_take (i := 4) (v := ?va4) rfl (by kernel_rfl) (by kernel_rfl) (by kernel_rfl) (fun _ _ _ h => h) (Or.inl ⟨by rfl, ?ha4⟩) HSF.out ?ra4
                    case ha4 => (intro W hW; (try dsimp only at hW); go_simp; try with_reducible rfl)
                    simp only [Act.put, List.getElem_toArray, List.getElem_cons_succ, List.getElem_cons_zero, List.setIfInBounds_toArray, List.set_cons_zero, List.set_cons_succ]
                    refine wpAnyH_take (i := 5) (v := ?va5) rfl (by kernel_rfl) (by kernel_rfl) (by kernel_rfl) (fun _ _ _ h => h) (Or.inl ⟨by rfl, ?ha5⟩) HSF.out ?ra5
                    case ha5 => (intro W hW; (try dsimp only at hW); go_simp; try with_reducible rfl)
                    simp only [Act.put, List.getElem_toArray, List.getElem_cons_succ, List.getElem_cons_zero, List.setIfInBounds_toArray, List.set_cons_zero, List.set_cons_succ]
                    refine wpAnyH_take (i := 6) (v := ?va6) rfl (by kernel_rfl) (by kernel_rfl) (by kernel_rfl) (fun _ _ _ h => h) (Or.inl ⟨by rfl, ?ha6⟩) HSF.out ?ra6
                    case ha6 => (intro W hW; (try dsimp only at hW); go_simp; try with_reducible rfl)
                    simp only [Act.put, List.getElem_toArray, List.getElem_cons_succ, List.getElem_cons_zero, List.setIfInBounds_toArray, List.set_cons_zero, List.set_cons_succ]
                    refine wpAnyH_take (i := 7) (v := ?va7) rfl (by kernel_rfl) (by kernel_rfl) (by kernel_rfl) (fun _ _ _ h => h) (Or.inl ⟨by rfl, ?ha7⟩) HSF.out ?ra7
                    case ha7 => (intro W hW; (try dsimp only at hW); go_simp; try with_reducible rfl)
                    simp only [Act.put, List.getElem_toArray, List.getElem_cons_succ, List.getElem_cons_zero, List.setIfInBounds_toArray, List.set_cons_zero, List.set_cons_succ]
                    refine wpAnyH_take (i := 8) (v := ?va8) rfl (by kernel_rfl) (by kernel_rfl) (by kernel_rfl) (fun _ _ _ h => h) (Or.inl ⟨by rfl, ?ha8⟩) HSF.out ?ra8
                    case ha8 => (intro W hW; (try dsimp only at hW); go_simp; try with_reducible rfl)
                    simp only [Act.put, List.getElem_toArray, List.getElem_cons_succ, List.getElem_cons_zero, List.setIfInBounds_toArray, List.set_cons_zero, List.set_cons_succ]
                    refine wpAnyH_take (i := 9) (v := ?va9) rfl (by kernel_rfl) (by kernel_rfl) (by kernel_rfl) (fun _ _ _ h => h) (Or.inl ⟨by rfl, ?ha9⟩) HSF.out ?ra9
                    case ha9 => (intro W hW; (try dsimp only at hW); go_simp; try with_reducible rfl)
                    simp only [Act.put, List.getElem_toArray, List.getElem_cons_succ, List.getElem_cons_zero, List.setIfInBounds_toArray, List.set_cons_zero, List.set_cons_succ]
                    refine wpAnyH_take (i := 10) (v := ?va10) rfl (by kernel_rfl) (by kernel_rfl) (by kernel_rfl) (fun _ _ _ h => h) (Or.inl ⟨by rfl, ?ha10⟩) HSF.out ?ra10
                    case ha10 => (intro W hW; (try dsimp only at hW); go_simp; try with_reducible rfl)
                    simp only [Act.put, List.getElem_toArray, List.getElem_cons_succ, List.getElem_cons_zero, List.setIfInBounds_toArray, List.set_cons_zero, List.set_cons_succ]
                    refine wpAnyH_take (i := 11) (v := ?va11) rfl (by kernel_rfl) (by kernel_rfl) (by kernel_rfl) (fun _ _ _ h => h) (Or.inl ⟨by rfl, ?ha11⟩) HSF.out ?ra11
                    case ha11 => (intro W hW; (try dsimp only at hW); go_simp; try with_reducible rfl)
                    simp only [Act.put, List.getElem_toArray, List.getElem_cons_succ, List.getElem_cons_zero, List.setIfInBounds_toArray, List.set_cons_zero, List.set_cons_succ]
                    refine wpAnyH_take (i := 12) (v := ?va12) rfl (by kernel_rfl) (by kernel_rfl) (by kernel_rfl) (fun _ _ _ h => h) (Or.inl ⟨by rfl, ?ha12⟩) HSF.out ?ra12
                    case ha12 => (intro W hW; (try dsimp only at hW); go_simp; try with_reducible rfl)
                    simp only [Act.put, List.getElem_toArray, List.getElem_cons_succ, List.getElem_cons_zero, List.setIfInBounds_toArray, List.set_cons_zero, List.set_cons_succ]
                    refine wpAnyH_take (i := 13) (v := ?va13) rfl (by kernel_rfl) (by kernel_rfl) (by kernel_rfl) (fun _ _ _ h => h) (Or.inl ⟨by rfl, ?ha13⟩) HSF.out ?ra13
                    case ha13 => (intro W hW; (try dsimp only at hW); go_simp; try with_reducible rfl)
                    simp only [Act.put, List.getElem_toArray, List.getElem_cons_succ, List.getElem_cons_zero, List.setIfInBounds_toArray, List.set_cons_zero, List.set_cons_succ]
                    refine wpAnyH_take (i := 14) (v := ?va14) rfl (by kernel_rfl) (by kernel_rfl) (by kernel_rfl) (fun _ _ _ h => h) (Or.inl ⟨by rfl, ?ha14⟩) HSF.out ?ra14
                    case ha14 => (intro W hW; (try dsimp only at hW); go_simp; try with_reducible rfl)
                    simp only [Act.put, List.getElem_toArray, List.getElem_cons_succ, List.getElem_cons_zero, List.setIfInBounds_toArray, List.set_cons_zero, List.set_cons_succ]
                    refine wpAnyH_take (i := 15) (v := undef) rfl (by kernel_rfl) (by kernel_rfl) (by kernel_rfl) (fun _ _ _ h => h) (Or.inr ⟨by rfl, rfl⟩) HSF.out ?ra15
                    simp only [Act.put, List.getElem_toArray, List.getElem_cons_succ, List.getElem_cons_zero, List.setIfInBounds_toArray, List.set_cons_zero, List.set_cons_succ]
                    refine wpAnyH_take (i := 16) (v := undef) rfl (by kernel_rfl) (by kernel_rfl) (by kernel_rfl) (fun _ _ _ h => h) (Or.inr ⟨by rfl, rfl⟩) HSF.out ?ra16
                    simp only [Act.put, List.getElem_toArray, List.getElem_cons_succ, List.getElem_cons_zero, List.setIfInBounds_toArray, List.set_cons_zero, List.set_cons_succ]
                    refine wpAnyH_take (i := 17) (v := ?va17) rfl (by kernel_rfl) (by kernel_rfl) (by kernel_rfl) (fun _ _ _ h => h) (Or.inl ⟨by rfl, ?ha17⟩) HSF.out ?ra17
                    case ha17 => (intro W hW; (try dsimp only at hW); go_simp; try with_reducible rfl)
                    simp only [Act.put, List.getElem_toArray, List.getElem_cons_succ, List.getElem_cons_zero, List.setIfInBounds_toArray, List.set_cons_zero, List.set_cons_succ]
                    refine wpAnyH_take (i := 18) (v := ?va18) rfl (by kernel_rfl) (by kernel_rfl) (by kernel_rfl) (fun _ _ _ h => h) (Or.inl ⟨by rfl, ?ha18⟩) HSF.out ?ra18
                    case ha18 => (intro W hW; (try dsimp only at hW); go_simp; try with_reducible rfl)
                    simp only [Act.put, List.getElem_toArray, List.getElem_cons_succ, List.getElem_cons_zero, List.setIfInBounds_toArray, List.set_cons_zero, List.set_cons_succ]
                    refine wpAnyH_take (i := 19) (v := ?va19) rfl (by kernel_rfl) (by kernel_rfl) (by kernel_rfl) (fun _ _ _ h => h) (Or.inl ⟨by rfl, ?ha19⟩) HSF.out ?ra19
                    case ha19 => (intro W hW; (try dsimp only at hW); go_simp; try with_reducible rfl)
                    simp only [Act.put, List.getElem_toArray, List.getElem_cons_succ, List.getElem_cons_zero, List.setIfInBounds_toArray, List.set_cons_zero, List.set_cons_succ]
                    refine wpAnyH_take (i := 20) (v := ?va20) rfl (by kernel_rfl) (by kernel_rfl) (by kernel_rfl) (fun _ _ _ h => h) (Or.inl ⟨by rfl, ?ha20⟩) HSF.out ?ra20
                    case ha20 => (intro W hW; (try dsimp only at hW); go_simp; try with_reducible rfl)
                    simp only [Act.put, List.getElem_toArray, List.getElem_cons_succ, List.getElem_cons_zero, List.setIfInBounds_toArray, List.set_cons_zero, List.set_cons_succ]
                    refine wpAnyH_take (i := 21) (v := ?va21) rfl (by kernel_rfl) (by kernel_rfl) (by kernel_rfl) (fun _ _ _ h => h) (Or.inl ⟨by rfl, ?ha21⟩) HSF.out ?ra21
                    case ha21 => (intro W hW; (try dsimp only at hW); go_simp; try with_reducible rfl)
                    simp only [Act.put, List.getElem_toArray, List.getElem_cons_succ, List.getElem_cons_zero, List.setIfInBounds_toArray, List.set_cons_zero, List.set_cons_succ]
                    refine wpAnyH_take (i := 22) (v := ?va22) rfl (by kernel_rfl) (by kernel_rfl) (by kernel_rfl) (fun _ _ _ h => h) (Or.inl ⟨by rfl, ?ha22⟩) HSF.out ?ra22
                    case ha22 => (intro W hW; (try dsimp only at hW); go_simp; try with_reducible rfl)
                    simp only [Act.put, List.getElem_toArray, List.getElem_cons_succ, List.getElem_cons_zero, List.setIfInBounds_toArray, List.set_cons_zero, List.set_cons_succ]
                    refine wpAnyH_take (i := 23) (v := ?va23) rfl (by kernel_rfl) (by kernel_rfl) (by kernel_rfl) (fun _ _ _ h => h) (Or.inl ⟨by rfl, ?ha23⟩) HSF.out ?ra23
                    case ha23 => (intro W hW; (try dsimp only at hW); go_simp; try with_reducible rfl)
                    simp only [Act.put, List.getElem_toArray, List.getElem_cons_succ, List.getElem_cons_zero, List.setIfInBounds_toArray, List.set_cons_zero, List.set_cons_succ]
                    refine wpAnyH_take (i := 25) (v := ?va25) rfl (by kernel_rfl) (by kernel_rfl) (by kernel_rfl) (fun _ _ _ h => h) (Or.inl ⟨by rfl, ?ha25⟩) HSF.out ?ra25
                    case ha25 => (intro W hW; (try dsimp only at hW); go_simp; try with_reducible rfl)
                    simp only [Act.put, List.getElem_toArray, List.getElem_cons_succ, List.getElem_cons_zero, List.setIfInBounds_toArray, List.set_cons_zero, List.set_cons_succ]
                    refine wpAnyH_take (i := 26) (v := ?va26) rfl (by kernel_rfl) (by kernel_rfl) (by kernel_rfl) (fun _ _ _ h => h) (Or.inl ⟨by rfl, ?ha26⟩) HSF.out ?ra26
                    case ha26 => (intro W hW; (try dsimp only at hW); go_simp; try with_reducible rfl)
                    simp only [Act.put, List.getElem_toArray, List.getElem_cons_succ, List.getElem_cons_zero, List.setIfInBounds_toArray, List.set_cons_zero, List.set_cons_succ]
                    refine wpAnyH_take (i := 27) (v := ?va27) rfl (by kernel_rfl) (by kernel_rfl) (by kernel_rfl) (fun _ _ _ h => h) (Or.inl ⟨by rfl, ?ha27⟩) HSF.out ?ra27
                    case ha27 => (intro W hW; (try dsimp only at hW); go_simp; try with_reducible rfl)
                    simp only [Act.put, List.getElem_toArray, List.getElem_cons_succ, List.getElem_cons_zero, List.setIfInBounds_toArray, List.set_cons_zero, List.set_cons_succ]
                    refine wpAnyH_take (i := 28) (v := ?va28) rfl (by kernel_rfl) (by kernel_rfl) (by kernel_rfl) (fun _ _ _ h => h) (Or.inl ⟨by rfl, ?ha28⟩) HSF.out ?ra28
                    case ha28 => (intro W hW; (try dsimp only at hW); go_simp; try with_reducible rfl)
                    simp only [Act.put, List.getElem_toArray, List.getElem_cons_succ, List.getElem_cons_zero, List.setIfInBounds_toArray, List.set_cons_zero, List.set_cons_succ]
                    refine wpAnyH_take (i := 29) (v := ?va29) rfl (by kernel_rfl) (by kernel_rfl) (by kernel_rfl) (fun _ _ _ h => h) (Or.inl ⟨by rfl, ?ha29⟩) HSF.out ?ra29
                    case ha29 => (intro W hW; (try dsimp only at hW); go_simp; try with_reducible rfl)
                    simp only [Act.put, List.getElem_toArray, List.getElem_cons_succ, List.getElem_cons_zero, List.setIfInBounds_toArray, List.set_cons_zero, List.set_cons_succ]
                    refine wpAnyH_ready (rs := [24]) (by kernel_rfl) (by simp) ?_
                    refine AllReadyH.cons rfl (fun K hK => ?_) AllReadyH.nil
                    refine ready_call (f := 26) (vs := #[.pointer (some ⟨gt, 0, none⟩)]) (by rfl) (by (go_simp; try with_reducible rfl)) ?_
                    refine HLEN.out.mono ?_
                    rintro e _ ⟨rfl, rfl⟩
                    refine ⟨_, rfl, hK.out _ _ HSF.out (fun _ => ?_)⟩
                    clear hK K
                    simp only [Act.put, List.getElem_toArray, List.getElem_cons_succ, List.getElem_cons_zero, List.setIfInBounds_toArray, List.set_cons_zero, List.set_cons_succ]
                    refine wpAnyH_take (i := 30) (v := ?va30) rfl (by kernel_rfl) (by kernel_rfl) (by kernel_rfl) (fun _ _ _ h => h) (Or.inl ⟨by rfl, ?ha30⟩) HSF.out ?ra30
                    case ha30 => (intro W hW; (try dsimp only at hW); go_simp; try with_reducible rfl)
                    simp only [Act.put, List.getElem_toArray, List.getElem_cons_succ, List.getElem_cons_zero, List.setIfInBounds_toArray, List.set_cons_zero, List.set_cons_succ]
                    refine wpAnyH_take (i := 31) (v := ?va31) rfl (by kernel_rfl) (by kernel_rfl) (by kernel_rfl) (fun _ _ _ h => h) (Or.inl ⟨by rfl, ?ha31⟩) HSF.out ?ra31
                    case ha31 => (intro W hW; (try dsimp only at hW); go_simp; try with_reducible rfl)
                    simp only [Act.put, List.getElem_toArray, List.getElem_cons_succ, List.getElem_cons_zero, List.setIfInBounds_toArray, List.set_cons_zero, List.set_cons_succ]
                    refine wpAnyH_done (by kernel_rfl) ?_ _
                    go_wp2
                    go_meet
                    exact ⟨rfl, HD20⟩
                  · as_aux_lemma =>
                    have hE1 : ((E : Int) == 0) = false := by simp; omega
                    have hE2 : ((E : Int) != 0) = true := by simp; omega
                    have hP2 : ((ps : Int) != 0) = false := by rw [HPS.out.2 hE]; rfl
                    clear hE
                    refine wp_region_held_drew (S := fun W => W.cell? ⟨gl, 0, none⟩ = some (.pointer (some ⟨gt, 0, none⟩)) ∧ W.cell? ⟨gm, 4, none⟩ = some (.slice av pn cv)) (by kernel_rfl) ⟨c0, m4⟩ (fun _ => ?_)
                    obtain ⟨v20, hv20⟩ : ∃ v20, v20 = wc.drew := ⟨_, rfl⟩
                    have HSF : Hid (v20.cell? ⟨gl, 0, none⟩ = some (.pointer (some ⟨gt, 0, none⟩)) ∧ v20.cell? ⟨gm, 4, none⟩ = some (.slice av pn cv)) := Lib.hid (by rw [hv20]; exact ⟨c0, m4⟩)
                    have HD20 : Hid (Duos w3 v20 gl gp gt gm gq sR tR sR tR) := Lib.hid (by rw [hv20]; exact H10.out.later (Below.refl _ _).drew)
                    rw [← hv20] at HLEN ⊢
                    clear hv20 c0 m4
                    refine wpAnyH_take (i := 0) (v := ?vb0) rfl (by kernel_rfl) (by kernel_rfl) (by kernel_rfl) (fun _ _ _ h => h) (Or.inl ⟨by rfl, ?hb0⟩) HSF.out ?rb0
                    case hb0 => (intro W hW; (try dsimp only at hW); go_simp; try with_reducible rfl)
                    simp only [Act.put, List.getElem_toArray, List.getElem_cons_succ, List.getElem_cons_zero, List.setIfInBounds_toArray, List.set_cons_zero, List.set_cons_succ]
                    refine wpAnyH_take (i := 1) (v := ?vb1) rfl (by kernel_rfl) (by kernel_rfl) (by kernel_rfl) (fun _ _ _ h => h) (Or.inl ⟨by rfl, ?hb1⟩) HSF.out ?rb1
                    case hb1 => (intro W hW; (try dsimp only at hW); go_simp; try with_reducible rfl)
                    simp only [Act.put, List.getElem_toArray, List.getElem_cons_succ, List.getElem_cons_zero, List.setIfInBounds_toArray, List.set_cons_zero, List.set_cons_succ]
                    refine wpAnyH_take (i := 2) (v := ?vb2) rfl (by kernel_rfl) (by kernel_rfl) (by kernel_rfl) (fun _ _ _ h => h) (Or.inl ⟨by rfl, ?hb2⟩) HSF.out ?rb2
                    case hb2 => (intro W hW; (try dsimp only at hW); go_simp; try with_reducible rfl)
                    simp only [Act.put, List.getElem_toArray, List.getElem_cons_succ, List.getElem_cons_zero, List.setIfInBounds_toArray, List.set_cons_zero, List.set_cons_succ]
                    refine wpAnyH_take (i := 3) (v := ?vb3) rfl (by kernel_rfl) (by kernel_rfl) (by kernel_rfl) (fun _ _ _ h => h) (Or.inl ⟨by rfl, ?hb3⟩) HSF.out ?rb3
                    case hb3 => (intro W hW; (try dsimp only at hW); go_simp; try with_reducible rfl)
                    simp only [Act.put, List.getElem_toArray, List.getElem_cons_succ, List.getElem_cons_zero, List.setIfInBounds_toArray, List.set_cons_zero, List.set_cons_succ]
                    refine wpAnyH_take (i := 4) (v := ?vb4) rfl (by kernel_rfl) (by kernel_rfl) (by kernel_rfl) (fun _ _ _ h => h) (Or.inl ⟨by rfl, ?hb4⟩) HSF.out ?rb4
                    case hb4 => (intro W hW; (try dsimp only at hW); go_simp; try with_reducible rfl)
                    simp only [Act.put, List.getElem_toArray, List.getElem_cons_succ, List.getElem_cons_zero, List.setIfInBounds_toArray, List.set_cons_zero, List.set_cons_succ]
                    refine wpAnyH_take (i := 5) (v := ?vb5) rfl (by kernel_rfl) (by kernel_rfl) (by kernel_rfl) (fun _ _ _ h => h) (Or.inl ⟨by rfl, ?hb5⟩) HSF.out ?rb5
                    case hb5 => (intro W hW; (try dsimp only at hW); go_simp; try with_reducible rfl)
                    simp only [Act.put, List.getElem_toArray, List.getElem_cons_succ, List.getElem_cons_zero, List.setIfInBounds_toArray, List.set_cons_zero, List.set_cons_succ]
                    refine wpAnyH_take (i := 6) (v := ?vb6) rfl (by kernel_rfl) (by kernel_rfl) (by kernel_rfl) (fun _ _ _ h => h) (Or.inl ⟨by rfl, ?hb6⟩) HSF.out ?rb6
                    case hb6 => (intro W hW; (try dsimp only at hW); go_simp; try with_reducible rfl)
                    simp only [Act.put, List.getElem_toArray, List.getElem_cons_succ, List.getElem_cons_zero, List.setIfInBounds_toArray, List.set_cons_zero, List.set_cons_succ]
                    refine wpAnyH_take (i := 7) (v := undef) rfl (by kernel_rfl) (by kernel_rfl) (by kernel_rfl) (fun _ _ _ h => h) (Or.inr ⟨by rfl, rfl⟩) HSF.out ?rb7
                    simp only [Act.put, List.getElem_toArray, List.getElem_cons_succ, List.getElem_cons_zero, List.setIfInBounds_toArray, List.set_cons_zero, List.set_cons_succ]
                    refine wpAnyH_take (i := 8) (v := undef) rfl (by kernel_rfl) (by kernel_rfl) (by kernel_rfl) (fun _ _ _ h => h) (Or.inr ⟨by rfl, rfl⟩) HSF.out ?rb8
                    simp only [Act.put, List.getElem_toArray, List.getElem_cons_succ, List.getElem_cons_zero, List.setIfInBounds_toArray, List.set_cons_zero, List.set_cons_succ]
                    refine wpAnyH_take (i := 9) (v := ?vb9) rfl (by kernel_rfl) (by kernel_rfl) (by kernel_rfl) (fun _ _ _ h => h) (Or.inl ⟨by rfl, ?hb9⟩) HSF.out ?rb9
                    case hb9 => (intro W hW; (try dsimp only at hW); go_simp; try with_reducible rfl)
                    simp only [Act.put, List.getElem_toArray, List.getElem_cons_succ, List.getElem_cons_zero, List.setIfInBounds_toArray, List.set_cons_zero, List.set_cons_succ]
                    refine wpAnyH_take (i := 10) (v := ?vb10) rfl (by kernel_rfl) (by kernel_rfl) (by kernel_rfl) (fun _ _ _ h => h) (Or.inl ⟨by rfl, ?hb10⟩) HSF.out ?rb10
                    case hb10 => (intro W hW; (try dsimp only at hW); go_simp; try with_reducible rfl)
                    simp only [Act.put, List.getElem_toArray, List.getElem_cons_succ, List.getElem_cons_zero, List.setIfInBounds_toArray, List.set_cons_zero, List.set_cons_succ]
                    refine wpAnyH_take (i := 11) (v := ?vb11) rfl (by kernel_rfl) (by kernel_rfl) (by kernel_rfl) (fun _ _ _ h => h) (Or.inl ⟨by rfl, ?hb11⟩) HSF.out ?rb11
                    case hb11 => (intro W hW; (try dsimp only at hW); go_simp; try with_reducible rfl)
                    simp only [Act.put, List.getElem_toArray, List.getElem_cons_succ, List.getElem_cons_zero, List.setIfInBounds_toArray, List.set_cons_zero, List.set_cons_succ]
                    refine wpAnyH_take (i := 12) (v := ?vb12) rfl (by kernel_rfl) (by kernel_rfl) (by kernel_rfl) (fun _ _ _ h => h) (Or.inl ⟨by rfl, ?hb12⟩) HSF.out ?rb12
                    case hb12 => (intro W hW; (try dsimp only at hW); go_simp; try with_reducible rfl)
                    simp only [Act.put, List.getElem_toArray, List.getElem_cons_succ, List.getElem_cons_zero, List.setIfInBounds_toArray, List.set_cons_zero, List.set_cons_succ]
                    refine wpAnyH_take (i := 13) (v := ?vb13) rfl (by kernel_rfl) (by kernel_rfl) (by kernel_rfl) (fun _ _ _ h => h) (Or.inl ⟨by rfl, ?hb13⟩) HSF.out ?rb13
                    case hb13 => (intro W hW; (try dsimp only at hW); go_simp; try with_reducible rfl)
                    simp only [Act.put, List.getElem_toArray, List.getElem_cons_succ, List.getElem_cons_zero, List.setIfInBounds_toArray, List.set_cons_zero, List.set_cons_succ]
                    refine wpAnyH_take (i := 14) (v := ?vb14) rfl (by kernel_rfl) (by kernel_rfl) (by kernel_rfl) (fun _ _ _ h => h) (Or.inl ⟨by rfl, ?hb14⟩) HSF.out ?rb14
                    case hb14 => (intro W hW; (try dsimp only at hW); go_simp; try with_reducible rfl)
                    simp only [Act.put, List.getElem_toArray, List.getElem_cons_succ, List.getElem_cons_zero, List.setIfInBounds_toArray, List.set_cons_zero, List.set_cons_succ]
                    refine wpAnyH_take (i := 15) (v := ?vb15) rfl (by kernel_rfl) (by kernel_rfl) (by kernel_rfl) (fun _ _ _ h => h) (Or.inl ⟨by rfl, ?hb15⟩) HSF.out ?rb15
                    case hb15 => (intro W hW; (try dsimp only at hW); go_simp; try with_reducible rfl)
                    simp only [Act.put, List.getElem_toArray, List.getElem_cons_succ, List.getElem_cons_zero, List.setIfInBounds_toArray, List.set_cons_zero, List.set_cons_succ]
                    refine wpAnyH_take (i := 16) (v := ?vb16) rfl (by kernel_rfl) (by kernel_rfl) (by kernel_rfl) (fun _ _ _ h => h) (Or.inl ⟨by rfl, ?hb16⟩) HSF.out ?rb16
                    case hb16 => (intro W hW; (try dsimp only at hW); go_simp; try with_reducible rfl)
                    simp only [Act.put, List.getElem_toArray, List.getElem_cons_succ, List.getElem_cons_zero, List.setIfInBounds_toArray, List.set_cons_zero, List.set_cons_succ]
                    refine wpAnyH_take (i := 17) (v := ?vb17) rfl (by kernel_rfl) (by kernel_rfl) (by kernel_rfl) (fun _ _ _ h => h) (Or.inl ⟨by rfl, ?hb17⟩) HSF.out ?rb17
                    case hb17 => (intro W hW; (try dsimp only at hW); go_simp; try with_reducible rfl)
                    simp only [Act.put, List.getElem_toArray, List.getElem_cons_succ, List.getElem_cons_zero, List.setIfInBounds_toArray, List.set_cons_zero, List.set_cons_succ]
                    refine wpAnyH_take (i := 18) (v := ?vb18) rfl (by kernel_rfl) (by kernel_rfl) (by kernel_rfl) (fun _ _ _ h => h) (Or.inl ⟨by rfl, ?hb18⟩) HSF.out ?rb18
                    case hb18 => (intro W hW; (try dsimp only at hW); go_simp; try with_reducible rfl)
                    simp only [Act.put, List.getElem_toArray, List.getElem_cons_succ, List.getElem_cons_zero, List.setIfInBounds_toArray, List.set_cons_zero, List.set_cons_succ]
                    refine wpAnyH_take (i := 19) (v := ?vb19) rfl (by kernel_rfl) (by kernel_rfl) (by kernel_rfl) (fun _ _ _ h => h) (Or.inl ⟨by rfl, ?hb19⟩) HSF.out ?rb19
                    case hb19 => (intro W hW; (try dsimp only at hW); go_simp; try with_reducible rfl)
                    simp only [Act.put, List.getElem_toArray, List.getElem_cons_succ, List.getElem_cons_zero, List.setIfInBounds_toArray, List.set_cons_zero, List.set_cons_succ]
                    refine wpAnyH_take (i := 20) (v := ?vb20) rfl (by kernel_rfl) (by kernel_rfl) (by kernel_rfl) (fun _ _ _ h => h) (Or.inl ⟨by rfl, ?hb20⟩) HSF.out ?rb20
                    case hb20 => (intro W hW; (try dsimp only at hW); go_simp; try with_reducible rfl)
                    simp only [Act.put, List.getElem_toArray, List.getElem_cons_succ, List.getElem_cons_zero, List.setIfInBounds_toArray, List.set_cons_zero, List.set_cons_succ]
                    refine wpAnyH_take (i := 21) (v := ?vb21) rfl (by kernel_rfl) (by kernel_rfl) (by kernel_rfl) (fun _ _ _ h => h) (Or.inl ⟨by rfl, ?hb21⟩) HSF.out ?rb21
                    case hb21 => (intro W hW; (try dsimp only at hW); go_simp; try with_reducible rfl)
                    simp only [Act.put, List.getElem_toArray, List.getElem_cons_succ, List.getElem_cons_zero, List.setIfInBounds_toArray, List.set_cons_zero, List.set_cons_succ]
                    refine wpAnyH_take (i := 22) (v := ?vb22) rfl (by kernel_rfl) (by kernel_rfl) (by kernel_rfl) (fun _ _ _ h => h) (Or.inl ⟨by rfl, ?hb22⟩) HSF.out ?rb22
                    case hb22 => (intro W hW; (try dsimp only at hW); go_simp; try with_reducible rfl)
                    simp only [Act.put, List.getElem_toArray, List.getElem_cons_succ, List.getElem_cons_zero, List.setIfInBounds_toArray, List.set_cons_zero, List.set_cons_succ]
                    refine wpAnyH_take (i := 23) (v := ?vb23) rfl (by kernel_rfl) (by kernel_rfl) (by kernel_rfl) (fun _ _ _ h => h) (Or.inl ⟨by rfl, ?hb23⟩) HSF.out ?rb23
                    case hb23 => (intro W hW; (try dsimp only at hW); go_simp; try with_reducible rfl)
                    simp only [Act.put, List.getElem_toArray, List.getElem_cons_succ, List.getElem_cons_zero, List.setIfInBounds_toArray, List.set_cons_zero, List.set_cons_succ]
                    refine wpAnyH_take (i := 25) (v := ?vb25) rfl (by kernel_rfl) (by kernel_rfl) (by kernel_rfl) (fun _ _ _ h => h) (Or.inl ⟨by rfl, ?hb25⟩) HSF.out ?rb25
                    case hb25 => (intro W hW; (try dsimp only at hW); go_simp; try with_reducible rfl)
                    simp only [Act.put, List.getElem_toArray, List.getElem_cons_succ, List.getElem_cons_zero, List.setIfInBounds_toArray, List.set_cons_zero, List.set_cons_succ]
                    refine wpAnyH_take (i := 26) (v := ?vb26) rfl (by kernel_rfl) (by kernel_rfl) (by kernel_rfl) (fun _ _ _ h => h) (Or.inl ⟨by rfl, ?hb26⟩) HSF.out ?rb26
                    case hb26 => (intro W hW; (try dsimp only at hW); go_simp; try with_reducible rfl)
                    simp only [Act.put, List.getElem_toArray, List.getElem_cons_succ, List.getElem_cons_zero, List.setIfInBounds_toArray, List.set_cons_zero, List.set_cons_succ]
                    refine wpAnyH_take (i := 27) (v := ?vb27) rfl (by kernel_rfl) (by kernel_rfl) (by kernel_rfl) (fun _ _ _ h => h) (Or.inl ⟨by rfl, ?hb27⟩) HSF.out ?rb27
                    case hb27 => (intro W hW; (try dsimp only at hW); go_simp; try with_reducible rfl)
                    simp only [Act.put, List.getElem_toArray, List.getElem_cons_succ, List.getElem_cons_zero, List.setIfInBounds_toArray, List.set_cons_zero, List.set_cons_succ]
                    refine wpAnyH_take (i := 28) (v := ?vb28) rfl (by kernel_rfl) (by kernel_rfl) (by kernel_rfl) (fun _ _ _ h => h) (Or.inl ⟨by rfl, ?hb28⟩) HSF.out ?rb28
                    case hb28 => (intro W hW; (try dsimp only at hW); go_simp; try with_reducible rfl)
                    simp only [Act.put, List.getElem_toArray, List.getElem_cons_succ, List.getElem_cons_zero, List.setIfInBounds_toArray, List.set_cons_zero, List.set_cons_succ]
                    refine wpAnyH_take (i := 29) (v := ?vb29) rfl (by kernel_rfl) (by kernel_rfl) (by kernel_rfl) (fun _ _ _ h => h) (Or.inl ⟨by rfl, ?hb29⟩) HSF.out ?rb29
                    case hb29 => (intro W hW; (try dsimp only at hW); go_simp; try with_reducible rfl)
                    simp only [Act.put, List.getElem_toArray, List.getElem_cons_succ, List.getElem_cons_zero, List.setIfInBounds_toArray, List.set_cons_zero, List.set_cons_succ]
                    refine wpAnyH_ready (rs := [24]) (by kernel_rfl) (by simp) ?_
                    refine AllReadyH.cons rfl (fun K hK => ?_) AllReadyH.nil
                    refine ready_call (f := 26) (vs := #[.pointer (some ⟨gt, 0, none⟩)]) (by rfl) (by (go_simp; try with_reducible rfl)) ?_
                    refine HLEN.out.mono ?_
                    rintro e _ ⟨rfl, rfl⟩
                    refine ⟨_, rfl, hK.out _ _ HSF.out (fun _ => ?_)⟩
                    clear hK K
                    simp only [Act.put, List.getElem_toArray, List.getElem_cons_succ, List.getElem_cons_zero, List.setIfInBounds_toArray, List.set_cons_zero, List.set_cons_succ]
                    refine wpAnyH_take (i := 30) (v := ?vb30) rfl (by kernel_rfl) (by kernel_rfl) (by kernel_rfl) (fun _ _ _ h => h) (Or.inl ⟨by rfl, ?hb30⟩) HSF.out ?rb30
                    case hb30 => (intro W hW; (try dsimp only at hW); go_simp; try with_reducible rfl)
                    simp only [Act.put, List.getElem_toArray, List.getElem_cons_succ, List.getElem_cons_zero, List.setIfInBounds_toArray, List.set_cons_zero, List.set_cons_succ]
                    refine wpAnyH_take (i := 31) (v := ?vb31) rfl (by kernel_rfl) (by kernel_rfl) (by kernel_rfl) (fun _ _ _ h => h) (Or.inl ⟨by rfl, ?hb31⟩) HSF.out ?rb31
                    case hb31 => (intro W hW; (try dsimp only at hW); go_simp; try with_reducible rfl)
                    simp only [Act.put, List.getElem_toArray, List.getElem_cons_succ, List.getElem_cons_zero, List.setIfInBounds_toArray, List.set_cons_zero, List.set_cons_succ]
                    refine wpAnyH_done (by kernel_rfl) ?_ _
                    go_wp2
                    go_meet
                    exact ⟨rfl, HD20⟩
                case rest => as_aux_lemma =>
                  obtain ⟨rfl, H11⟩ := hcut
                  clear H10 HPS
                  have c0 := H11.out.drive
                  have c1 := H11.out.supply
                  have HUP : Hid (Calls Try.prog 22 #[.pointer (some ⟨gp, 0, none⟩)] wc fun e W' => e = .returned (.tuple #[]) ∧ Hid (Duos w3 W' gl gp gt gm gq sR.up tR sR tR)) := Lib.hid (H11.out.up.mono fun e W' ⟨h1, h2⟩ => ⟨h1, Lib.hid h2⟩)
                  go_wp2_with fail
                  refine HUP.out.mono ?_
                  rintro e u12 ⟨rfl, H12⟩
                  clear c0 c1 HUP H11
                  obtain ⟨tt, hq, hpt⟩ := H12.out.mp
                  obtain ⟨d0, d1, d2⟩ := mpcells hq
                  have df := mpsoft hq
                  obtain ⟨sm, hsm⟩ : ∃ sm : Pw, sm = ⟨true, sR.plan, sR.count⟩ := ⟨_, rfl⟩
                  have H13 : Hid (Duos w3 (u12.setCell ⟨gq, 0, none⟩ (.bool true)) gl gp gt gm gq sR.up tR sm tR) := Lib.hid (H12.out.mpower (Save.set _ _ _ _) ⟨tt, by rw [mplay0 hq, hsm]; exact put_same hq, by rw [hsm]; exact hpt⟩)
                  have HON : Hid (sm.on = true) := Lib.hid (by rw [hsm])
                  clear hsm hq hpt
                  go_upto_region 31 with fail
                  obtain ⟨u13, hu13⟩ : ∃ u13, u13 = u12.setCell ⟨gq, 0, none⟩ (.bool true) := ⟨_, rfl⟩
                  rw [← hu13] at H13 ⊢
                  clear hu13 d0 d1 d2 df H12
                  have hget := lget_any H13.out rfl (by have := HRMM.out.1; omega)
                  obtain ⟨D, hD⟩ : ∃ D, D = Tst.get sm tR.rewound := ⟨_, rfl⟩
                  have HD := Lib.hid hD
                  have HG0 : Hid (labGet sR.up tR.rewound = if D.2.2 = 0 then rdLab D.2.1 else (lab0, D.2.2)) := Lib.hid (by rw [hD, ← get_on (s := sR.up) tR.rewound rfl HON.out]; rfl)
                  obtain ⟨GL, hGL⟩ : ∃ GL, GL = labGet sR.up tR.rewound := ⟨_, rfl⟩
                  rw [← hGL] at hget HG0
                  clear hD hGL
                  obtain ⟨⟨pl, g2, m2⟩, er⟩ := GL
                  simp only [lbV] at hget
                  obtain ⟨s2, hs2⟩ : ∃ s2, s2 = strB pl := ⟨_, rfl⟩
                  rw [← hs2] at hget
                  have HS2 := Lib.hid hs2
                  have HGET := Lib.hid hget
                  clear hget hs2
                  go_wp2_with fail
                  refine HGET.out.mono ?_
                  rintro e u14 ⟨rfl, H14⟩
                  obtain ⟨u15, hu15⟩ : ∃ u15, u15 = u14.alloc (.cells #[.string s2, .int .i64 g2, .int .i64 m2] 23) := ⟨_, rfl⟩
                  obtain ⟨gz, hgz⟩ : ∃ gz, gz = u14.heap.size := ⟨_, rfl⟩
                  have HW15 : Hid (u14.alloc (.cells #[.string s2, .int .i64 g2, .int .i64 m2] 23) = u15 ∧ u14.heap.size = gz) := Lib.hid ⟨hu15.symm, hgz.symm⟩
                  have hb15 : Below u14.heap.size u14 u15 := by rw [hu15]; exact Below.alloc0 _ _
                  have hz15 : u15.heap[gz]? = some (.cells #[.string s2, .int .i64 g2, .int .i64 m2] 23 (0, 0)) := by rw [hu15, hgz]; exact heap_alloc_new u14 _
                  have H15 := H14.out.later hb15
                  obtain ⟨_, m5, mf⟩ := H15.mcells
                  have hgmz : gz ≠ gm := by have := H14.out.gmlt.1; omega
                  have HR16 := Lib.hid H15.rewind
                  have HZ16 : Hid ((u15.setCell ⟨gm, 5, none⟩ (.int .i64 0)).heap[gz]? = some (.cells #[.string s2, .int .i64 g2, .int .i64 m2] 23 (0, 0))) := Lib.hid (((Save.set u15 gm 5 (.int .i64 0)).block gz (lt_of_block hz15) (by simpa using hgmz)).trans hz15)
                  have HGMZ := Lib.hid hgmz
                  clear HGET H13 hu15 hgz hb15 hz15 H15 hgmz
                  go_upto_region 32 with fail
                  change Code.wp _ _ _ _ (u14.alloc (.cells #[.string s2, .int .i64 g2, .int .i64 m2] 23))
                  rw [HW15.out.1]
                  try rw [HW15.out.2]
                  go_upto_region 33 with fail
                  obtain ⟨u16, hu16⟩ : ∃ u16, u16 = u15.setCell ⟨gm, 5, none⟩ (.int .i64 0) := ⟨_, rfl⟩
                  rw [← hu16] at HR16 HZ16 ⊢
                  clear hu16 m5 mf H14 HW15
                  have HMG : Hid (Calls Try.prog 28 #[.pointer (some ⟨gm, 0, none⟩), .pointer (some ⟨gq, 0, none⟩)] u16 fun e W' => ∃ a n c, e = .returned (.tuple #[.slice a n c, .int .i64 (D.2.2 : Int)]) ∧ Hid (n ≤ c ∧ n ≤ 1000000 ∧ Rd W' a n D.2.1 ∧ Below w3.heap.size w3 W' ∧ W'.heap[gz]? = some (.cells #[.string s2, .int .i64 g2, .int .i64 m2] 23 (0, 0)))) := by
                    refine Lib.hid ((HR16.out.mget (by have := HRMM.out.2; show tR.nr.length ≤ _; omega)).mono ?_)
                    rintro e W' ⟨a', n', c', rfl, h1, h2, h3, h4, h5⟩
                    have h6 : n' ≤ tR.room := h2
                    have h7 := HRMM.out.1
                    exact ⟨a', n', c', by rw [HD.out], Lib.hid ⟨h1, by omega, by rw [HD.out]; exact h3, h4.bel, (h5.block gz (lt_of_block HZ16.out) (by simpa using HGMZ.out)).trans HZ16.out⟩⟩
                  go_wp2_with fail
                  refine HMG.out.mono ?_
                  rintro e u17 ⟨aD, nD, cD, rfl, H17⟩
                  clear HMG HR16 HZ16
                  obtain ⟨tD, BD, ED⟩ := D
                  simp only at HG0 H17
                  by_cases hED : ED = 0
                  · as_aux_lemma =>
                    subst hED
                    have hGG : (⟨⟨pl, g2, m2⟩, er⟩ : Lab × Nat) = rdLab BD := by have := HG0.out; simpa using this
                    have hrr := refRead_any aD nD cD BD u17 H17.out.2.2.1 H17.out.2.1 H17.out.1
                    rw [← hGG] at hrr
                    simp only [lbV, ← HS2.out] at hrr
                    have HRR := Lib.hid hrr
                    have hEz : (((0 : Nat) : Int) != 0) = false := rfl
                    clear hGG hrr HG0
                    go_wp2_with fail
                    refine HRR.out.mono ?_
                    rintro e u18 ⟨rfl, hb18⟩
                    obtain ⟨u19, hu19⟩ : ∃ u19, u19 = u18.alloc (.cells #[.string s2, .int .i64 g2, .int .i64 m2] 30) := ⟨_, rfl⟩
                    obtain ⟨gv, hgv⟩ : ∃ gv, gv = u18.heap.size := ⟨_, rfl⟩
                    have HW19 : Hid (u18.alloc (.cells #[.string s2, .int .i64 g2, .int .i64 m2] 30) = u19 ∧ u18.heap.size = gv) := Lib.hid ⟨hu19.symm, hgv.symm⟩
                    have hb89 : Below u18.heap.size u18 u19 := by rw [hu19]; exact Below.alloc0 _ _
                    have hb79 : Below u17.heap.size u17 u19 := hb18.trans (hb89.mono hb18.size)
                    have HQ8 : Hid (u19.heap[gv]? = some (.cells #[.string s2, .int .i64 g2, .int .i64 m2] 30 (0, 0))) := Lib.hid (by rw [hu19, hgv]; exact heap_alloc_new u18 _)
                    have HQ5 : Hid (u19.heap[gz]? = some (.cells #[.string s2, .int .i64 g2, .int .i64 m2] 23 (0, 0))) := Lib.hid ((hb79.block gz (lt_of_block H17.out.2.2.2.2)).trans H17.out.2.2.2.2)
                    have HB19 : Hid (Below w3.heap.size w3 u19) := Lib.hid (H17.out.2.2.2.1.trans (hb79.mono H17.out.2.2.2.1.size))
                    clear hu19 hgv hb89 hb79 hb18 HRR H17
                    have HK : Hid (∀ W, Below u19.heap.size u19 W → W.cell? ⟨gz, 0, none⟩ = some (.string s2) ∧ W.cell? ⟨gz, 1, none⟩ = some (.int .i64 g2) ∧ W.cell? ⟨gz, 2, none⟩ = some (.int .i64 m2) ∧ W.cell? ⟨gv, 0, none⟩ = some (.string s2) ∧ W.cell? ⟨gv, 1, none⟩ = some (.int .i64 g2) ∧ W.cell? ⟨gv, 2, none⟩ = some (.int .i64 m2)) := by
                      refine Lib.hid fun W hW => ?_
                      have h1 := lab_cells ((hW.block gz (lt_of_block HQ5.out)).trans HQ5.out)
                      have h2 := lab_cells ((hW.block gv (lt_of_block HQ8.out)).trans HQ8.out)
                      exact ⟨h1.1, h1.2.1, h1.2.2, h2.1, h2.2.1, h2.2.2⟩
                    have HOF2 : Hid (∀ W, Below u19.heap.size u19 W → Calls Try.prog 10 #[.agg #[.string s2, .int .i64 g2, .int .i64 m2]] W fun e w' => e = .returned (.agg #[.string s2, .int .i64 g2, .int .i64 m2]) ∧ Hid (Below u19.heap.size u19 w')) := by
                      refine Lib.hid fun W hW => ?_
                      have ho := of_any ⟨pl, g2, m2⟩ W
                      simp only [lbV, ← HS2.out] at ho
                      refine ho.mono ?_
                      rintro e w' ⟨rfl, hb⟩
                      exact ⟨rfl, Lib.hid (hW.trans (hb.mono hW.size))⟩
                    go_upto_region 37 with fail
                    change Code.wp _ _ _ _ (u18.alloc (.cells #[.string s2, .int .i64 g2, .int .i64 m2] 30))
                    rw [HW19.out.1]
                    try rw [HW19.out.2]
                    have H : Hid (Below u19.heap.size u19 u19.drew) := Lib.hid (Below.refl _ _).drew
                    refine wp_region_held_drew (S := fun W => W.cell? ⟨gz, 0, none⟩ = some (.string s2) ∧ W.cell? ⟨gz, 1, none⟩ = some (.int .i64 g2) ∧ W.cell? ⟨gz, 2, none⟩ = some (.int .i64 m2) ∧ W.cell? ⟨gv, 0, none⟩ = some (.string s2) ∧ W.cell? ⟨gv, 1, none⟩ = some (.int .i64 g2) ∧ W.cell? ⟨gv, 2, none⟩ = some (.int .i64 m2)) (by kernel_rfl) (HK.out _ H.out) (fun _ => ?_)
                    obtain ⟨u20, hu20⟩ : ∃ u20, u20 = u19.drew := ⟨_, rfl⟩
                    rw [← hu20] at H ⊢
                    clear hu20
                    refine wpAnyH_take (i := 0) (v := ?vr0) rfl (by kernel_rfl) (by kernel_rfl) (by kernel_rfl) (fun _ _ _ h => h) (Or.inl ⟨by rfl, ?hr0⟩) (HK.out _ H.out) ?rr0
                    case hr0 => (intro W hW; (try dsimp only at hW); go_simp; try with_reducible rfl)
                    simp only [Act.put, List.getElem_toArray, List.getElem_cons_succ, List.getElem_cons_zero, List.setIfInBounds_toArray, List.set_cons_zero, List.set_cons_succ]
                    refine wpAnyH_take (i := 1) (v := ?vr1) rfl (by kernel_rfl) (by kernel_rfl) (by kernel_rfl) (fun _ _ _ h => h) (Or.inl ⟨by rfl, ?hr1⟩) (HK.out _ H.out) ?rr1
                    case hr1 => (intro W hW; (try dsimp only at hW); go_simp; try with_reducible rfl)
                    simp only [Act.put, List.getElem_toArray, List.getElem_cons_succ, List.getElem_cons_zero, List.setIfInBounds_toArray, List.set_cons_zero, List.set_cons_succ]
                    refine wpAnyH_take (i := 2) (v := ?vr2) rfl (by kernel_rfl) (by kernel_rfl) (by kernel_rfl) (fun _ _ _ h => h) (Or.inl ⟨by rfl, ?hr2⟩) (HK.out _ H.out) ?rr2
                    case hr2 => (intro W hW; (try dsimp only at hW); go_simp; try with_reducible rfl)
                    simp only [Act.put, List.getElem_toArray, List.getElem_cons_succ, List.getElem_cons_zero, List.setIfInBounds_toArray, List.set_cons_zero, List.set_cons_succ]
                    refine wpAnyH_take (i := 3) (v := ?vr3) rfl (by kernel_rfl) (by kernel_rfl) (by kernel_rfl) (fun _ _ _ h => h) (Or.inl ⟨by rfl, ?hr3⟩) (HK.out _ H.out) ?rr3
                    case hr3 => (intro W hW; (try dsimp only at hW); go_simp; try with_reducible rfl)
                    simp only [Act.put, List.getElem_toArray, List.getElem_cons_succ, List.getElem_cons_zero, List.setIfInBounds_toArray, List.set_cons_zero, List.set_cons_succ]
                    refine wpAnyH_take (i := 4) (v := ?vr4) rfl (by kernel_rfl) (by kernel_rfl) (by kernel_rfl) (fun _ _ _ h => h) (Or.inl ⟨by rfl, ?hr4⟩) (HK.out _ H.out) ?rr4
                    case hr4 => (intro W hW; (try dsimp only at hW); go_simp; try with_reducible rfl)
                    simp only [Act.put, List.getElem_toArray, List.getElem_cons_succ, List.getElem_cons_zero, List.setIfInBounds_toArray, List.set_cons_zero, List.set_cons_succ]
                    refine wpAnyH_take (i := 6) (v := ?vr6) rfl (by kernel_rfl) (by kernel_rfl) (by kernel_rfl) (fun _ _ _ h => h) (Or.inl ⟨by rfl, ?hr6⟩) (HK.out _ H.out) ?rr6
                    case hr6 => (intro W hW; (try dsimp only at hW); go_simp; try with_reducible rfl)
                    simp only [Act.put, List.getElem_toArray, List.getElem_cons_succ, List.getElem_cons_zero, List.setIfInBounds_toArray, List.set_cons_zero, List.set_cons_succ]
                    refine wpAnyH_ready (rs := [5]) (by kernel_rfl) (by simp) ?_
                    refine AllReadyH.cons rfl (fun K hK => ?_) AllReadyH.nil
                    refine ready_call (f := 10) (vs := #[.agg #[.string s2, .int .i64 g2, .int .i64 m2]]) (by rfl) (by (go_simp; try with_reducible rfl)) ?_
                    refine (HOF2.out _ H.out).mono ?_
                    rintro e u21 ⟨rfl, H7⟩
                    refine ⟨_, rfl, hK.out _ _ (HK.out _ H7.out) (fun _ => ?_)⟩
                    clear hK K
                    simp only [Act.put, List.getElem_toArray, List.getElem_cons_succ, List.getElem_cons_zero, List.setIfInBounds_toArray, List.set_cons_zero, List.set_cons_succ]
                    refine wpAnyH_take (i := 7) (v := ?vr7) rfl (by kernel_rfl) (by kernel_rfl) (by kernel_rfl) (fun _ _ _ h => h) (Or.inl ⟨by rfl, ?hr7⟩) (HK.out _ H7.out) ?rr7
                    case hr7 => (intro W hW; (try dsimp only at hW); go_simp; try with_reducible rfl)
                    simp only [Act.put, List.getElem_toArray, List.getElem_cons_succ, List.getElem_cons_zero, List.setIfInBounds_toArray, List.set_cons_zero, List.set_cons_succ]
                    refine wpAnyH_take (i := 8) (v := ?vr8) rfl (by kernel_rfl) (by kernel_rfl) (by kernel_rfl) (fun _ _ _ h => h) (Or.inl ⟨by rfl, ?hr8⟩) (HK.out _ H7.out) ?rr8
                    case hr8 => (intro W hW; (try dsimp only at hW); go_simp; try with_reducible rfl)
                    simp only [Act.put, List.getElem_toArray, List.getElem_cons_succ, List.getElem_cons_zero, List.setIfInBounds_toArray, List.set_cons_zero, List.set_cons_succ]
                    refine wpAnyH_take (i := 9) (v := ?vr9) rfl (by kernel_rfl) (by kernel_rfl) (by kernel_rfl) (fun _ _ _ h => h) (Or.inl ⟨by rfl, ?hr9⟩) (HK.out _ H7.out) ?rr9
                    case hr9 => (intro W hW; (try dsimp only at hW); go_simp; try with_reducible rfl)
                    simp only [Act.put, List.getElem_toArray, List.getElem_cons_succ, List.getElem_cons_zero, List.setIfInBounds_toArray, List.set_cons_zero, List.set_cons_succ]
                    refine wpAnyH_done (by kernel_rfl) ?_ _
                    go_wp2
                    go_ret
                    exact ⟨rfl, HBEL.out _ (HB19.out.trans (H7.out.mono HB19.out.size))⟩
                  · as_aux_lemma =>
                    have hE3 : ((ED : Int) != 0) = true := by simp; omega
                    have hEE : ((ED : Int) == (ED : Int)) = true := by simp
                    have hGG : (⟨⟨pl, g2, m2⟩, er⟩ : Lab × Nat) = (lab0, ED) := by have := HG0.out; simpa [hED] using this
                    simp only [lab0, Prod.mk.injEq, Lab.mk.injEq] at hGG
                    obtain ⟨⟨rfl, rfl, rfl⟩, rfl⟩ := hGG
                    have hs0 : s2 = ⟨#[]⟩ := HS2.out
                    subst hs0
                    obtain ⟨z0, z1, z2⟩ := lab_cells H17.out.2.2.2.2
                    clear hED HG0
                    go_wp2
                    go_ret
                    exact ⟨rfl, HBEL.out _ H17.out.2.2.2.1⟩

            · as_aux_lemma =>
              have HPUT : Hid (Calls Try.prog 24 #[.pointer (some ⟨gl, 0, none⟩), .int .i64 z, .agg #[.string s, .int .i64 g, .int .i64 m]] wc fun e W' => e = .returned (.tuple #[.int .i64 0, .int .i64 1]) ∧ Hid (Below w3.heap.size w3 W')) := by
                have h1 := lput_slot HD1.out z hz x HLIVE.out.1 (by have := HLIVE.out.2; omega) hok
                rw [HLAB.out] at h1
                exact Lib.hid (h1.mono fun e W' ⟨h1, h2⟩ => ⟨h1, Lib.hid h2.out.1.bel⟩)
              have hzb : (z != 0) = true := by simpa using hz
              rw [hok] at HRI
              clear hz hok
              go_wp2_with fail
              refine HPUT.out.mono ?_
              rintro e u3 ⟨rfl, H3⟩
              clear k0 y0 y1 y2 HPUT
              obtain ⟨y0, y1, y2⟩ := HKY.out u3 H3.out
              go_wp2_with fail
              refine (HOF.out u3).mono ?_
              rintro e u4 ⟨rfl, hb4⟩
              have H4 : Hid (Below w3.heap.size w3 u4) := Lib.hid (H3.out.trans (hb4.out.mono H3.out.size))
              go_wp2_with fail
              refine (HRI.out u4).mono ?_
              rintro e u5 ⟨rfl, hb5⟩
              have H5 : Hid (Below w3.heap.size w3 u5) := Lib.hid (H4.out.trans (hb5.out.mono H4.out.size))
              obtain ⟨k0, k4, k5⟩ := HKS.out u5 H5.out
              clear y0 y1 y2 k4 k5
              go_wp2
              go_ret
              exact ⟨rfl, HBEL.out _ H5.out⟩
          · as_aux_lemma =>
            have hok' : x.ok = false := by simpa using hok
            have HPUT : Hid (Calls Try.prog 24 #[.pointer (some ⟨gl, 0, none⟩), .int .i64 z, .agg #[.string s, .int .i64 g, .int .i64 m]] wc fun e W' => e = .returned (.tuple #[.int .i64 0, .int .i64 1]) ∧ Hid (Below w3.heap.size w3 W')) := by
              have h1 := lput_no HD1.out z x HLIVE.out.1 (by have := HLIVE.out.2; omega) hok'
              rw [HLAB.out] at h1
              exact Lib.hid (h1.mono fun e W' ⟨h1, h2⟩ => ⟨h1, Lib.hid h2.out.1.bel⟩)
            rw [hok'] at HRI
            clear hok hok'
            go_wp2_with fail
            refine HPUT.out.mono ?_
            rintro e u3 ⟨rfl, H3⟩
            clear k0 y0 y1 y2 HPUT
            obtain ⟨y0, y1, y2⟩ := HKY.out u3 H3.out
            go_wp2_with fail
            refine (HOF.out u3).mono ?_
            rintro e u4 ⟨rfl, hb4⟩
            have H4 : Hid (Below w3.heap.size w3 u4) := Lib.hid (H3.out.trans (hb4.out.mono H3.out.size))
            go_wp2_with fail
            refine (HRI.out u4).mono ?_
            rintro e u5 ⟨rfl, hb5⟩
            have H5 : Hid (Below w3.heap.size w3 u5) := Lib.hid (H4.out.trans (hb5.out.mono H4.out.size))
            clear y0 y1 y2
            go_wp2
            go_ret
            exact ⟨rfl, HBEL.out _ H5.out⟩

end Go.Proofs.Ytcmbnijjkpfhlaa
