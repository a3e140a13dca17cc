/- TapeActs, run: any calls, one behind the other. -/
import Derived.Test.YtpkfpdklolkgeaaTActsIn
namespace Go.Proofs.Ytpkfpdklolkgeaa
open Go.RowKit
set_option linter.unusedSimpArgs false

/-- The box of a plan. -/
def plnObj (r y : Int) (vW vR : Value) : Obj := .cells #[.int .i64 r, .int .i64 y, vW, vR] 24

theorem pln_cells {W : World} {gb : Nat} {r y : Int} {vW vR : Value} (h : W.heap[gb]? = some (plnObj r y vW vR)) :
    W.cell? ⟨gb, 0, none⟩ = some (.int .i64 r) ∧ W.cell? ⟨gb, 1, none⟩ = some (.int .i64 y) ∧ W.cell? ⟨gb, 2, none⟩ = some vW ∧ W.cell? ⟨gb, 3, none⟩ = some vR := by
  refine ⟨?_, ?_, ?_, ?_⟩ <;> rw [cell_of_row W gb _ _ 24 (0, 0) h] <;> rfl

theorem pln_soft {W : World} {gb : Nat} {r y : Int} {vW vR : Value} (h : W.heap[gb]? = some (plnObj r y vW vR)) (i : Nat) : W.frozen? ⟨gb, i, none⟩ = false := by
  simp [World.frozen?, h, plnObj]

theorem plnlay0 {w : World} {gb : Nat} {r y : Int} {vW vR : Value} (h : w.heap[gb]? = some (plnObj r y vW vR)) (x : Int) : w.setCell ⟨gb, 0, none⟩ (.int .i64 x) = put w gb (plnObj x y vW vR) := set_put _ h
theorem plnlay1 {w : World} {gb : Nat} {r y : Int} {vW vR : Value} (h : w.heap[gb]? = some (plnObj r y vW vR)) (x : Int) : w.setCell ⟨gb, 1, none⟩ (.int .i64 x) = put w gb (plnObj r x vW vR) := set_put _ h

/-- Numbers appended to an empty slice, in a region, behind a world V. -/
theorem step_freshV {ops : Array Oper} {o : Oper} {a : Act} {V W : World} {K : Act → World → Prop} {Q : Exit → Act → World → Prop} {E : Prop} (hgd : o.guard = none) (s x : Operand)
    (ho : o.op = .call { callee := .builtin .append, args := #[s, x], argTypes := #[22, 22] }) (g0 : Nat) (hs : a.eval s = .slice (some ⟨g0, 0, none⟩) 0 0) (A : Option Addr) (n c : Nat) (hx : a.eval x = .slice A n c)
    (L : List Int) (hr : RdI V A n L) (hn : n ≤ 1000000) (hB : Below V.heap.size V W) (hg0 : V.heap.size ≤ g0 ∧ g0 < W.heap.size)
    (h : ∀ gg cap W', RdI W' (some ⟨gg, 0, none⟩) n L → Below W.heap.size W W' → Below V.heap.size V W' → V.heap.size ≤ gg → gg < W'.heap.size → K (a.put o.dst (.slice (some ⟨gg, 0, none⟩) n cap)) W') :
    if Region.wanted o (yielded ops a.tmps) = true then Oper.wp Try.prog o a W K Q else E := by
  refine step_freshI hgd s x ho g0 hs A n c hx L (hr.later hB) hn hg0.2 ?_
  intro gg cap W' h1 h2 h3 h4
  have h5 := hB.size
  exact h gg cap W' h1 h2 (hB.trans (h2.mono hB.size)) (by rcases h3 with rfl | h3 <;> omega) h4

/-- The document's tape as it is laid. -/
theorem mta_start {V w8 : World} {r y g1 g2 c1 c2 nW nR : Nat} {LW LR : List Int} (hb : Below V.heap.size V w8) (h1 : RdI w8 (some ⟨g1, 0, none⟩) nW LW) (h2 : RdI w8 (some ⟨g2, 0, none⟩) nR LR) (k1 : V.heap.size ≤ g1 ∧ g1 < w8.heap.size) (k2 : V.heap.size ≤ g2 ∧ g2 < w8.heap.size) (hr : r ≤ 3000) :
    ∃ G, Mta (w8.alloc (mtObj r y (.slice (some ⟨g1, 0, none⟩) nW c1) (.slice (some ⟨g2, 0, none⟩) nR c2) (.slice none 0 0) 0)) w8.heap.size ⟨r, y, LW, LR, [], 0⟩ G ∧ ∀ k ∈ G, V.heap.size ≤ k := by
  have hsz := hb.size
  refine ⟨[w8.heap.size, g1, g2], ⟨.slice none 0 0, [], some ⟨g1, 0, none⟩, some ⟨g2, 0, none⟩, nW, c1, nR, c2, ?_⟩, ?_⟩
  · refine ⟨heap_alloc_new w8 _, h1.later (Below.alloc0 _ _), h2.later (Below.alloc0 _ _), World.ownsRow_nil _ _ _ _, by simp, rfl, by simp, by simp [usedOf], by simp only; omega, by simp, by simp [Value.ownBlock], ?_, ?_, ?_⟩
    · intro b o e
      injection e with e
      injection e with e
      subst e
      exact ⟨by simp, by omega⟩
    · intro b o e
      injection e with e
      injection e with e
      subst e
      exact ⟨by simp, by omega⟩
    · intro k hk
      simp only [List.mem_cons, List.not_mem_nil, or_false] at hk
      simp
      omega
  · intro k hk
    simp only [List.mem_cons, List.not_mem_nil, or_false] at hk
    omega

set_option maxHeartbeats 8000000 in
set_option maxRecDepth 100000 in
theorem tapeActs_walk (w : World) (R0 Y0 : Int) (aW aR : Option Addr) (nW cW nR cR : Nat) (LW LR : List Int) (hW : RdI w aW nW LW) (hR : RdI w aR nR LR) (a : Option Addr) (n c : Nat) (X : List Cal) (h : RdC w a n X) (hn : n ≤ 150) (hsum : nW + nR ≤ 60) :
    Calls Try.prog 3 #[.agg #[.int .i64 R0, .int .i64 Y0, .slice aW nW cW, .slice aR nR cR], .slice a n c] w fun e w' => e = .returned (.bool true) ∧ Below w.heap.size w w' := by
  obtain ⟨u, hu⟩ : ∃ u : Nat, IntKind.u64.wrap R0 = (u : Int) := ⟨(IntKind.u64.wrap R0).toNat, by rw [IntKind.wrap_u64]; omega⟩
  obtain ⟨u', hu'⟩ : ∃ u' : Nat, IntKind.u64.wrap Y0 = (u' : Int) := ⟨(IntKind.u64.wrap Y0).toNat, by rw [IntKind.wrap_u64]; omega⟩
  obtain ⟨r0, hr0⟩ : ∃ r0 : Nat, r0 = u % 3000 := ⟨_, rfl⟩
  obtain ⟨y0, hy0⟩ : ∃ y0 : Nat, y0 = u' % 400 := ⟨_, rfl⟩
  have hr03 : r0 < 3000 := by omega
  have hy04 : y0 < 400 := by omega
  have htm : (u : Int).tmod 3000 = (r0 : Int) := by rw [Int.tmod_eq_emod_of_nonneg (by omega)]; omega
  have hty : (u' : Int).tmod 400 = (y0 : Int) := by rw [Int.tmod_eq_emod_of_nonneg (by omega)]; omega
  have hem : (u : Int) % 3000 = (r0 : Int) := by omega
  have hey : (u' : Int) % 400 = (y0 : Int) := by omega
  obtain ⟨r, hr⟩ : ∃ r : Nat, r = 1 + r0 := ⟨_, rfl⟩
  have hr1 : 1 + (r0 : Int) = (r : Int) := by omega
  have hrb : 1 ≤ r ∧ r ≤ 3000 := by omega
  obtain ⟨y, hy⟩ : ∃ y : Nat, y = min y0 r := ⟨_, rfl⟩
  have hmin : min (y0 : Int) (r : Int) = (y : Int) := by omega
  have hyr : y ≤ r := by omega
  have hsumI : ((nW : Int) + (nR : Int)) ≤ 60 := by omega
  have hws : IntKind.i64.wrap ((nW : Int) + (nR : Int)) = ((nW + nR : Nat) : Int) := by rw [IntKind.wrap_i64] <;> omega
  obtain ⟨w1, h1⟩ : ∃ w1, w1 = w.alloc (plnObj R0 Y0 (.slice aW nW cW) (.slice aR nR cR)) := ⟨_, rfl⟩
  obtain ⟨gb, hgb⟩ : ∃ gb, gb = w.heap.size := ⟨_, rfl⟩
  have hob : w1.heap[gb]? = some (plnObj R0 Y0 (.slice aW nW cW) (.slice aR nR cR)) := by rw [h1, hgb]; exact heap_alloc_new w _
  have hb1 : Below w.heap.size w w1 := by rw [h1]; exact Below.alloc0 _ _
  have HL : Hid (Calls Try.prog 5 #[] w1 fun e w' => e = .returned (.bool true) ∧ Hid (w'.heap[gb]? = some (plnObj R0 Y0 (.slice aW nW cW) (.slice aR nR cR)) ∧ Below w.heap.size w w')) := by
    refine Lib.hid ((lives_any w1).mono ?_)
    rintro e w' ⟨rfl, hb⟩
    exact ⟨rfl, Lib.hid ⟨(hb.block gb (lt_of_block hob)).trans hob, hb1.trans (hb.mono hb1.size)⟩⟩
  have HIN := Lib.hid (And.intro hW (And.intro hR h))
  have HW1 := Lib.hid (And.intro h1 hgb)
  have hnWR : nW ≤ 60 ∧ nR ≤ 60 := by omega
  obtain ⟨q, hq⟩ : ∃ q, q = nW + nR := ⟨_, rfl⟩
  rw [← hq] at hws hsum
  clear hW hR h h1 hgb hob hb1 hr0 hy0 hr hy hq
  go_enter Try.func3, Try.ntmps3
  go_upto_region 1 with fail
  change Code.wp _ _ _ _ (w.alloc (plnObj R0 Y0 (.slice aW nW cW) (.slice aR nR cR)))
  rw [← HW1.out.1]
  go_wp2_with fail
  refine HL.out.mono ?_
  rintro e w2 ⟨rfl, H2⟩
  rw [← HW1.out.2]
  obtain ⟨x0, x1, x2, x3⟩ := pln_cells H2.out.1
  have fx := pln_soft H2.out.1
  have e1 : w2.setCell ⟨gb, 0, none⟩ (.int .i64 (r : Int)) = put w2 gb (plnObj (r : Int) Y0 (.slice aW nW cW) (.slice aR nR cR)) := plnlay0 H2.out.1 r
  have HE1 := Lib.hid e1
  clear e1 HL
  go_upto_region 5 with fail
  obtain ⟨w3, h3⟩ : ∃ w3, w3 = put w2 gb (plnObj (r : Int) (y : Int) (.slice aW nW cW) (.slice aR nR cR)) := ⟨_, rfl⟩
  have HW3 : Hid (((w2.setCell ⟨gb, 0, none⟩ (.int .i64 (r : Int))).setCell ⟨gb, 1, none⟩ (.int .i64 (y0 : Int))).setCell ⟨gb, 1, none⟩ (.int .i64 (y : Int)) = w3) := by
    refine Lib.hid ?_
    rw [HE1.out, plnlay1 (put_same H2.out.1), put_put, plnlay1 (put_same H2.out.1), put_put, h3]
  rw [HW3.out]
  have hob3 : w3.heap[gb]? = some (plnObj (r : Int) (y : Int) (.slice aW nW cW) (.slice aR nR cR)) := by rw [h3]; exact put_same H2.out.1
  have hgbw : w.heap.size ≤ gb := by rw [HW1.out.2]; exact Nat.le_refl _
  have hb3 : Below w.heap.size w w3 := by rw [h3]; exact H2.out.2.trans (put_below _ hgbw)
  have HKX : Hid (∀ W, Below w3.heap.size w3 W → W.cell? ⟨gb, 0, none⟩ = some (.int .i64 (r : Int)) ∧ W.cell? ⟨gb, 1, none⟩ = some (.int .i64 (y : Int)) ∧ W.cell? ⟨gb, 2, none⟩ = some (.slice aW nW cW) ∧ W.cell? ⟨gb, 3, none⟩ = some (.slice aR nR cR)) := Lib.hid fun W hW => pln_cells ((hW.block gb (lt_of_block hob3)).trans hob3)
  have HP : Hid (∀ W, Below w3.heap.size w3 W → Calls Try.prog 7 #[] W fun e w' => ∃ gp, e = .returned (.pointer (some ⟨gp, 0, none⟩)) ∧ (w'.cell? ⟨gb, 0, none⟩ = some (.int .i64 (r : Int)) ∧ w'.cell? ⟨gb, 1, none⟩ = some (.int .i64 (y : Int)) ∧ w'.cell? ⟨gb, 2, none⟩ = some (.slice aW nW cW) ∧ w'.cell? ⟨gb, 3, none⟩ = some (.slice aR nR cR)) ∧ Hid (Pow w' gp ⟨true, none, 0⟩ ∧ Below w3.heap.size w3 w' ∧ w3.heap.size ≤ gp)) := by
    refine Lib.hid fun W hW => (new_any W).mono ?_
    rintro e w' ⟨rfl, rfl⟩
    have hb := hW.trans ((Below.alloc0 W (powObj ⟨true, none, 0⟩)).mono hW.size)
    exact ⟨_, rfl, HKX.out _ hb, Lib.hid ⟨pow_laid W _, hb, hW.size⟩⟩
  have HNEW : Hid (∀ (W : World) (gp : Nat), Pow W gp ⟨true, none, 0⟩ → Below w3.heap.size w3 W → w3.heap.size ≤ gp → Calls Try.prog 6 #[.agg #[.int .i64 (r : Int), .int .i64 (y : Int), .slice aW nW cW, .slice aR nR cR], .pointer (some ⟨gp, 0, none⟩)] W fun e w' => ∃ gt, e = .returned (.tuple #[.pointer (some ⟨gt, 0, none⟩), .int .i64 0]) ∧ (w'.cell? ⟨gb, 0, none⟩ = some (.int .i64 (r : Int)) ∧ w'.cell? ⟨gb, 1, none⟩ = some (.int .i64 (y : Int)) ∧ w'.cell? ⟨gb, 2, none⟩ = some (.slice aW nW cW) ∧ w'.cell? ⟨gb, 3, none⟩ = some (.slice aR nR cR)) ∧ Hid (∃ F, Liv w3 w' gt gp ⟨true, none, 0⟩ ⟨r, y, LW, LR, [], 0⟩ F)) := by
    refine Lib.hid fun W gp hp hb hg => (tnew_yes W r y gp aW aR nW cW nR cR LW LR ⟨true, none, 0⟩ hrb.1 (by omega) hyr (HIN.out.1.later (hb3.trans (hb.mono hb3.size))) (HIN.out.2.1.later (hb3.trans (hb.mono hb3.size))) (by omega) (by omega) hp).mono ?_
    rintro e w' ⟨gt, F, rfl, h2, h3, h4⟩
    have hbb := hb.trans (h3.mono hb.size)
    exact ⟨gt, rfl, HKX.out _ hbb, Lib.hid ⟨F, h2, fun k hk => Nat.le_trans hb.size (h4 k hk), hg, hbb⟩⟩
  have HB3 := Lib.hid hb3
  have HGB := Lib.hid (And.intro hgbw (lt_of_block hob3))
  clear h3 hob3 hb3 hgbw HW3 x0 x1 x2 x3 fx HE1 H2 hu hu' htm hty hem hey hr1 hmin hws hsumI
  obtain ⟨x0, x1, x2, x3⟩ := HKX.out w3 (Below.refl _ _)
  go_region_held3 (fun W => W.cell? ⟨gb, 0, none⟩ = some (.int .i64 (r : Int)) ∧ W.cell? ⟨gb, 1, none⟩ = some (.int .i64 (y : Int)) ∧ W.cell? ⟨gb, 2, none⟩ = some (.slice aW nW cW) ∧ W.cell? ⟨gb, 3, none⟩ = some (.slice aR nR cR))
    (first | exact ⟨x0, x1, x2, x3⟩ | exact k5 | exact k4 | go_keep)
    (first
      | (go_at_call 7; refine (HP.out _ ?_).mono ?_; exact (Below.refl _ _).drew; rintro e w4 ⟨gp, rfl, k4, H4⟩)
      | (go_at_call 6; refine (HNEW.out _ gp H4.out.1 H4.out.2.1 H4.out.2.2).mono ?_; rintro e w5 ⟨gt, rfl, k5, H5⟩))
  clear x0 x1 x2 x3 k4 k5
  obtain ⟨x0, x1, x2, x3⟩ := HKX.out w5 (H5.out.elim fun _ h => h.bel)
  have HB5 : Hid (Below w3.heap.size w3 w5) := Lib.hid (H5.out.elim fun _ h => h.bel)
  have HRW : Hid (RdI w5 aW nW LW ∧ RdI w5 aR nR LR) := by
    have hb := HB3.out.trans (HB5.out.mono HB3.out.size)
    exact Lib.hid ⟨HIN.out.1.later hb, HIN.out.2.1.later hb⟩
  go_upto_region 6 with fail
  go_cut [7] (fun v7 wx => ∃ gm : Nat, v7 = .pointer (some ⟨gm, 0, none⟩) ∧ Hid (∃ F G, Liv w3 wx gt gp ⟨true, none, 0⟩ ⟨r, y, LW, LR, [], 0⟩ F ∧ Mta wx gm ⟨r, y, LW, LR, [], 0⟩ G ∧ ∀ k ∈ G, w3.heap.size ≤ k ∧ k ∉ gp :: F))
  case first =>
    have HK5 : Hid (∀ W, Below w5.heap.size w5 W → W.cell? ⟨gb, 0, none⟩ = some (.int .i64 (r : Int)) ∧ W.cell? ⟨gb, 1, none⟩ = some (.int .i64 (y : Int)) ∧ W.cell? ⟨gb, 2, none⟩ = some (.slice aW nW cW) ∧ W.cell? ⟨gb, 3, none⟩ = some (.slice aR nR cR)) := Lib.hid fun W hW => HKX.out W (HB5.out.trans (hW.mono HB5.out.size))
    have HEND : Hid (∀ (w8 : World) (g1 g2 c1 c2 : Nat), Below w5.heap.size w5 w8 → RdI w8 (some ⟨g1, 0, none⟩) nW LW → RdI w8 (some ⟨g2, 0, none⟩) nR LR → w5.heap.size ≤ g1 ∧ g1 < w8.heap.size → w5.heap.size ≤ g2 ∧ g2 < w8.heap.size → Hid (∃ F G, Liv w3 (w8.alloc (mtObj r y (.slice (some ⟨g1, 0, none⟩) nW c1) (.slice (some ⟨g2, 0, none⟩) nR c2) (.slice none 0 0) 0)) gt gp ⟨true, none, 0⟩ ⟨r, y, LW, LR, [], 0⟩ F ∧ Mta (w8.alloc (mtObj r y (.slice (some ⟨g1, 0, none⟩) nW c1) (.slice (some ⟨g2, 0, none⟩) nR c2) (.slice none 0 0) 0)) w8.heap.size ⟨r, y, LW, LR, [], 0⟩ G ∧ ∀ k ∈ G, w3.heap.size ≤ k ∧ k ∉ gp :: F)) := by
      refine Lib.hid fun w8 g1 g2 c1 c2 hb h1 h2 k1 k2 => Lib.hid ?_
      obtain ⟨F, hF⟩ := H5.out
      obtain ⟨G, hG, hGk⟩ := mta_start (y := y) (c1 := c1) (c2 := c2) hb h1 h2 k1 k2 hrb.2
      have hfl := hF.fl
      have hgp := hF.gplt
      refine ⟨F, G, hF.later (hb.alloc hb.size _), hG, fun k hk => ⟨Nat.le_trans HB5.out.size (hGk k hk), ?_⟩⟩
      have h9 := hGk k hk
      simp only [List.mem_cons, not_or]
      exact ⟨by omega, fun hx => by have := hfl k hx; omega⟩
    go_region_held3 (fun W => W.cell? ⟨gb, 0, none⟩ = some (.int .i64 (r : Int)) ∧ W.cell? ⟨gb, 1, none⟩ = some (.int .i64 (y : Int)) ∧ W.cell? ⟨gb, 2, none⟩ = some (.slice aW nW cW) ∧ W.cell? ⟨gb, 3, none⟩ = some (.slice aR nR cR))
      (first | (refine HK5.out _ ?_; (repeat (first | exact Below.refl _ _ | assumption | refine Below.drew ?_ | refine Below.alloc ?_ (by first | (simp; done) | exact B7.size | exact B8.size | (simp; omega)) _)); done) | go_keep)
      (first
        | (refine step_freshV (V := w5) (by rfl) _ _ (by rfl) _ (by rfl) aW nW cW (by rfl) LW HRW.out.1 (by omega) (by (repeat (first | exact Below.refl _ _ | assumption | refine Below.drew ?_ | refine Below.alloc ?_ (by first | (simp; done) | exact B7.size | exact B8.size | (simp; omega)) _))) (by first | (simp; done) | (simp; omega)) ?_; intro g1 c1 w7 hr1 hb1 B7 hg1 hl1)
        | (refine step_freshV (V := w5) (by rfl) _ _ (by rfl) _ (by rfl) aR nR cR (by rfl) LR HRW.out.2 (by omega) (by (repeat (first | exact Below.refl _ _ | assumption | refine Below.drew ?_ | refine Below.alloc ?_ (by first | (simp; done) | exact B7.size | exact B8.size | (simp; omega)) _))) (by have h8 := B7.size; have h9 := hb1.size; first | (simp; done) | (simp; omega) | (simp at h9 ⊢; omega)) ?_; intro g2 c2 w8 hr2 hb2 B8 hg2 hl2))
    all_goals
      go_wp2_with fail
      go_meet
      refine ⟨_, rfl, HEND.out w8 g1 g2 c1 c2 B8 ?_ hr2 ⟨hg1, ?_⟩ ⟨hg2, hl2⟩⟩
      · first
          | exact hr1.later hb2
          | exact hr1.later ((Below.alloc0 _ _).trans (hb2.mono (by simp)))
      · have h9 := hb2.size
        first
          | omega
          | (simp at h9; omega)
  case rest =>
    obtain ⟨gm, rfl, HC⟩ := hcut
    clear H5 HP HNEW
    go_wp2
    obtain ⟨gq, hgq⟩ : ∃ gq, gq = wc.heap.size := ⟨_, rfl⟩
    obtain ⟨wz, hwz⟩ : ∃ wz, wz = wc.alloc (mpObj true (-1) 0) := ⟨_, rfl⟩
    have HZ : Hid (∃ F G, Two w3 wz gt gp gm gq ⟨true, none, 0⟩ ⟨r, y, LW, LR, [], 0⟩ F ⟨true, none, 0⟩ ⟨r, y, LW, LR, [], 0⟩ G) := by
      obtain ⟨F, G, hL, hM, hG⟩ := HC.out
      have hfl := hL.fl
      have hgp := hL.gplt
      have hml := hM.fl
      have hbe : Below wc.heap.size wc wz := by rw [hwz]; exact Below.alloc0 _ _
      refine Lib.hid ⟨F, G, hL.later hbe, hM.later hbe, ⟨0, ?_, fun j u e => (by cases e)⟩, fun k hk => (hG k hk).1, ?_, ?_, ?_, fun k hk => (hG k hk).2⟩
      · rw [hwz, hgq]; exact heap_alloc_new wc _
      · rw [hgq]; exact hL.bel.size
      · intro hx
        have := hml gq hx
        omega
      · simp only [List.mem_cons, not_or]
        exact ⟨by omega, fun hx => by have := hfl gq hx; omega⟩
    try (change Code.wp _ _ _ _ (wc.alloc (mpObj true (-1) 0)))
    rw [← hgq, ← hwz]
    clear hgq hwz HC
    go_loopg [74] n (fun gk i wr => ∃ (j : Nat) (s : Pw) (t : Tst) (F G : List Nat), gk = n - j ∧ j ≤ n ∧ i = .int .i64 (j : Int) ∧ Hid (Two w3 wr gt gp gm gq s t F s t G ∧ s.within j ∧ Tst.like ⟨r, y, LW, LR, [], 0⟩ t))
    case atStart =>
      obtain ⟨F, G, hT⟩ := HZ.out
      exact ⟨0, _, _, F, G, rfl, Nat.zero_le _, rfl, Lib.hid ⟨hT, ⟨fun k t e => (by cases e), Nat.le_refl _⟩, Tst.like_refl _⟩⟩
    case round =>
      obtain ⟨j, s, t, F, G, hgk, hj, rfl, HI⟩ := hrel
      have HGK := Lib.hid hgk
      clear hgk HZ
      have HBR : Hid (Below w.heap.size w wr) := Lib.hid (HB3.out.trans (HI.out.1.liv.bel.mono HB3.out.size))
      by_cases hlt : j < n
      · have HRr := HIN.out.2.2.later HBR.out
        obtain ⟨b, o, rfl, hc⟩ := HRr.2.2 (by omega)
        obtain ⟨e0, e1, e2, e3⟩ := hc j hlt
        have hjl : j < X.length := by rw [HIN.out.2.2.1]; exact hlt
        have HX0 := HIN.out.2.2.2.1 (X.getD j Cal.none) (by simp [List.getD, hjl])
        obtain ⟨x, hxe⟩ : ∃ x, x = X.getD j Cal.none := ⟨_, rfl⟩
        rw [← hxe] at e0 e1 e2 e3 HX0
        clear hxe hc HRr hjl
        obtain ⟨K, I, Z, ab, nb, cb, bb⟩ := x
        simp only at e0 e1 e2 e3
        have HX := Lib.hid HX0
        clear HX0
        by_cases hbig : 300 < nb
        · go_wp2
          go_ret
          exact ⟨rfl, HBR.out.alloc HBR.out.size _⟩
        · have hnb : nb ≤ 300 := by omega
          clear hbig
          go_upto_region 15 with fail
          obtain ⟨W1, hW1⟩ : ∃ W1, W1 = wr.alloc (actObj K I Z (.slice ab nb cb)) := ⟨_, rfl⟩
          obtain ⟨gx, hgx⟩ : ∃ gx, gx = wr.heap.size := ⟨_, rfl⟩
          change Code.wp _ _ _ _ (wr.alloc (actObj K I Z (.slice ab nb cb)))
          rw [← hW1, ← hgx]
          have hob : W1.heap[gx]? = some (actObj K I Z (.slice ab nb cb)) := by rw [hW1, hgx]; exact heap_alloc_new wr _
          have hT1 : Two w3 W1 gt gp gm gq s t F s t G := by rw [hW1]; exact HI.out.1.later (Below.alloc0 _ _)
          obtain ⟨a0, a1, a2, a3⟩ := act_cells hob
          have HSTEP : Hid (Calls Try.prog 8 #[.pointer (some ⟨gt, 0, none⟩), .pointer (some ⟨gm, 0, none⟩), .pointer (some ⟨gq, 0, none⟩), .agg #[.int .u8 (K : Int), .int .i64 I, .int .i64 Z, .slice ab nb cb]] W1.drew fun e W' => e = .returned (.bool true) ∧ Hid (Stepped w3 gt gp gm gq t j W')) := by
            obtain ⟨l1, l2, l3, l4⟩ := HI.out.2.2
            simp only at l1 l2 l3 l4
            have hWl := HIN.out.1.1
            have hRl := HIN.out.2.1.1
            refine Lib.hid ((step_any w3 W1.drew gt gp gm gq s t F G (hT1.later (Below.refl _ _).drew) j HI.out.2.1 (by omega) (by rw [l1]; omega) (by rw [l3]; omega) (by rw [l4]; omega) ⟨K, I, Z, ab, nb, cb, bb⟩ ?_ hnb).mono ?_)
            · obtain ⟨p1, p2, p3, p4⟩ := HX.out
              exact ⟨p1, p2, p3, p4.later HB3.out⟩
            · rintro e W' ⟨rfl, hS⟩
              exact ⟨rfl, Lib.hid hS⟩
          have HJL := Lib.hid hlt
          clear hW1 hgx hob hT1 e0 e1 e2 e3 x0 x1 x2 x3
          refine wp_region_held_drew (S := fun _ => True) (by kernel_rfl) trivial (fun _ => ?_)
          refine wpAnyH_take (i := 0) (v := ?v0) rfl (by kernel_rfl) (by kernel_rfl) (by kernel_rfl) (fun _ _ _ h => h) (Or.inl ⟨by rfl, ?h0⟩) trivial ?r0
          case h0 => (intro W hW; (try dsimp only at hW); go_simp; try with_reducible rfl)
          simp only [Act.put, List.getElem_toArray, List.getElem_cons_succ, List.getElem_cons_zero, List.setIfInBounds_toArray, List.set_cons_zero, List.set_cons_succ]
          refine wpAnyH_take (i := 1) (v := ?v1) rfl (by kernel_rfl) (by kernel_rfl) (by kernel_rfl) (fun _ _ _ h => h) (Or.inl ⟨by rfl, ?h1⟩) trivial ?r1
          case h1 => (intro W hW; (try dsimp only at hW); go_simp; try with_reducible rfl)
          simp only [Act.put, List.getElem_toArray, List.getElem_cons_succ, List.getElem_cons_zero, List.setIfInBounds_toArray, List.set_cons_zero, List.set_cons_succ]
          refine wpAnyH_take (i := 2) (v := ?v2) rfl (by kernel_rfl) (by kernel_rfl) (by kernel_rfl) (fun _ _ _ h => h) (Or.inl ⟨by rfl, ?h2⟩) trivial ?r2
          case h2 => (intro W hW; (try dsimp only at hW); go_simp; try with_reducible rfl)
          simp only [Act.put, List.getElem_toArray, List.getElem_cons_succ, List.getElem_cons_zero, List.setIfInBounds_toArray, List.set_cons_zero, List.set_cons_succ]
          refine wpAnyH_ready (rs := [3]) (by kernel_rfl) (by simp) ?_
          refine AllReadyH.cons rfl (fun K hK => ?_) AllReadyH.nil
          go_simp
          refine hK.out _ _ trivial (fun _ => ?_)
          clear hK K
          try simp only [Act.put, List.getElem_toArray, List.getElem_cons_succ, List.getElem_cons_zero, List.setIfInBounds_toArray, List.set_cons_zero, List.set_cons_succ]
          refine wpAnyH_ready (rs := [4]) (by kernel_rfl) (by simp) ?_
          refine AllReadyH.cons rfl (fun K hK => ?_) AllReadyH.nil
          go_simp
          refine HSTEP.out.mono ?_
          rintro e W2 ⟨rfl, H2⟩
          refine hK.out _ _ trivial (fun _ => ?_)
          clear hK K a0 a1 a2 a3
          obtain ⟨s2, t2, F2, G2, hT2, hwi2, hlk2⟩ := H2.out
          have hlk := Tst.like_trans HI.out.2.2 hlk2
          obtain ⟨vv, XX, bW, bR, htp⟩ := hT2.liv.tap
          obtain ⟨vm, Xm, aWm, aRm, nWm, cWm, nRm, cRm, hmt⟩ := hT2.mod
          obtain ⟨av, cv, hvm, _, _⟩ := hmt.shape
          have m5 := hmt.cells.2.2.2.2
          have m4 := hmt.cells.2.2.2.1
          have t0 := htp.cells.1
          have q0 := hT2.mpw.on
          obtain ⟨g0, g1, _, _⟩ := HKX.out W2 hT2.liv.bel
          rw [hvm] at m4
          obtain ⟨pp, hpp⟩ : ∃ pp, pp = t2.pos := ⟨_, rfl⟩
          obtain ⟨pn, hpn⟩ : ∃ pn, pn = t2.P.length := ⟨_, rfl⟩
          obtain ⟨uu, huu⟩ : ∃ uu, uu = t2.used := ⟨_, rfl⟩
          obtain ⟨wb, hwb⟩ : ∃ wb, wb = t2.warns := ⟨_, rfl⟩
          obtain ⟨ob, hob⟩ : ∃ ob, ob = s2.on := ⟨_, rfl⟩
          obtain ⟨d, hd⟩ : ∃ d, d = r - y := ⟨_, rfl⟩
          have hwd : IntKind.i64.wrap ((r : Int) - (y : Int)) = (d : Int) := by rw [IntKind.wrap_i64] <;> omega
          have hg1 : decide (d ≤ uu) = wb := by
            rw [hwb, Tst.warns, hlk.1, hlk.2.1, huu, hd]
          have hg2 : decide ((d : Int) ≤ (uu : Int)) = wb := by
            rw [← hg1]
            simp
          have HPL : Hid (Calls Try.prog 9 #[.pointer (some ⟨gt, 0, none⟩)] W2 fun e w' => e = .returned (.int .i64 (pp : Int)) ∧ w' = W2) := Lib.hid (by rw [hpp]; exact place_any W2 gt gp s2 t2 F2 hT2.liv.tap)
          have HLE : Hid (Calls Try.prog 10 #[.pointer (some ⟨gt, 0, none⟩)] W2 fun e w' => e = .returned (.int .i64 (pn : Int)) ∧ w' = W2) := Lib.hid (by rw [hpn]; exact tlen_any W2 gt gp s2 t2 F2 hT2.liv.tap)
          have HWA : Hid (Calls Try.prog 11 #[.pointer (some ⟨gt, 0, none⟩)] W2 fun e w' => e = .returned (.bool wb) ∧ ∃ m, w' = W2.drewN m) := Lib.hid (by rw [hwb]; exact warns_any W2 gt gp s2 t2 F2 hT2.liv.tap)
          have HUS : Hid (∀ m, Calls Try.prog 12 #[.pointer (some ⟨gm, 0, none⟩)] (W2.drewN m) fun e w' => e = .returned (.int .i64 (uu : Int)) ∧ w' = W2.drewN m) := Lib.hid fun m => (by rw [huu]; exact mused_any (W2.drewN m) gm t2 G2 (hT2.mod.save (Y := []) ((Save.refl _ _).drewN m) (by simp)))
          have HON : Hid (∀ m, Calls Try.prog 13 #[.pointer (some ⟨gp, 0, none⟩)] (W2.drewN m) fun e w' => e = .returned (.bool ob) ∧ w' = W2.drewN m) := Lib.hid fun m => (by rw [hob]; exact on_any (W2.drewN m) gp s2 htp.pow)
          rw [← hpp] at m5
          rw [← hpn] at m4
          rw [← hob] at q0
          have HS2 : Hid (W2.cell? ⟨gm, 5, none⟩ = some (.int .i64 (pp : Int)) ∧ W2.cell? ⟨gm, 4, none⟩ = some (.slice av pn cv) ∧ W2.cell? ⟨gb, 0, none⟩ = some (.int .i64 (r : Int)) ∧ W2.cell? ⟨gb, 1, none⟩ = some (.int .i64 (y : Int)) ∧ W2.cell? ⟨gt, 0, none⟩ = some (.pointer (some ⟨gp, 0, none⟩)) ∧ W2.cell? ⟨gq, 0, none⟩ = some (.bool ob)) := Lib.hid ⟨m5, m4, g0, g1, t0, q0⟩
          have HNX : Hid (∀ m, Two w3 (W2.drewN m) gt gp gm gq s2 t2 F2 s2 t2 G2 ∧ s2.within (j + 1) ∧ Tst.like ⟨r, y, LW, LR, [], 0⟩ t2) := Lib.hid fun m => ⟨hT2.save (Y := []) ((Save.refl _ _).drewN m) (by simp), hwi2, hlk⟩
          clear hT2 hwi2 hlk2 hlk htp hmt hvm m5 m4 g0 g1 t0 q0 hpp hpn huu hwb hob hd H2 HSTEP
          refine wpAnyH_strong (S1 := fun W => W.cell? ⟨gm, 5, none⟩ = some (.int .i64 (pp : Int)) ∧ W.cell? ⟨gm, 4, none⟩ = some (.slice av pn cv) ∧ W.cell? ⟨gb, 0, none⟩ = some (.int .i64 (r : Int)) ∧ W.cell? ⟨gb, 1, none⟩ = some (.int .i64 (y : Int)) ∧ W.cell? ⟨gt, 0, none⟩ = some (.pointer (some ⟨gp, 0, none⟩)) ∧ W.cell? ⟨gq, 0, none⟩ = some (.bool ob)) (fun _ _ => trivial) ?_
          refine wpAnyH_take (i := 5) (v := ?v5) rfl (by kernel_rfl) (by kernel_rfl) (by kernel_rfl) (fun _ _ _ h => h) (Or.inl ⟨by rfl, ?h5⟩) HS2.out ?r5
          case h5 => (intro W hW; (try dsimp only at hW); go_simp; try with_reducible rfl)
          simp only [Act.put, List.getElem_toArray, List.getElem_cons_succ, List.getElem_cons_zero, List.setIfInBounds_toArray, List.set_cons_zero, List.set_cons_succ]
          refine wpAnyH_take (i := 6) (v := ?v6) rfl (by kernel_rfl) (by kernel_rfl) (by kernel_rfl) (fun _ _ _ h => h) (Or.inl ⟨by rfl, ?h6⟩) HS2.out ?r6
          case h6 => (intro W hW; (try dsimp only at hW); go_simp; try with_reducible rfl)
          simp only [Act.put, List.getElem_toArray, List.getElem_cons_succ, List.getElem_cons_zero, List.setIfInBounds_toArray, List.set_cons_zero, List.set_cons_succ]
          refine wpAnyH_take (i := 7) (v := ?v7) rfl (by kernel_rfl) (by kernel_rfl) (by kernel_rfl) (fun _ _ _ h => h) (Or.inl ⟨by rfl, ?h7⟩) HS2.out ?r7
          case h7 => (intro W hW; (try dsimp only at hW); go_simp; try with_reducible rfl)
          simp only [Act.put, List.getElem_toArray, List.getElem_cons_succ, List.getElem_cons_zero, List.setIfInBounds_toArray, List.set_cons_zero, List.set_cons_succ]
          refine wpAnyH_take (i := 9) (v := ?v9) rfl (by kernel_rfl) (by kernel_rfl) (by kernel_rfl) (fun _ _ _ h => h) (Or.inl ⟨by rfl, ?h9⟩) HS2.out ?r9
          case h9 => (intro W hW; (try dsimp only at hW); go_simp; try with_reducible rfl)
          simp only [Act.put, List.getElem_toArray, List.getElem_cons_succ, List.getElem_cons_zero, List.setIfInBounds_toArray, List.set_cons_zero, List.set_cons_succ]
          refine wpAnyH_take (i := 10) (v := ?v10) rfl (by kernel_rfl) (by kernel_rfl) (by kernel_rfl) (fun _ _ _ h => h) (Or.inl ⟨by rfl, ?h10⟩) HS2.out ?r10
          case h10 => (intro W hW; (try dsimp only at hW); go_simp; try with_reducible rfl)
          simp only [Act.put, List.getElem_toArray, List.getElem_cons_succ, List.getElem_cons_zero, List.setIfInBounds_toArray, List.set_cons_zero, List.set_cons_succ]
          refine wpAnyH_take (i := 11) (v := ?v11) rfl (by kernel_rfl) (by kernel_rfl) (by kernel_rfl) (fun _ _ _ h => h) (Or.inl ⟨by rfl, ?h11⟩) HS2.out ?r11
          case h11 => (intro W hW; (try dsimp only at hW); go_simp; try with_reducible rfl)
          simp only [Act.put, List.getElem_toArray, List.getElem_cons_succ, List.getElem_cons_zero, List.setIfInBounds_toArray, List.set_cons_zero, List.set_cons_succ]
          refine wpAnyH_take (i := 12) (v := ?v12) rfl (by kernel_rfl) (by kernel_rfl) (by kernel_rfl) (fun _ _ _ h => h) (Or.inl ⟨by rfl, ?h12⟩) HS2.out ?r12
          case h12 => (intro W hW; (try dsimp only at hW); go_simp; try with_reducible rfl)
          simp only [Act.put, List.getElem_toArray, List.getElem_cons_succ, List.getElem_cons_zero, List.setIfInBounds_toArray, List.set_cons_zero, List.set_cons_succ]
          refine wpAnyH_ready (rs := [8]) (by kernel_rfl) (by simp) ?_
          refine AllReadyH.cons rfl (fun K hK => ?_) AllReadyH.nil
          go_simp
          refine (HPL.out).mono ?_
          rintro e _ ⟨rfl, rfl⟩
          refine hK.out _ _ HS2.out (fun _ => ?_)
          clear hK K
          refine wpAnyH_take (i := 13) (v := ?v13) rfl (by kernel_rfl) (by kernel_rfl) (by kernel_rfl) (fun _ _ _ h => h) (Or.inl ⟨by rfl, ?h13⟩) HS2.out ?r13
          case h13 => (intro W hW; (try dsimp only at hW); go_simp; try with_reducible rfl)
          simp only [Act.put, List.getElem_toArray, List.getElem_cons_succ, List.getElem_cons_zero, List.setIfInBounds_toArray, List.set_cons_zero, List.set_cons_succ]
          refine wpAnyH_take (i := 14) (v := ?v14) rfl (by kernel_rfl) (by kernel_rfl) (by kernel_rfl) (fun _ _ _ h => h) (Or.inl ⟨by rfl, ?h14⟩) HS2.out ?r14
          case h14 => (intro W hW; (try dsimp only at hW); go_simp; try with_reducible rfl)
          simp only [Act.put, List.getElem_toArray, List.getElem_cons_succ, List.getElem_cons_zero, List.setIfInBounds_toArray, List.set_cons_zero, List.set_cons_succ]
          refine wpAnyH_take (i := 15) (v := ?v15) rfl (by kernel_rfl) (by kernel_rfl) (by kernel_rfl) (fun _ _ _ h => h) (Or.inl ⟨by rfl, ?h15⟩) HS2.out ?r15
          case h15 => (intro W hW; (try dsimp only at hW); go_simp; try with_reducible rfl)
          simp only [Act.put, List.getElem_toArray, List.getElem_cons_succ, List.getElem_cons_zero, List.setIfInBounds_toArray, List.set_cons_zero, List.set_cons_succ]
          refine wpAnyH_take (i := 16) (v := ?v16) rfl (by kernel_rfl) (by kernel_rfl) (by kernel_rfl) (fun _ _ _ h => h) (Or.inl ⟨by rfl, ?h16⟩) HS2.out ?r16
          case h16 => (intro W hW; (try dsimp only at hW); go_simp; try with_reducible rfl)
          simp only [Act.put, List.getElem_toArray, List.getElem_cons_succ, List.getElem_cons_zero, List.setIfInBounds_toArray, List.set_cons_zero, List.set_cons_succ]
          refine wpAnyH_take (i := 18) (v := ?v18) rfl (by kernel_rfl) (by kernel_rfl) (by kernel_rfl) (fun _ _ _ h => h) (Or.inl ⟨by rfl, ?h18⟩) HS2.out ?r18
          case h18 => (intro W hW; (try dsimp only at hW); go_simp; try with_reducible rfl)
          simp only [Act.put, List.getElem_toArray, List.getElem_cons_succ, List.getElem_cons_zero, List.setIfInBounds_toArray, List.set_cons_zero, List.set_cons_succ]
          refine wpAnyH_take (i := 19) (v := ?v19) rfl (by kernel_rfl) (by kernel_rfl) (by kernel_rfl) (fun _ _ _ h => h) (Or.inl ⟨by rfl, ?h19⟩) HS2.out ?r19
          case h19 => (intro W hW; (try dsimp only at hW); go_simp; try with_reducible rfl)
          simp only [Act.put, List.getElem_toArray, List.getElem_cons_succ, List.getElem_cons_zero, List.setIfInBounds_toArray, List.set_cons_zero, List.set_cons_succ]
          refine wpAnyH_take (i := 20) (v := ?v20) rfl (by kernel_rfl) (by kernel_rfl) (by kernel_rfl) (fun _ _ _ h => h) (Or.inl ⟨by rfl, ?h20⟩) HS2.out ?r20
          case h20 => (intro W hW; (try dsimp only at hW); go_simp; try with_reducible rfl)
          simp only [Act.put, List.getElem_toArray, List.getElem_cons_succ, List.getElem_cons_zero, List.setIfInBounds_toArray, List.set_cons_zero, List.set_cons_succ]
          refine wpAnyH_take (i := 21) (v := ?v21) rfl (by kernel_rfl) (by kernel_rfl) (by kernel_rfl) (fun _ _ _ h => h) (Or.inl ⟨by rfl, ?h21⟩) HS2.out ?r21
          case h21 => (intro W hW; (try dsimp only at hW); go_simp; try with_reducible rfl)
          simp only [Act.put, List.getElem_toArray, List.getElem_cons_succ, List.getElem_cons_zero, List.setIfInBounds_toArray, List.set_cons_zero, List.set_cons_succ]
          refine wpAnyH_take (i := 22) (v := ?v22) rfl (by kernel_rfl) (by kernel_rfl) (by kernel_rfl) (fun _ _ _ h => h) (Or.inl ⟨by rfl, ?h22⟩) HS2.out ?r22
          case h22 => (intro W hW; (try dsimp only at hW); go_simp; try with_reducible rfl)
          simp only [Act.put, List.getElem_toArray, List.getElem_cons_succ, List.getElem_cons_zero, List.setIfInBounds_toArray, List.set_cons_zero, List.set_cons_succ]
          refine wpAnyH_ready (rs := [17]) (by kernel_rfl) (by simp) ?_
          refine AllReadyH.cons rfl (fun K hK => ?_) AllReadyH.nil
          go_simp
          refine (HLE.out).mono ?_
          rintro e _ ⟨rfl, rfl⟩
          refine hK.out _ _ HS2.out (fun _ => ?_)
          clear hK K
          refine wpAnyH_take (i := 23) (v := ?v23) rfl (by kernel_rfl) (by kernel_rfl) (by kernel_rfl) (fun _ _ _ h => h) (Or.inl ⟨by rfl, ?h23⟩) HS2.out ?r23
          case h23 => (intro W hW; (try dsimp only at hW); go_simp; try with_reducible rfl)
          simp only [Act.put, List.getElem_toArray, List.getElem_cons_succ, List.getElem_cons_zero, List.setIfInBounds_toArray, List.set_cons_zero, List.set_cons_succ]
          refine wpAnyH_take (i := 24) (v := ?v24) rfl (by kernel_rfl) (by kernel_rfl) (by kernel_rfl) (fun _ _ _ h => h) (Or.inl ⟨by rfl, ?h24⟩) HS2.out ?r24
          case h24 => (intro W hW; (try dsimp only at hW); go_simp; try with_reducible rfl)
          simp only [Act.put, List.getElem_toArray, List.getElem_cons_succ, List.getElem_cons_zero, List.setIfInBounds_toArray, List.set_cons_zero, List.set_cons_succ]
          refine wpAnyH_take (i := 25) (v := ?v25) rfl (by kernel_rfl) (by kernel_rfl) (by kernel_rfl) (fun _ _ _ h => h) (Or.inl ⟨by rfl, ?h25⟩) HS2.out ?r25
          case h25 => (intro W hW; (try dsimp only at hW); go_simp; try with_reducible rfl)
          simp only [Act.put, List.getElem_toArray, List.getElem_cons_succ, List.getElem_cons_zero, List.setIfInBounds_toArray, List.set_cons_zero, List.set_cons_succ]
          refine wpAnyH_take (i := 26) (v := ?v26) rfl (by kernel_rfl) (by kernel_rfl) (by kernel_rfl) (fun _ _ _ h => h) (Or.inl ⟨by rfl, ?h26⟩) HS2.out ?r26
          case h26 => (intro W hW; (try dsimp only at hW); go_simp; try with_reducible rfl)
          simp only [Act.put, List.getElem_toArray, List.getElem_cons_succ, List.getElem_cons_zero, List.setIfInBounds_toArray, List.set_cons_zero, List.set_cons_succ]
          refine wpAnyH_take (i := 28) (v := ?v28) rfl (by kernel_rfl) (by kernel_rfl) (by kernel_rfl) (fun _ _ _ h => h) (Or.inl ⟨by rfl, ?h28⟩) HS2.out ?r28
          case h28 => (intro W hW; (try dsimp only at hW); go_simp; try with_reducible rfl)
          simp only [Act.put, List.getElem_toArray, List.getElem_cons_succ, List.getElem_cons_zero, List.setIfInBounds_toArray, List.set_cons_zero, List.set_cons_succ]
          refine wpAnyH_take (i := 30) (v := ?v30) rfl (by kernel_rfl) (by kernel_rfl) (by kernel_rfl) (fun _ _ _ h => h) (Or.inl ⟨by rfl, ?h30⟩) HS2.out ?r30
          case h30 => (intro W hW; (try dsimp only at hW); go_simp; try with_reducible rfl)
          simp only [Act.put, List.getElem_toArray, List.getElem_cons_succ, List.getElem_cons_zero, List.setIfInBounds_toArray, List.set_cons_zero, List.set_cons_succ]
          refine wpAnyH_take (i := 31) (v := ?v31) rfl (by kernel_rfl) (by kernel_rfl) (by kernel_rfl) (fun _ _ _ h => h) (Or.inl ⟨by rfl, ?h31⟩) HS2.out ?r31
          case h31 => (intro W hW; (try dsimp only at hW); go_simp; try with_reducible rfl)
          simp only [Act.put, List.getElem_toArray, List.getElem_cons_succ, List.getElem_cons_zero, List.setIfInBounds_toArray, List.set_cons_zero, List.set_cons_succ]
          refine wpAnyH_take (i := 32) (v := ?v32) rfl (by kernel_rfl) (by kernel_rfl) (by kernel_rfl) (fun _ _ _ h => h) (Or.inl ⟨by rfl, ?h32⟩) HS2.out ?r32
          case h32 => (intro W hW; (try dsimp only at hW); go_simp; try with_reducible rfl)
          simp only [Act.put, List.getElem_toArray, List.getElem_cons_succ, List.getElem_cons_zero, List.setIfInBounds_toArray, List.set_cons_zero, List.set_cons_succ]
          refine wpAnyH_take (i := 33) (v := ?v33) rfl (by kernel_rfl) (by kernel_rfl) (by kernel_rfl) (fun _ _ _ h => h) (Or.inl ⟨by rfl, ?h33⟩) HS2.out ?r33
          case h33 => (intro W hW; (try dsimp only at hW); go_simp; try with_reducible rfl)
          simp only [Act.put, List.getElem_toArray, List.getElem_cons_succ, List.getElem_cons_zero, List.setIfInBounds_toArray, List.set_cons_zero, List.set_cons_succ]
          refine wpAnyH_take (i := 34) (v := ?v34) rfl (by kernel_rfl) (by kernel_rfl) (by kernel_rfl) (fun _ _ _ h => h) (Or.inl ⟨by rfl, ?h34⟩) HS2.out ?r34
          case h34 => (intro W hW; (try dsimp only at hW); go_simp; try with_reducible rfl)
          simp only [Act.put, List.getElem_toArray, List.getElem_cons_succ, List.getElem_cons_zero, List.setIfInBounds_toArray, List.set_cons_zero, List.set_cons_succ]
          refine wpAnyH_ready (rs := [27]) (by kernel_rfl) (by simp) ?_
          refine AllReadyH.cons rfl (fun K hK => ?_) AllReadyH.nil
          go_simp
          refine (HWA.out).mono ?_
          rintro e _ ⟨rfl, m4, rfl⟩
          refine hK.out _ _ HS2.out (fun _ => ?_)
          clear hK K
          refine wpAnyH_ready (rs := [29]) (by kernel_rfl) (by simp) ?_
          refine AllReadyH.cons rfl (fun K hK => ?_) AllReadyH.nil
          go_simp
          refine (HUS.out m4).mono ?_
          rintro e _ ⟨rfl, rfl⟩
          refine hK.out _ _ HS2.out (fun _ => ?_)
          clear hK K
          refine wpAnyH_take (i := 35) (v := ?v35) rfl (by kernel_rfl) (by kernel_rfl) (by kernel_rfl) (fun _ _ _ h => h) (Or.inl ⟨by rfl, ?h35⟩) HS2.out ?r35
          case h35 => (intro W hW; (try dsimp only at hW); go_simp; try with_reducible rfl)
          simp only [Act.put, List.getElem_toArray, List.getElem_cons_succ, List.getElem_cons_zero, List.setIfInBounds_toArray, List.set_cons_zero, List.set_cons_succ]
          refine wpAnyH_take (i := 36) (v := ?v36) rfl (by kernel_rfl) (by kernel_rfl) (by kernel_rfl) (fun _ _ _ h => h) (Or.inl ⟨by rfl, ?h36⟩) HS2.out ?r36
          case h36 => (intro W hW; (try dsimp only at hW); go_simp; try with_reducible rfl)
          simp only [Act.put, List.getElem_toArray, List.getElem_cons_succ, List.getElem_cons_zero, List.setIfInBounds_toArray, List.set_cons_zero, List.set_cons_succ]
          refine wpAnyH_take (i := 37) (v := ?v37) rfl (by kernel_rfl) (by kernel_rfl) (by kernel_rfl) (fun _ _ _ h => h) (Or.inl ⟨by rfl, ?h37⟩) HS2.out ?r37
          case h37 => (intro W hW; (try dsimp only at hW); go_simp; try with_reducible rfl)
          simp only [Act.put, List.getElem_toArray, List.getElem_cons_succ, List.getElem_cons_zero, List.setIfInBounds_toArray, List.set_cons_zero, List.set_cons_succ]
          refine wpAnyH_take (i := 38) (v := ?v38) rfl (by kernel_rfl) (by kernel_rfl) (by kernel_rfl) (fun _ _ _ h => h) (Or.inl ⟨by rfl, ?h38⟩) HS2.out ?r38
          case h38 => (intro W hW; (try dsimp only at hW); go_simp; try with_reducible rfl)
          simp only [Act.put, List.getElem_toArray, List.getElem_cons_succ, List.getElem_cons_zero, List.setIfInBounds_toArray, List.set_cons_zero, List.set_cons_succ]
          refine wpAnyH_take (i := 39) (v := ?v39) rfl (by kernel_rfl) (by kernel_rfl) (by kernel_rfl) (fun _ _ _ h => h) (Or.inl ⟨by rfl, ?h39⟩) HS2.out ?r39
          case h39 => (intro W hW; (try dsimp only at hW); go_simp; try with_reducible rfl)
          simp only [Act.put, List.getElem_toArray, List.getElem_cons_succ, List.getElem_cons_zero, List.setIfInBounds_toArray, List.set_cons_zero, List.set_cons_succ]
          refine wpAnyH_take (i := 40) (v := ?v40) rfl (by kernel_rfl) (by kernel_rfl) (by kernel_rfl) (fun _ _ _ h => h) (Or.inl ⟨by rfl, ?h40⟩) HS2.out ?r40
          case h40 => (intro W hW; (try dsimp only at hW); go_simp; try with_reducible rfl)
          simp only [Act.put, List.getElem_toArray, List.getElem_cons_succ, List.getElem_cons_zero, List.setIfInBounds_toArray, List.set_cons_zero, List.set_cons_succ]
          refine wpAnyH_take (i := 41) (v := ?v41) rfl (by kernel_rfl) (by kernel_rfl) (by kernel_rfl) (fun _ _ _ h => h) (Or.inl ⟨by rfl, ?h41⟩) HS2.out ?r41
          case h41 => (intro W hW; (try dsimp only at hW); go_simp; try with_reducible rfl)
          simp only [Act.put, List.getElem_toArray, List.getElem_cons_succ, List.getElem_cons_zero, List.setIfInBounds_toArray, List.set_cons_zero, List.set_cons_succ]
          refine wpAnyH_take (i := 42) (v := ?v42) rfl (by kernel_rfl) (by kernel_rfl) (by kernel_rfl) (fun _ _ _ h => h) (Or.inl ⟨by rfl, ?h42⟩) HS2.out ?r42
          case h42 => (intro W hW; (try dsimp only at hW); go_simp; try with_reducible rfl)
          simp only [Act.put, List.getElem_toArray, List.getElem_cons_succ, List.getElem_cons_zero, List.setIfInBounds_toArray, List.set_cons_zero, List.set_cons_succ]
          refine wpAnyH_take (i := 44) (v := ?v44) rfl (by kernel_rfl) (by kernel_rfl) (by kernel_rfl) (fun _ _ _ h => h) (Or.inl ⟨by rfl, ?h44⟩) HS2.out ?r44
          case h44 => (intro W hW; (try dsimp only at hW); go_simp; try with_reducible rfl)
          simp only [Act.put, List.getElem_toArray, List.getElem_cons_succ, List.getElem_cons_zero, List.setIfInBounds_toArray, List.set_cons_zero, List.set_cons_succ]
          refine wpAnyH_take (i := 45) (v := ?v45) rfl (by kernel_rfl) (by kernel_rfl) (by kernel_rfl) (fun _ _ _ h => h) (Or.inl ⟨by rfl, ?h45⟩) HS2.out ?r45
          case h45 => (intro W hW; (try dsimp only at hW); go_simp; try with_reducible rfl)
          simp only [Act.put, List.getElem_toArray, List.getElem_cons_succ, List.getElem_cons_zero, List.setIfInBounds_toArray, List.set_cons_zero, List.set_cons_succ]
          refine wpAnyH_take (i := 46) (v := ?v46) rfl (by kernel_rfl) (by kernel_rfl) (by kernel_rfl) (fun _ _ _ h => h) (Or.inl ⟨by rfl, ?h46⟩) HS2.out ?r46
          case h46 => (intro W hW; (try dsimp only at hW); go_simp; try with_reducible rfl)
          simp only [Act.put, List.getElem_toArray, List.getElem_cons_succ, List.getElem_cons_zero, List.setIfInBounds_toArray, List.set_cons_zero, List.set_cons_succ]
          refine wpAnyH_take (i := 47) (v := ?v47) rfl (by kernel_rfl) (by kernel_rfl) (by kernel_rfl) (fun _ _ _ h => h) (Or.inl ⟨by rfl, ?h47⟩) HS2.out ?r47
          case h47 => (intro W hW; (try dsimp only at hW); go_simp; try with_reducible rfl)
          simp only [Act.put, List.getElem_toArray, List.getElem_cons_succ, List.getElem_cons_zero, List.setIfInBounds_toArray, List.set_cons_zero, List.set_cons_succ]
          refine wpAnyH_ready (rs := [43]) (by kernel_rfl) (by simp) ?_
          refine AllReadyH.cons rfl (fun K hK => ?_) AllReadyH.nil
          go_simp
          refine (HON.out m4).mono ?_
          rintro e _ ⟨rfl, rfl⟩
          refine hK.out _ _ HS2.out (fun _ => ?_)
          clear hK K
          refine wpAnyH_take (i := 48) (v := ?v48) rfl (by kernel_rfl) (by kernel_rfl) (by kernel_rfl) (fun _ _ _ h => h) (Or.inl ⟨by rfl, ?h48⟩) HS2.out ?r48
          case h48 => (intro W hW; (try dsimp only at hW); go_simp; try with_reducible rfl)
          simp only [Act.put, List.getElem_toArray, List.getElem_cons_succ, List.getElem_cons_zero, List.setIfInBounds_toArray, List.set_cons_zero, List.set_cons_succ]
          refine wpAnyH_take (i := 49) (v := ?v49) rfl (by kernel_rfl) (by kernel_rfl) (by kernel_rfl) (fun _ _ _ h => h) (Or.inl ⟨by rfl, ?h49⟩) HS2.out ?r49
          case h49 => (intro W hW; (try dsimp only at hW); go_simp; try with_reducible rfl)
          simp only [Act.put, List.getElem_toArray, List.getElem_cons_succ, List.getElem_cons_zero, List.setIfInBounds_toArray, List.set_cons_zero, List.set_cons_succ]
          refine wpAnyH_done (by kernel_rfl) ?_ _
          go_wp2
          go_roundg (n - (j + 1))
          case measure => have := HGK.out; omega
          case rel => exact ⟨j + 1, s2, t2, F2, G2, rfl, by omega, by go_num, Lib.hid (HNX.out m4)⟩
      · have hjn : j = n := by omega
        subst hjn
        go_wp2
        go_ret
        exact ⟨rfl, HBR.out⟩

end Go.Proofs.Ytpkfpdklolkgeaa
