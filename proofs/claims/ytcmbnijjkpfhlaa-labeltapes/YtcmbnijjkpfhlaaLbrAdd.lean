/- The contract of a library's Add. -/
import Derived.Test.YtcmbnijjkpfhlaaLbrOps
import Derived.Deep.AppendLies
namespace Go.Proofs.Ytcmbnijjkpfhlaa
open Go.RowKit
set_option linter.unusedSimpArgs false

theorem infoG : (Try.prog.info? 65).map (fun i => (i.zero, i.size, i.bytes)) = some (some (.pointer none), 1, 8) := by kernel_rfl

theorem ladd_nil (w : World) (r y : Int) (aW aR : Option Addr) (nW cW nR cR : Nat) :
    Calls Try.prog 19 #[.pointer none, .agg #[.int .i64 r, .int .i64 y, .slice aW nW cW, .slice aR nR cR]] w fun e w' => e = .returned (.tuple #[.int .i64 0, .int .i64 1]) ∧ Below w.heap.size w w' := by
  have HB : Hid (∀ o, Below w.heap.size w (w.alloc o)) := Lib.hid fun o => Below.alloc0 w o
  go_enter Try.func19, Try.ntmps19
  go_wp2
  go_ret2
  exact ⟨rfl, HB.out _⟩

section
variable {w : World} {gl gp : Nat} {s : Pw} {d : Option Nat} {n : Nat} {g : Nat → Nat} {t : Nat → Tst} {F : Nat → List Nat} {v : Value} {H : List Nat}

theorem ladd_full (h : Lbr w gl gp s d n g t F v H) (hn : n = 64) (r y : Int) (aW aR : Option Addr) (nW cW nR cR : Nat) :
    Calls Try.prog 19 #[.pointer (some ⟨gl, 0, none⟩), .agg #[.int .i64 r, .int .i64 y, .slice aW nW cW, .slice aR nR cR]] w fun e w' => e = .returned (.tuple #[.int .i64 0, .int .i64 1]) ∧ Below w.heap.size w w' := by
  have HB : Hid (∀ o, Below w.heap.size w (w.alloc o)) := Lib.hid fun o => Below.alloc0 w o
  have c2 : ∀ o, (w.alloc o).cell? ⟨gl, 2, none⟩ = some v := fun o => Lib.cell?_alloc_some _ h.cells.2.2
  obtain ⟨a, c, rfl, _, _⟩ := h.shape
  subst hn
  clear h
  go_enter Try.func19, Try.ntmps19
  go_wp2
  go_ret2
  exact ⟨rfl, HB.out _⟩

/-- The box of a plan. -/
def plnObj (r y : Int) (vW vR : Value) : Obj := .cells #[.int .i64 r, .int .i64 y, vW, vR] 42

theorem pln_cells {W : World} {gb : Nat} {r y : Int} {vW vR : Value} (h : W.heap[gb]? = some (plnObj r y vW vR)) :
    W.cell? ⟨gb, 0, none⟩ = some (.int .i64 r) ∧ W.cell? ⟨gb, 1, none⟩ = some (.int .i64 y) ∧ W.cell? ⟨gb, 2, none⟩ = some vW ∧ W.cell? ⟨gb, 3, none⟩ = some vR := by
  refine ⟨?_, ?_, ?_, ?_⟩ <;> rw [cell_of_row W gb _ _ 42 (0, 0) h] <;> rfl

theorem pln_soft {W : World} {gb : Nat} {r y : Int} {vW vR : Value} (h : W.heap[gb]? = some (plnObj r y vW vR)) (i : Nat) : W.frozen? ⟨gb, i, none⟩ = false := by
  simp [World.frozen?, h, plnObj]

theorem plnlay0 {w : World} {gb : Nat} {r y : Int} {vW vR : Value} (h : w.heap[gb]? = some (plnObj r y vW vR)) (x : Int) : w.setCell ⟨gb, 0, none⟩ (.int .i64 x) = put w gb (plnObj x y vW vR) := set_put _ h
theorem plnlay1 {w : World} {gb : Nat} {r y : Int} {vW vR : Value} (h : w.heap[gb]? = some (plnObj r y vW vR)) (x : Int) : w.setCell ⟨gb, 1, none⟩ (.int .i64 x) = put w gb (plnObj r x vW vR) := set_put _ h

set_option maxHeartbeats 1000000 in
theorem ladd_bad (h : Lbr w gl gp s d n g t F v H) (hn : n < 64) (r y : Int) (aW aR : Option Addr) (nW cW nR cR : Nat) (hbad : r < 1 ∨ 16777216 < r ∨ y < 0 ∨ r < y) :
    Calls Try.prog 19 #[.pointer (some ⟨gl, 0, none⟩), .agg #[.int .i64 r, .int .i64 y, .slice aW nW cW, .slice aR nR cR]] w fun e w' => e = .returned (.tuple #[.int .i64 0, .int .i64 1]) ∧ Below w.heap.size w w' := by
  obtain ⟨w1, h1⟩ : ∃ w1, w1 = w.alloc (plnObj r y (.slice aW nW cW) (.slice aR nR cR)) := ⟨_, rfl⟩
  obtain ⟨gb, hgb⟩ : ∃ gb, gb = w.heap.size := ⟨_, rfl⟩
  have hob : w1.heap[gb]? = some (plnObj r y (.slice aW nW cW) (.slice aR nR cR)) := by rw [h1, hgb]; exact heap_alloc_new w _
  have hbe : Below w.heap.size w w1 := by rw [h1]; exact Below.alloc0 _ _
  have hL := h.later hbe
  have HBC : ∀ W, Below w1.heap.size w1 W → W.cell? ⟨gb, 0, none⟩ = some (.int .i64 r) ∧ W.cell? ⟨gb, 1, none⟩ = some (.int .i64 y) ∧ W.cell? ⟨gb, 2, none⟩ = some (.slice aW nW cW) ∧ W.cell? ⟨gb, 3, none⟩ = some (.slice aR nR cR) ∧ W.cell? ⟨gl, 1, none⟩ = some (.pointer (some ⟨gp, 0, none⟩)) := by
    intro W hb
    obtain ⟨x0, x1, x2, x3⟩ := pln_cells ((hb.block gb (lt_of_block hob)).trans hob)
    exact ⟨x0, x1, x2, x3, (hL.later hb).cells.2.1⟩
  have HT : Hid (∀ W, Below w1.heap.size w1 W → Calls Try.prog 40 #[.agg #[.int .i64 r, .int .i64 y, .slice aW nW cW, .slice aR nR cR], .pointer (some ⟨gp, 0, none⟩)] W fun e w' => e = .returned (.tuple #[.pointer none, .int .i64 1]) ∧ (w'.cell? ⟨gb, 0, none⟩ = some (.int .i64 r) ∧ w'.cell? ⟨gb, 1, none⟩ = some (.int .i64 y) ∧ w'.cell? ⟨gb, 2, none⟩ = some (.slice aW nW cW) ∧ w'.cell? ⟨gb, 3, none⟩ = some (.slice aR nR cR) ∧ w'.cell? ⟨gl, 1, none⟩ = some (.pointer (some ⟨gp, 0, none⟩))) ∧ Hid (Below w.heap.size w w')) := by
    refine Lib.hid fun W hb => (tnew_no W r y aW aR nW cW nR cR (some ⟨gp, 0, none⟩) (by rcases hbad with h | h | h | h <;> simp [h])).mono ?_
    rintro e w' ⟨rfl, h2⟩
    have h3 := hb.trans (h2.mono hb.size)
    exact ⟨rfl, HBC w' h3, Lib.hid (hbe.trans (h3.mono hbe.size))⟩
  obtain ⟨x0, x1, x2, x3, x4⟩ := HBC w1 (Below.refl _ _)
  have x5 := hL.cells.2.2
  obtain ⟨a, c, rfl, _, _⟩ := h.shape
  have hne : ((n : Int) == 64) = false := by simp; omega
  have HW := Lib.hid (And.intro h1 hgb)
  clear h hL hob hbe HBC h1 hgb hbad hn
  go_enter Try.func19, Try.ntmps19
  go_upto_region 1 with fail
  change Code.wp _ _ _ _ (w.alloc (plnObj r y (.slice aW nW cW) (.slice aR nR cR)))
  rw [← HW.out.1, ← HW.out.2]
  go_upto_region 3 with fail
  go_region_held3 (fun W => W.cell? ⟨gb, 0, none⟩ = some (.int .i64 r) ∧ W.cell? ⟨gb, 1, none⟩ = some (.int .i64 y) ∧ W.cell? ⟨gb, 2, none⟩ = some (.slice aW nW cW) ∧ W.cell? ⟨gb, 3, none⟩ = some (.slice aR nR cR) ∧ W.cell? ⟨gl, 1, none⟩ = some (.pointer (some ⟨gp, 0, none⟩)))
    (first | exact ⟨x0, x1, x2, x3, x4⟩ | exact k1 | go_keep)
    ((go_at_call 40; refine (HT.out _ (Below.refl _ _).drew).mono ?_; rintro e w2 ⟨rfl, k1, H2⟩))
  go_wp2
  go_ret2
  exact ⟨rfl, H2.out⟩

theorem ladd_no (h : Lbr w gl gp s d n g t F v H) (r y : Int) (aW aR : Option Addr) (nW cW nR cR : Nat) (hbad : n = 64 ∨ r < 1 ∨ 16777216 < r ∨ y < 0 ∨ r < y) :
    Calls Try.prog 19 #[.pointer (some ⟨gl, 0, none⟩), .agg #[.int .i64 r, .int .i64 y, .slice aW nW cW, .slice aR nR cR]] w fun e w' => e = .returned (.tuple #[.int .i64 0, .int .i64 1]) ∧ Below w.heap.size w w' := by
  by_cases hn : n = 64
  · exact ladd_full h hn r y aW aR nW cW nR cR
  · exact ladd_bad h (by have := h.le; omega) r y aW aR nW cW nR cR (hbad.elim (fun e => absurd e hn) id)

/-- A tape laid into the next slot. -/
theorem Lbr.added {w7 : World} (h : Lbr w gl gp s d n g t F v H) (hn : n < 64) {gt B gg cap : Nat} {t0 : Tst} {F' : List Nat} {o : Obj} (hT : Tap w gt gp s t0 F') (hHB : ∀ k ∈ H, k < B) (hFB : ∀ k ∈ F', B ≤ k)
    (hown : w7.ownsRow 0 65 1 (.slice (some ⟨gg, 0, none⟩) (n + 1) cap) (n + 1) (cG g n ++ [.pointer (some ⟨gt, 0, none⟩)])) (hg : (w.alloc o).grownBy w7 v.ownBlock) (hat : v.ownBlock = some gg ∨ gg = (w.alloc o).heap.size) :
    Lbr (w7.setCell ⟨gl, 2, none⟩ (.slice (some ⟨gg, 0, none⟩) (n + 1) cap)) gl gp s d (n + 1) (upd g n gt) (upd t n t0) (upd F n F') (.slice (some ⟨gg, 0, none⟩) (n + 1) cap) (gg :: (H ++ F')) ∧ Save H w (w7.setCell ⟨gl, 2, none⟩ (.slice (some ⟨gg, 0, none⟩) (n + 1) cap)) ∧ (gg ∈ H ∨ w.heap.size ≤ gg) := by
  have hsa : (w.alloc o).heap.size = w.heap.size + 1 := by simp
  have hsz : w.heap.size ≤ w7.heap.size := Nat.le_trans (by omega) hg.size
  have hgl := h.lt gl h.fo
  have hglB := hHB gl h.fo
  have hold : ∀ k, k < w.heap.size → v.ownBlock ≠ some k → w7.heap[k]? = w.heap[k]? := fun k hk hne =>
    (hg.block k (by omega) (fun e => hne e.symm)).trans (heap_alloc_old w o hk)
  have hglv : v.ownBlock ≠ some gl := fun e => (h.fv gl e).2 rfl
  have ho7 : w7.heap[gl]? = some (libObj (drvA g d) gp v) := (hold gl hgl hglv).trans h.obj
  have hgg : gg ≠ gl := by
    rintro rfl
    rcases hat with hat | hat
    · exact hglv hat
    · omega
  have hggF : ∀ k, k = gg → v.ownBlock = some k ∨ w.heap.size ≤ k := by
    rintro k rfl
    rcases hat with hat | hat
    · exact .inl hat
    · exact .inr (by omega)
  have e8 : w7.setCell ⟨gl, 2, none⟩ (.slice (some ⟨gg, 0, none⟩) (n + 1) cap) = put w7 gl (libObj (drvA g d) gp (.slice (some ⟨gg, 0, none⟩) (n + 1) cap)) := set_put _ ho7
  rw [e8]
  have hk : ∀ k, k < w.heap.size → k ≠ gl → v.ownBlock ≠ some k → (put w7 gl (libObj (drvA g d) gp (.slice (some ⟨gg, 0, none⟩) (n + 1) cap))).heap[k]? = w.heap[k]? := fun k hk h1 h2 =>
    (put_other h1).trans (hold k hk h2)
  have hs8 : Save H w (put w7 gl (libObj (drvA g d) gp (.slice (some ⟨gg, 0, none⟩) (n + 1) cap))) := by
    have h7 : Save H w w7 := ⟨hg.os, hg.tape, hg.output, hsz, fun k hk hx => hold k hk (fun e => hx (h.fv k e).1)⟩
    exact h7.put h.fo _
  have hfl : ∀ k ∈ F', k < w.heap.size := by
    obtain ⟨v, X, bW, bR, h⟩ := hT
    exact h.fl
  have hfp : gp ∉ F' := by
    obtain ⟨v, X, bW, bR, h⟩ := hT
    exact h.fp
  have hgp := h.pow.lt
  have hpv : v.ownBlock ≠ some gp := fun e => h.fp (h.fv gp e).1
  have hgpl : gp ≠ gl := by rintro rfl; exact h.fp h.fo
  have hp8 : Pow (put w7 gl (libObj (drvA g d) gp (.slice (some ⟨gg, 0, none⟩) (n + 1) cap))) gp s := (hk gp hgp hgpl hpv).trans h.pow
  have hvB : ∀ k, v.ownBlock = some k → k < B := fun k e => hHB k (h.fv k e).1
  refine ⟨⟨?_, hp8, ?_, ?_, ?_, ?_, ?_, ?_, by simp [h.fo], ?_, by omega, ?_⟩, hs8, (hggF gg rfl).imp (fun e => (h.fv gg e).1) id⟩
  · have e : drvA (upd g n gt) d = drvA g d := by
      cases d with
      | none => rfl
      | some i => simp [drvA, upd_other _ _ (Nat.ne_of_lt (h.drv i rfl))]
    rw [e]
    exact put_same ho7
  · have e : cG (upd g n gt) (n + 1) = cG g n ++ [.pointer (some ⟨gt, 0, none⟩)] := by
      rw [cG_succ, upd_same, cG_congr (g' := g) (fun i hi => upd_other _ _ (by omega))]
    rw [e]
    exact ownsRow_kept hown (fun b hb _ => by injection hb with hb; rw [← hb]; exact put_other hgg)
  · intro j hj
    by_cases e : j = n
    · subst e
      rw [upd_same, upd_same, upd_same]
      refine hT.kept (by rw [put_size]; exact hsz) (fun k hk1 hk2 => hk k hk2 ?_ ?_) hp8
      · have := hFB k hk1; omega
      · intro e; have := hFB k hk1; have := hvB k e; omega
    · rw [upd_other _ _ e, upd_other _ _ e, upd_other _ _ e]
      have hj' : j < n := by omega
      exact (h.taps j hj').kept (by rw [put_size]; exact hsz) (fun k hk1 hk2 => hk k hk2 (h.fit j hj' k hk1).2.1 (h.fit j hj' k hk1).2.2) hp8
  · intro a b ha hb hne k hk1 hk2
    by_cases ea : a = n
    · subst ea
      rw [upd_same] at hk1
      rw [upd_other _ _ (Ne.symm hne)] at hk2
      have h1 := hFB k hk1
      have h2 := hHB k (h.fit b (by omega) k hk2).1
      omega
    · rw [upd_other _ _ ea] at hk1
      by_cases eb : b = n
      · subst eb
        rw [upd_same] at hk2
        have h1 := hFB k hk2
        have h2 := hHB k (h.fit a (by omega) k hk1).1
        omega
      · rw [upd_other _ _ eb] at hk2
        exact h.dis a b (by omega) (by omega) hne k hk1 hk2
  · intro i hi
    have := h.drv i hi
    omega
  · intro j hj k hk1
    by_cases e : j = n
    · subst e
      rw [upd_same] at hk1
      have h1 := hFB k hk1
      have h2 := hfl k hk1
      refine ⟨by simp [hk1], by omega, fun e => ?_⟩
      injection e with e
      rcases hggF k e.symm with h3 | h3
      · have := hvB k h3; omega
      · omega
    · rw [upd_other _ _ e] at hk1
      have hj' : j < n := by omega
      obtain ⟨h1, h2, h3⟩ := h.fit j hj' k hk1
      refine ⟨by simp [h1], h2, fun e => ?_⟩
      injection e with e
      rcases hggF k e.symm with h4 | h4
      · exact h3 h4
      · have := h.lt k h1; omega
  · intro b hb
    injection hb with hb
    rw [← hb]
    exact ⟨by simp, hgg⟩
  · simp only [List.mem_cons, List.mem_append, not_or]
    refine ⟨fun e => ?_, h.fp, hfp⟩
    rcases hggF gp e with h4 | h4
    · exact hpv h4
    · omega
  · intro k hk1
    rw [put_size]
    simp only [List.mem_cons, List.mem_append] at hk1
    rcases hk1 with rfl | h1 | h1
    · rcases hown.2 with ⟨hv, _⟩ | ⟨g', cap', cur, hv, _, hgo, _⟩
      · cases hv
      · injection hv with hv
        injection hv with hv
        injection hv with hv
        rw [hv]
        exact lt_of_block hgo
    · exact Nat.lt_of_lt_of_le (h.lt k h1) hsz
    · exact Nat.lt_of_lt_of_le (hfl k h1) hsz

set_option maxHeartbeats 1000000 in
theorem ladd_yes (h : Lbr w gl gp s d n g t F v H) (hn : n < 64) (r y : Nat) (aW aR : Option Addr) (nW cW nR cR : Nat) (LW LR : List Int) (hr1 : 1 ≤ r) (hr2 : r ≤ 16777216) (hy : y ≤ r) (hW : RdI w aW nW LW) (hR : RdI w aR nR LR) (hnW : nW ≤ 1000000) (hnR : nR ≤ 1000000) :
    Calls Try.prog 19 #[.pointer (some ⟨gl, 0, none⟩), .agg #[.int .i64 (r : Int), .int .i64 (y : Int), .slice aW nW cW, .slice aR nR cR]] w fun e w' => e = .returned (.tuple #[.int .i64 (n : Int), .int .i64 0]) ∧ ∃ gt F' v' H', Lbr w' gl gp s d (n + 1) (upd g n gt) (upd t n ⟨r, y, LW, LR, [], 0⟩) (upd F n F') v' H' ∧ Save H w w' ∧ ∀ k ∈ H', k ∈ H ∨ w.heap.size ≤ k := by
  obtain ⟨i0, hi0, hz0, hz1, hz2⟩ := info_parts infoG
  obtain ⟨w1, h1⟩ : ∃ w1, w1 = w.alloc (plnObj (r : Int) (y : Int) (.slice aW nW cW) (.slice aR nR cR)) := ⟨_, rfl⟩
  obtain ⟨gb, hgb⟩ : ∃ gb, gb = w.heap.size := ⟨_, rfl⟩
  have hob : w1.heap[gb]? = some (plnObj (r : Int) (y : Int) (.slice aW nW cW) (.slice aR nR cR)) := by rw [h1, hgb]; exact heap_alloc_new w _
  have hbe : Below w.heap.size w w1 := by rw [h1]; exact Below.alloc0 _ _
  have hL := h.later hbe
  have HBC : ∀ W, Below w1.heap.size w1 W → W.cell? ⟨gb, 0, none⟩ = some (.int .i64 (r : Int)) ∧ W.cell? ⟨gb, 1, none⟩ = some (.int .i64 (y : Int)) ∧ W.cell? ⟨gb, 2, none⟩ = some (.slice aW nW cW) ∧ W.cell? ⟨gb, 3, none⟩ = some (.slice aR nR cR) ∧ W.cell? ⟨gl, 1, none⟩ = some (.pointer (some ⟨gp, 0, none⟩)) := by
    intro W hb
    obtain ⟨x0, x1, x2, x3⟩ := pln_cells ((hb.block gb (lt_of_block hob)).trans hob)
    exact ⟨x0, x1, x2, x3, (hL.later hb).cells.2.1⟩
  have HT : Hid (∀ W, Below w1.heap.size w1 W → Calls Try.prog 40 #[.agg #[.int .i64 (r : Int), .int .i64 (y : Int), .slice aW nW cW, .slice aR nR cR], .pointer (some ⟨gp, 0, none⟩)] W fun e w' => ∃ gt, e = .returned (.tuple #[.pointer (some ⟨gt, 0, none⟩), .int .i64 0]) ∧ (w'.cell? ⟨gb, 0, none⟩ = some (.int .i64 (r : Int)) ∧ w'.cell? ⟨gb, 1, none⟩ = some (.int .i64 (y : Int)) ∧ w'.cell? ⟨gb, 2, none⟩ = some (.slice aW nW cW) ∧ w'.cell? ⟨gb, 3, none⟩ = some (.slice aR nR cR) ∧ w'.cell? ⟨gl, 1, none⟩ = some (.pointer (some ⟨gp, 0, none⟩))) ∧ Hid (Below w1.heap.size w1 w' ∧ ∃ F', Tap w' gt gp s ⟨r, y, LW, LR, [], 0⟩ F' ∧ ∀ k ∈ F', w1.heap.size ≤ k)) := by
    refine Lib.hid fun W hb => (tnew_yes W r y gp aW aR nW cW nR cR LW LR s hr1 hr2 hy ((hW.later hbe).later hb) ((hR.later hbe).later hb) hnW hnR (hL.later hb).pow).mono ?_
    rintro e w' ⟨gt, F', rfl, h2, h3, h4⟩
    have h5 := hb.trans (h3.mono hb.size)
    exact ⟨gt, rfl, HBC w' h5, Lib.hid ⟨h5, F', h2, fun k hk => Nat.le_trans hb.size (h4 k hk)⟩⟩
  have HL := Lib.hid (And.intro hL (And.intro hbe hn))
  obtain ⟨x0, x1, x2, x3, x4⟩ := HBC w1 (Below.refl _ _)
  have x5 := hL.cells.2.2
  obtain ⟨a, c, hv, _, _⟩ := h.shape
  have HV := Lib.hid hv
  rw [hv] at x5
  have hne : ((n : Int) == 64) = false := by simp; omega
  have HW := Lib.hid (And.intro h1 hgb)
  clear h hL hob hbe HBC h1 hgb hr1 hr2 hy hW hR hnW hnR hv
  go_enter Try.func19, Try.ntmps19
  go_upto_region 1 with fail
  change Code.wp _ _ _ _ (w.alloc (plnObj (r : Int) (y : Int) (.slice aW nW cW) (.slice aR nR cR)))
  rw [← HW.out.1, ← HW.out.2]
  go_upto_region 3 with fail
  go_region_held3 (fun W => W.cell? ⟨gb, 0, none⟩ = some (.int .i64 (r : Int)) ∧ W.cell? ⟨gb, 1, none⟩ = some (.int .i64 (y : Int)) ∧ W.cell? ⟨gb, 2, none⟩ = some (.slice aW nW cW) ∧ W.cell? ⟨gb, 3, none⟩ = some (.slice aR nR cR) ∧ W.cell? ⟨gl, 1, none⟩ = some (.pointer (some ⟨gp, 0, none⟩)))
    (first | exact ⟨x0, x1, x2, x3, x4⟩ | exact k1 | go_keep)
    ((go_at_call 40; refine (HT.out _ (Below.refl _ _).drew).mono ?_; rintro e w2 ⟨gt, rfl, k1, H2⟩))
  clear x0 x1 x2 x3 x4 x5 k1 HT hne
  have HL2 : Hid (Lbr w2 gl gp s d n g t F v H) := Lib.hid (HL.out.1.later H2.out.1)
  have y2 : ∀ o, (w2.alloc o).cell? ⟨gl, 2, none⟩ = some v := fun o => Lib.cell?_alloc_some _ HL2.out.cells.2.2
  have z2 := HL2.out.cells.2.2
  have hmx : n + 1 ≤ maxLen := by unfold maxLen; omega
  have hby : (n + 1) * 8 ≤ 140737488355328 := by omega
  go_wp2_with (at_builtin; refine wpList_append_lies _ rfl (.tmp 34) (.tmp 36) 66 rfl 0 65 i0 _ 1 8 Try.underlying66 hi0 hz0 hz1 hz2 rfl (by omega) v n (cG g n) rfl ?own ⟨w2.heap.size, 0, none⟩ 1 1 [.pointer (some ⟨gt, 0, none⟩)] rfl rfl (World.news_of_block (cs := #[.pointer (some ⟨gt, 0, none⟩)]) (t := 65) (fr := (0, 0)) (heap_alloc_new w2 _)) (by simp [Value.oneCell']) (by omega) hmx hby (Nat.zero_le _) _ rfl ?nxt)
  case own => exact HL2.out.row.alloc _
  case nxt =>
    intro gg cap w7 hown hgrow hat hlt
    have hglt := HL2.out.lt gl HL2.out.fo
    have h7 : w7.heap[gl]? = some (libObj (drvA g d) gp v) := by
      refine (hgrow.block gl (by simp; omega) (fun e => (HL2.out.fv gl e.symm).2 rfl)).trans ?_
      exact (heap_alloc_old w2 _ hglt).trans HL2.out.obj
    have z7 : w7.cell? ⟨gl, 2, none⟩ = some v := by rw [cell_of_row w7 gl _ _ 68 (0, 0) h7]; rfl
    have f7 : w7.frozen? ⟨gl, 2, none⟩ = false := by simp [World.frozen?, h7, libObj]
    have HR7 := Lib.hid (And.intro hown (And.intro hgrow hat))
    have hsub : IntKind.i64.wrap (((n + 1 : Nat) : Int) - 1) = (n : Int) := by rw [IntKind.wrap_i64] <;> omega
    clear hown hgrow hat hlt h7 y2 z2 hglt hmx hby
    go_wp2
    go_ret2
    refine ⟨rfl, ?_⟩
    obtain ⟨hb2, F', hT, hF'⟩ := H2.out
    obtain ⟨hL1, hbe, hn⟩ := HL.out
    obtain ⟨q1, q2, q3⟩ := HL2.out.added hn hT (B := w1.heap.size) (hL1.lt) hF' HR7.out.1 HR7.out.2.1 (by simpa using HR7.out.2.2)
    have hs1 := hbe.size
    have hs2 := hb2.size
    refine ⟨gt, F', _, _, q1, ?_, ?_⟩
    · exact (Save.of_below (hbe.trans (hb2.mono hs1)) H).trans q2
    · intro k hk
      simp only [List.mem_cons, List.mem_append] at hk
      rcases hk with rfl | hk | hk
      · exact q3.imp id (fun h => by omega)
      · exact .inl hk
      · exact .inr (Nat.le_trans hs1 (hF' k hk))

end

end Go.Proofs.Ytcmbnijjkpfhlaa
