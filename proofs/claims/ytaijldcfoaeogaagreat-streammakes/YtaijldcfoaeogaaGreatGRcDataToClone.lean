/- Is a record one? A Data record; valid's contract for all kinds, over any world. -/
import Derived.Test.YtaijldcfoaeogaaGreatRcValid
import Derived.Test.YtaijldcfoaeogaaGreatReadyC
import Derived.Test.YtaijldcfoaeogaaGreatGMemToRcEq
namespace Go.Proofs.YtaijldcfoaeogaaGreat
open Go.RowKit
set_option maxRecDepth 100000
set_option linter.unusedSimpArgs false

set_option maxHeartbeats 4000000 in
set_option maxRecDepth 100000 in
theorem valid_data (i b f t c : Int) (l : List Nat) (dn ds : Nat) (a : Option Addr) (n cap : Nat) (w : World) (h : Rd w a n l) :
    Calls Tryz.prog 59 #[rcV ⟨2, i, b, f, t, l, c, dn, ds⟩ a n cap] w fun e w' => e = .returned (.bool (isRunB f t && (decide (t - f ≤ 4) && (decide ((l.length : Int) = (t - f) * 32) && Rec.eq ⟨2, i, b, f, t, l, c, dn, ds⟩ ⟨2, 0, 0, f, t, l, 0, 0, 0⟩)))) ∧ Below w.heap.size w w' := by
  obtain ⟨E, hE⟩ : ∃ E, E = Rec.eq ⟨2, i, b, f, t, l, c, dn, ds⟩ ⟨2, 0, 0, f, t, l, 0, 0, 0⟩ := ⟨_, rfl⟩
  obtain ⟨w0, hw0⟩ : ∃ w0, w0 = w.alloc (.cells #[.int .u8 2, .int .i64 i, .int .i64 b, .int .i64 f, .int .i64 t, .slice a n cap, .int .i64 c, .int .u64 (dn : Int), .int .u64 (ds : Int)] 57) := ⟨_, rfl⟩
  obtain ⟨q, hq⟩ : ∃ q, q = w.heap.size := ⟨_, rfl⟩
  have HW : Hid (w.alloc (.cells #[.int .u8 2, .int .i64 i, .int .i64 b, .int .i64 f, .int .i64 t, .slice a n cap, .int .i64 c, .int .u64 (dn : Int), .int .u64 (ds : Int)] 57) = w0 ∧ w.heap.size = q) := Lib.hid ⟨hw0.symm, hq.symm⟩
  have hbw : Below q w w0 := by rw [hw0, hq]; exact Below.alloc0 _ _
  have hblk : w0.heap[q]? = some (.cells #[.int .u8 2, .int .i64 i, .int .i64 b, .int .i64 f, .int .i64 t, .slice a n cap, .int .i64 c, .int .u64 (dn : Int), .int .u64 (ds : Int)] 57 (0, 0)) := by rw [hw0, hq]; exact heap_alloc_new w _
  have hsz : w0.heap.size = q + 1 := by rw [hw0, hq]; simp
  have hr0 : Rd w0 a n l := by rw [hw0]; exact h.later (Below.alloc0 _ _)
  have HK : Hid (∀ W, Below w0.heap.size w0 W → W.cell? ⟨q, 0, none⟩ = some (.int .u8 2) ∧ W.cell? ⟨q, 1, none⟩ = some (.int .i64 i) ∧ W.cell? ⟨q, 2, none⟩ = some (.int .i64 b) ∧ W.cell? ⟨q, 3, none⟩ = some (.int .i64 f) ∧ W.cell? ⟨q, 4, none⟩ = some (.int .i64 t) ∧ W.cell? ⟨q, 5, none⟩ = some (.slice a n cap) ∧ W.cell? ⟨q, 6, none⟩ = some (.int .i64 c) ∧ W.cell? ⟨q, 7, none⟩ = some (.int .u64 (dn : Int)) ∧ W.cell? ⟨q, 8, none⟩ = some (.int .u64 (ds : Int))) := by
    refine Lib.hid fun W hW => ?_
    have hx := (hW.block q (by omega)).trans hblk
    refine ⟨?_, ?_, ?_, ?_, ?_, ?_, ?_, ?_, ?_⟩ <;> simp [World.cell?, hx]
  have HI : Hid (∀ W, Below w0.heap.size w0 W → Calls Tryz.prog 78 #[.agg #[.int .i64 f, .int .i64 t]] W fun e w' => e = .returned (.bool (isRunB f t)) ∧ (w'.cell? ⟨q, 0, none⟩ = some (.int .u8 2) ∧ w'.cell? ⟨q, 1, none⟩ = some (.int .i64 i) ∧ w'.cell? ⟨q, 2, none⟩ = some (.int .i64 b) ∧ w'.cell? ⟨q, 3, none⟩ = some (.int .i64 f) ∧ w'.cell? ⟨q, 4, none⟩ = some (.int .i64 t) ∧ w'.cell? ⟨q, 5, none⟩ = some (.slice a n cap) ∧ w'.cell? ⟨q, 6, none⟩ = some (.int .i64 c) ∧ w'.cell? ⟨q, 7, none⟩ = some (.int .u64 (dn : Int)) ∧ w'.cell? ⟨q, 8, none⟩ = some (.int .u64 (ds : Int))) ∧ Hid (Below w0.heap.size w0 w')) := by
    refine Lib.hid fun W hW => (isRun_any f t W).mono ?_
    rintro e w' ⟨rfl, hb⟩
    have hx := hW.trans (hb.mono hW.size)
    exact ⟨rfl, HK.out _ hx, Lib.hid hx⟩
  have HS : Hid (∀ W, Below w0.heap.size w0 W → Calls Tryz.prog 53 #[.agg #[.int .u8 2, .int .i64 i, .int .i64 b, .int .i64 f, .int .i64 t, .slice a n cap, .int .i64 c, .int .u64 (dn : Int), .int .u64 (ds : Int)], .agg #[.int .u8 2, .int .i64 0, .int .i64 0, .int .i64 f, .int .i64 t, .slice a n cap, .int .i64 0, .int .u64 0, .int .u64 0]] W fun e w' => e = .returned (.bool E) ∧ (w'.cell? ⟨q, 0, none⟩ = some (.int .u8 2) ∧ w'.cell? ⟨q, 1, none⟩ = some (.int .i64 i) ∧ w'.cell? ⟨q, 2, none⟩ = some (.int .i64 b) ∧ w'.cell? ⟨q, 3, none⟩ = some (.int .i64 f) ∧ w'.cell? ⟨q, 4, none⟩ = some (.int .i64 t) ∧ w'.cell? ⟨q, 5, none⟩ = some (.slice a n cap) ∧ w'.cell? ⟨q, 6, none⟩ = some (.int .i64 c) ∧ w'.cell? ⟨q, 7, none⟩ = some (.int .u64 (dn : Int)) ∧ w'.cell? ⟨q, 8, none⟩ = some (.int .u64 (ds : Int))) ∧ Hid (Below w0.heap.size w0 w')) := by
    refine Lib.hid fun W hW => ?_
    have h3 := rcSame_any ⟨2, i, b, f, t, l, c, dn, ds⟩ ⟨2, 0, 0, f, t, l, 0, 0, 0⟩ a a n cap n cap W (hr0.later hW) (hr0.later hW)
    rw [← hE] at h3
    refine h3.mono ?_
    rintro e w' ⟨rfl, hb⟩
    have hx := hW.trans (hb.mono hW.size)
    exact ⟨rfl, HK.out _ hx, Lib.hid hx⟩
  rw [← hE, h.1]
  have HFIN : Hid (∀ W, Below w0.heap.size w0 W → Below w.heap.size w W) := by
    refine Lib.hid fun W hW => ?_
    rw [← hq]
    exact hbw.trans (hW.mono (by omega))
  have HL : Hid (isRunB f t = true → ∀ W, Below w0.heap.size w0 W → Calls Tryz.prog 79 #[.agg #[.int .i64 f, .int .i64 t]] W fun e w' => e = .returned (.int .i64 (t - f)) ∧ (w'.cell? ⟨q, 0, none⟩ = some (.int .u8 2) ∧ w'.cell? ⟨q, 1, none⟩ = some (.int .i64 i) ∧ w'.cell? ⟨q, 2, none⟩ = some (.int .i64 b) ∧ w'.cell? ⟨q, 3, none⟩ = some (.int .i64 f) ∧ w'.cell? ⟨q, 4, none⟩ = some (.int .i64 t) ∧ w'.cell? ⟨q, 5, none⟩ = some (.slice a n cap) ∧ w'.cell? ⟨q, 6, none⟩ = some (.int .i64 c) ∧ w'.cell? ⟨q, 7, none⟩ = some (.int .u64 (dn : Int)) ∧ w'.cell? ⟨q, 8, none⟩ = some (.int .u64 (ds : Int))) ∧ Hid (Below w0.heap.size w0 w')) := by
    refine Lib.hid fun hB W hW => (runLen_any f t W hB).mono ?_
    rintro e w' ⟨rfl, hb⟩
    have hx := hW.trans (hb.mono hW.size)
    exact ⟨rfl, HK.out _ hx, Lib.hid hx⟩
  have HD : isRunB f t = true → 1 ≤ t - f ∧ t - f ≤ 256 := by
    intro hB
    simp only [isRunB, Bool.and_eq_true, decide_eq_true_eq] at hB
    omega
  obtain ⟨d, hd⟩ : ∃ d, d = t - f := ⟨_, rfl⟩
  obtain ⟨B1, hB1⟩ : ∃ B, B = isRunB f t := ⟨_, rfl⟩
  rw [← hB1] at HI HL HD ⊢
  rw [← hd] at HL HD ⊢
  clear hE hB1 h hd hw0 hq hbw hblk hr0
  have HSZ := Lib.hid hsz
  clear hsz
  simp only [rcV]
  cases B1
  · clear HL HS HD
    go_enter Tryz.func59, Tryz.ntmps59
    go_upto_region 1 with fail
    change Code.wp _ _ _ _ (w.alloc (.cells #[.int .u8 2, .int .i64 i, .int .i64 b, .int .i64 f, .int .i64 t, .slice a n cap, .int .i64 c, .int .u64 (dn : Int), .int .u64 (ds : Int)] 57))
    rw [HW.out.1]
    try rw [HW.out.2]
    have x0 := HK.out w0 (Below.refl _ _)
    obtain ⟨x0, x1, x2, x3, x4, x5, x6, x7, x8⟩ := x0
    go_upto_region 5 with fail
    clear x0 x1 x2 x3 x4 x5 x6 x7 x8
    have H : Hid (Below w0.heap.size w0 w0.drew) := Lib.hid (Below.refl _ _).drew
    refine wp_region_held_drew (S := fun W => W.cell? ⟨q, 0, none⟩ = some (.int .u8 2) ∧ W.cell? ⟨q, 1, none⟩ = some (.int .i64 i) ∧ W.cell? ⟨q, 2, none⟩ = some (.int .i64 b) ∧ W.cell? ⟨q, 3, none⟩ = some (.int .i64 f) ∧ W.cell? ⟨q, 4, none⟩ = some (.int .i64 t) ∧ W.cell? ⟨q, 5, none⟩ = some (.slice a n cap) ∧ W.cell? ⟨q, 6, none⟩ = some (.int .i64 c) ∧ W.cell? ⟨q, 7, none⟩ = some (.int .u64 (dn : Int)) ∧ W.cell? ⟨q, 8, none⟩ = some (.int .u64 (ds : Int))) (by kernel_rfl) (HK.out _ H.out) (fun _ => ?_)
    refine wpAnyH_take (i := 0) (v := ?vb0) rfl (by kernel_rfl) (by kernel_rfl) (by kernel_rfl) (fun _ _ _ h => h) (Or.inl ⟨by rfl, ?hb0⟩) (HK.out _ H.out) ?rb0
    case hb0 => (intro W hW; (try dsimp only at hW); go_simp; try with_reducible rfl)
    simp only [Act.put, List.getElem_toArray, List.getElem_cons_succ, List.getElem_cons_zero, List.setIfInBounds_toArray, List.set_cons_zero, List.set_cons_succ]
    refine wpAnyH_take (i := 1) (v := ?vb1) rfl (by kernel_rfl) (by kernel_rfl) (by kernel_rfl) (fun _ _ _ h => h) (Or.inl ⟨by rfl, ?hb1⟩) (HK.out _ H.out) ?rb1
    case hb1 => (intro W hW; (try dsimp only at hW); go_simp; try with_reducible rfl)
    simp only [Act.put, List.getElem_toArray, List.getElem_cons_succ, List.getElem_cons_zero, List.setIfInBounds_toArray, List.set_cons_zero, List.set_cons_succ]
    refine wpAnyH_ready (rs := [2]) (by kernel_rfl) (by simp) ?_
    refine AllReadyH.cons rfl (fun K hK => ?_) AllReadyH.nil
    refine ready_call (f := 78) (vs := #[.agg #[.int .i64 f, .int .i64 t]]) (by rfl) (by (go_simp; try with_reducible rfl)) ?_
    refine (HI.out _ H.out).mono ?_
    rintro e v0 ⟨rfl, k0, H0⟩
    refine ⟨_, rfl, hK.out _ _ k0 (fun _ => ?_)⟩
    clear hK K
    simp only [Act.put, List.getElem_toArray, List.getElem_cons_succ, List.getElem_cons_zero, List.setIfInBounds_toArray, List.set_cons_zero, List.set_cons_succ]
    refine wpAnyH_take (i := 3) (v := ?vb3) rfl (by kernel_rfl) (by kernel_rfl) (by kernel_rfl) (fun _ _ _ h => h) (Or.inl ⟨by rfl, ?hb3⟩) (HK.out _ H0.out) ?rb3
    case hb3 => (intro W hW; (try dsimp only at hW); go_simp; try with_reducible rfl)
    simp only [Act.put, List.getElem_toArray, List.getElem_cons_succ, List.getElem_cons_zero, List.setIfInBounds_toArray, List.set_cons_zero, List.set_cons_succ]
    refine wpAnyH_take (i := 4) (v := undef) rfl (by kernel_rfl) (by kernel_rfl) (by kernel_rfl) (fun _ _ _ h => h) (Or.inr ⟨by rfl, rfl⟩) (HK.out _ H0.out) ?rb4
    simp only [Act.put, List.getElem_toArray, List.getElem_cons_succ, List.getElem_cons_zero, List.setIfInBounds_toArray, List.set_cons_zero, List.set_cons_succ]
    refine wpAnyH_take (i := 5) (v := undef) rfl (by kernel_rfl) (by kernel_rfl) (by kernel_rfl) (fun _ _ _ h => h) (Or.inr ⟨by rfl, rfl⟩) (HK.out _ H0.out) ?rb5
    simp only [Act.put, List.getElem_toArray, List.getElem_cons_succ, List.getElem_cons_zero, List.setIfInBounds_toArray, List.set_cons_zero, List.set_cons_succ]
    refine wpAnyH_take (i := 6) (v := undef) rfl (by kernel_rfl) (by kernel_rfl) (by kernel_rfl) (fun _ _ _ h => h) (Or.inr ⟨by rfl, rfl⟩) (HK.out _ H0.out) ?rb6
    simp only [Act.put, List.getElem_toArray, List.getElem_cons_succ, List.getElem_cons_zero, List.setIfInBounds_toArray, List.set_cons_zero, List.set_cons_succ]
    refine wpAnyH_take (i := 7) (v := undef) rfl (by kernel_rfl) (by kernel_rfl) (by kernel_rfl) (fun _ _ _ h => h) (Or.inr ⟨by rfl, rfl⟩) (HK.out _ H0.out) ?rb7
    simp only [Act.put, List.getElem_toArray, List.getElem_cons_succ, List.getElem_cons_zero, List.setIfInBounds_toArray, List.set_cons_zero, List.set_cons_succ]
    refine wpAnyH_take (i := 8) (v := ?vb8) rfl (by kernel_rfl) (by kernel_rfl) (by kernel_rfl) (fun _ _ _ h => h) (Or.inl ⟨by rfl, ?hb8⟩) (HK.out _ H0.out) ?rb8
    case hb8 => (intro W hW; (try dsimp only at hW); go_simp; try with_reducible rfl)
    simp only [Act.put, List.getElem_toArray, List.getElem_cons_succ, List.getElem_cons_zero, List.setIfInBounds_toArray, List.set_cons_zero, List.set_cons_succ]
    refine wpAnyH_take (i := 9) (v := ?vb9) rfl (by kernel_rfl) (by kernel_rfl) (by kernel_rfl) (fun _ _ _ h => h) (Or.inl ⟨by rfl, ?hb9⟩) (HK.out _ H0.out) ?rb9
    case hb9 => (intro W hW; (try dsimp only at hW); go_simp; try with_reducible rfl)
    simp only [Act.put, List.getElem_toArray, List.getElem_cons_succ, List.getElem_cons_zero, List.setIfInBounds_toArray, List.set_cons_zero, List.set_cons_succ]
    refine wpAnyH_take (i := 10) (v := undef) rfl (by kernel_rfl) (by kernel_rfl) (by kernel_rfl) (fun _ _ _ h => h) (Or.inr ⟨by rfl, rfl⟩) (HK.out _ H0.out) ?rb10
    simp only [Act.put, List.getElem_toArray, List.getElem_cons_succ, List.getElem_cons_zero, List.setIfInBounds_toArray, List.set_cons_zero, List.set_cons_succ]
    refine wpAnyH_take (i := 11) (v := undef) rfl (by kernel_rfl) (by kernel_rfl) (by kernel_rfl) (fun _ _ _ h => h) (Or.inr ⟨by rfl, rfl⟩) (HK.out _ H0.out) ?rb11
    simp only [Act.put, List.getElem_toArray, List.getElem_cons_succ, List.getElem_cons_zero, List.setIfInBounds_toArray, List.set_cons_zero, List.set_cons_succ]
    refine wpAnyH_take (i := 12) (v := undef) rfl (by kernel_rfl) (by kernel_rfl) (by kernel_rfl) (fun _ _ _ h => h) (Or.inr ⟨by rfl, rfl⟩) (HK.out _ H0.out) ?rb12
    simp only [Act.put, List.getElem_toArray, List.getElem_cons_succ, List.getElem_cons_zero, List.setIfInBounds_toArray, List.set_cons_zero, List.set_cons_succ]
    refine wpAnyH_take (i := 13) (v := undef) rfl (by kernel_rfl) (by kernel_rfl) (by kernel_rfl) (fun _ _ _ h => h) (Or.inr ⟨by rfl, rfl⟩) (HK.out _ H0.out) ?rb13
    simp only [Act.put, List.getElem_toArray, List.getElem_cons_succ, List.getElem_cons_zero, List.setIfInBounds_toArray, List.set_cons_zero, List.set_cons_succ]
    refine wpAnyH_take (i := 14) (v := undef) rfl (by kernel_rfl) (by kernel_rfl) (by kernel_rfl) (fun _ _ _ h => h) (Or.inr ⟨by rfl, rfl⟩) (HK.out _ H0.out) ?rb14
    simp only [Act.put, List.getElem_toArray, List.getElem_cons_succ, List.getElem_cons_zero, List.setIfInBounds_toArray, List.set_cons_zero, List.set_cons_succ]
    refine wpAnyH_take (i := 15) (v := undef) rfl (by kernel_rfl) (by kernel_rfl) (by kernel_rfl) (fun _ _ _ h => h) (Or.inr ⟨by rfl, rfl⟩) (HK.out _ H0.out) ?rb15
    simp only [Act.put, List.getElem_toArray, List.getElem_cons_succ, List.getElem_cons_zero, List.setIfInBounds_toArray, List.set_cons_zero, List.set_cons_succ]
    refine wpAnyH_take (i := 16) (v := undef) rfl (by kernel_rfl) (by kernel_rfl) (by kernel_rfl) (fun _ _ _ h => h) (Or.inr ⟨by rfl, rfl⟩) (HK.out _ H0.out) ?rb16
    simp only [Act.put, List.getElem_toArray, List.getElem_cons_succ, List.getElem_cons_zero, List.setIfInBounds_toArray, List.set_cons_zero, List.set_cons_succ]
    refine wpAnyH_take (i := 17) (v := undef) rfl (by kernel_rfl) (by kernel_rfl) (by kernel_rfl) (fun _ _ _ h => h) (Or.inr ⟨by rfl, rfl⟩) (HK.out _ H0.out) ?rb17
    simp only [Act.put, List.getElem_toArray, List.getElem_cons_succ, List.getElem_cons_zero, List.setIfInBounds_toArray, List.set_cons_zero, List.set_cons_succ]
    refine wpAnyH_take (i := 18) (v := ?vb18) rfl (by kernel_rfl) (by kernel_rfl) (by kernel_rfl) (fun _ _ _ h => h) (Or.inl ⟨by rfl, ?hb18⟩) (HK.out _ H0.out) ?rb18
    case hb18 => (intro W hW; (try dsimp only at hW); go_simp; try with_reducible rfl)
    simp only [Act.put, List.getElem_toArray, List.getElem_cons_succ, List.getElem_cons_zero, List.setIfInBounds_toArray, List.set_cons_zero, List.set_cons_succ]
    refine wpAnyH_take (i := 19) (v := ?vb19) rfl (by kernel_rfl) (by kernel_rfl) (by kernel_rfl) (fun _ _ _ h => h) (Or.inl ⟨by rfl, ?hb19⟩) (HK.out _ H0.out) ?rb19
    case hb19 => (intro W hW; (try dsimp only at hW); go_simp; try with_reducible rfl)
    simp only [Act.put, List.getElem_toArray, List.getElem_cons_succ, List.getElem_cons_zero, List.setIfInBounds_toArray, List.set_cons_zero, List.set_cons_succ]
    refine wpAnyH_take (i := 20) (v := undef) rfl (by kernel_rfl) (by kernel_rfl) (by kernel_rfl) (fun _ _ _ h => h) (Or.inr ⟨by rfl, rfl⟩) (HK.out _ H0.out) ?rb20
    simp only [Act.put, List.getElem_toArray, List.getElem_cons_succ, List.getElem_cons_zero, List.setIfInBounds_toArray, List.set_cons_zero, List.set_cons_succ]
    refine wpAnyH_take (i := 21) (v := undef) rfl (by kernel_rfl) (by kernel_rfl) (by kernel_rfl) (fun _ _ _ h => h) (Or.inr ⟨by rfl, rfl⟩) (HK.out _ H0.out) ?rb21
    simp only [Act.put, List.getElem_toArray, List.getElem_cons_succ, List.getElem_cons_zero, List.setIfInBounds_toArray, List.set_cons_zero, List.set_cons_succ]
    refine wpAnyH_take (i := 22) (v := undef) rfl (by kernel_rfl) (by kernel_rfl) (by kernel_rfl) (fun _ _ _ h => h) (Or.inr ⟨by rfl, rfl⟩) (HK.out _ H0.out) ?rb22
    simp only [Act.put, List.getElem_toArray, List.getElem_cons_succ, List.getElem_cons_zero, List.setIfInBounds_toArray, List.set_cons_zero, List.set_cons_succ]
    refine wpAnyH_take (i := 23) (v := undef) rfl (by kernel_rfl) (by kernel_rfl) (by kernel_rfl) (fun _ _ _ h => h) (Or.inr ⟨by rfl, rfl⟩) (HK.out _ H0.out) ?rb23
    simp only [Act.put, List.getElem_toArray, List.getElem_cons_succ, List.getElem_cons_zero, List.setIfInBounds_toArray, List.set_cons_zero, List.set_cons_succ]
    refine wpAnyH_take (i := 24) (v := undef) rfl (by kernel_rfl) (by kernel_rfl) (by kernel_rfl) (fun _ _ _ h => h) (Or.inr ⟨by rfl, rfl⟩) (HK.out _ H0.out) ?rb24
    simp only [Act.put, List.getElem_toArray, List.getElem_cons_succ, List.getElem_cons_zero, List.setIfInBounds_toArray, List.set_cons_zero, List.set_cons_succ]
    refine wpAnyH_take (i := 25) (v := undef) rfl (by kernel_rfl) (by kernel_rfl) (by kernel_rfl) (fun _ _ _ h => h) (Or.inr ⟨by rfl, rfl⟩) (HK.out _ H0.out) ?rb25
    simp only [Act.put, List.getElem_toArray, List.getElem_cons_succ, List.getElem_cons_zero, List.setIfInBounds_toArray, List.set_cons_zero, List.set_cons_succ]
    refine wpAnyH_take (i := 26) (v := undef) rfl (by kernel_rfl) (by kernel_rfl) (by kernel_rfl) (fun _ _ _ h => h) (Or.inr ⟨by rfl, rfl⟩) (HK.out _ H0.out) ?rb26
    simp only [Act.put, List.getElem_toArray, List.getElem_cons_succ, List.getElem_cons_zero, List.setIfInBounds_toArray, List.set_cons_zero, List.set_cons_succ]
    refine wpAnyH_take (i := 27) (v := ?vb27) rfl (by kernel_rfl) (by kernel_rfl) (by kernel_rfl) (fun _ _ _ h => h) (Or.inl ⟨by rfl, ?hb27⟩) (HK.out _ H0.out) ?rb27
    case hb27 => (intro W hW; (try dsimp only at hW); go_simp; try with_reducible rfl)
    simp only [Act.put, List.getElem_toArray, List.getElem_cons_succ, List.getElem_cons_zero, List.setIfInBounds_toArray, List.set_cons_zero, List.set_cons_succ]
    refine wpAnyH_take (i := 28) (v := ?vb28) rfl (by kernel_rfl) (by kernel_rfl) (by kernel_rfl) (fun _ _ _ h => h) (Or.inl ⟨by rfl, ?hb28⟩) (HK.out _ H0.out) ?rb28
    case hb28 => (intro W hW; (try dsimp only at hW); go_simp; try with_reducible rfl)
    simp only [Act.put, List.getElem_toArray, List.getElem_cons_succ, List.getElem_cons_zero, List.setIfInBounds_toArray, List.set_cons_zero, List.set_cons_succ]
    refine wpAnyH_done (by kernel_rfl) ?_ _
    go_wp2
    go_ret
    exact ⟨rfl, HFIN.out _ H0.out⟩
  · obtain ⟨d1, d2⟩ := HD rfl
    clear HD
    have HL2 := Lib.hid (HL.out rfl)
    clear HL
    have HL := HL2
    clear HL2
    by_cases h4 : d ≤ 4
    · by_cases hl : (n : Int) = d * 32
      · have HR : Hid (∀ E, (true && (decide (d ≤ 4) && (decide ((n : Int) = d * 32) && E))) = E) := Lib.hid fun E => by rw [decide_eq_true h4, decide_eq_true hl]; rfl
        rw [HR.out]
        have hl9 : ((n : Int) == IntKind.i64.wrap (d * 32)) = true := by rw [show IntKind.i64.wrap (d * 32) = d * 32 by rw [IntKind.wrap_i64] <;> omega]; simp [hl]
        clear hl
        go_enter Tryz.func59, Tryz.ntmps59
        go_upto_region 1 with fail
        change Code.wp _ _ _ _ (w.alloc (.cells #[.int .u8 2, .int .i64 i, .int .i64 b, .int .i64 f, .int .i64 t, .slice a n cap, .int .i64 c, .int .u64 (dn : Int), .int .u64 (ds : Int)] 57))
        rw [HW.out.1]
        try rw [HW.out.2]
        have x0 := HK.out w0 (Below.refl _ _)
        obtain ⟨x0, x1, x2, x3, x4, x5, x6, x7, x8⟩ := x0
        go_upto_region 5 with fail
        clear x0 x1 x2 x3 x4 x5 x6 x7 x8
        have H : Hid (Below w0.heap.size w0 w0.drew) := Lib.hid (Below.refl _ _).drew
        refine wp_region_held_drew (S := fun W => W.cell? ⟨q, 0, none⟩ = some (.int .u8 2) ∧ W.cell? ⟨q, 1, none⟩ = some (.int .i64 i) ∧ W.cell? ⟨q, 2, none⟩ = some (.int .i64 b) ∧ W.cell? ⟨q, 3, none⟩ = some (.int .i64 f) ∧ W.cell? ⟨q, 4, none⟩ = some (.int .i64 t) ∧ W.cell? ⟨q, 5, none⟩ = some (.slice a n cap) ∧ W.cell? ⟨q, 6, none⟩ = some (.int .i64 c) ∧ W.cell? ⟨q, 7, none⟩ = some (.int .u64 (dn : Int)) ∧ W.cell? ⟨q, 8, none⟩ = some (.int .u64 (ds : Int))) (by kernel_rfl) (HK.out _ H.out) (fun _ => ?_)
        refine wpAnyH_take (i := 0) (v := ?vc0) rfl (by kernel_rfl) (by kernel_rfl) (by kernel_rfl) (fun _ _ _ h => h) (Or.inl ⟨by rfl, ?hc0⟩) (HK.out _ H.out) ?rc0
        case hc0 => (intro W hW; (try dsimp only at hW); go_simp; try with_reducible rfl)
        simp only [Act.put, List.getElem_toArray, List.getElem_cons_succ, List.getElem_cons_zero, List.setIfInBounds_toArray, List.set_cons_zero, List.set_cons_succ]
        refine wpAnyH_take (i := 1) (v := ?vc1) rfl (by kernel_rfl) (by kernel_rfl) (by kernel_rfl) (fun _ _ _ h => h) (Or.inl ⟨by rfl, ?hc1⟩) (HK.out _ H.out) ?rc1
        case hc1 => (intro W hW; (try dsimp only at hW); go_simp; try with_reducible rfl)
        simp only [Act.put, List.getElem_toArray, List.getElem_cons_succ, List.getElem_cons_zero, List.setIfInBounds_toArray, List.set_cons_zero, List.set_cons_succ]
        refine wpAnyH_ready (rs := [2]) (by kernel_rfl) (by simp) ?_
        refine AllReadyH.cons rfl (fun K hK => ?_) AllReadyH.nil
        refine ready_call (f := 78) (vs := #[.agg #[.int .i64 f, .int .i64 t]]) (by rfl) (by (go_simp; try with_reducible rfl)) ?_
        refine (HI.out _ H.out).mono ?_
        rintro e v0 ⟨rfl, k0, H0⟩
        refine ⟨_, rfl, hK.out _ _ k0 (fun _ => ?_)⟩
        clear hK K
        simp only [Act.put, List.getElem_toArray, List.getElem_cons_succ, List.getElem_cons_zero, List.setIfInBounds_toArray, List.set_cons_zero, List.set_cons_succ]
        refine wpAnyH_take (i := 3) (v := ?vc3) rfl (by kernel_rfl) (by kernel_rfl) (by kernel_rfl) (fun _ _ _ h => h) (Or.inl ⟨by rfl, ?hc3⟩) (HK.out _ H0.out) ?rc3
        case hc3 => (intro W hW; (try dsimp only at hW); go_simp; try with_reducible rfl)
        simp only [Act.put, List.getElem_toArray, List.getElem_cons_succ, List.getElem_cons_zero, List.setIfInBounds_toArray, List.set_cons_zero, List.set_cons_succ]
        refine wpAnyH_take (i := 4) (v := ?vc4) rfl (by kernel_rfl) (by kernel_rfl) (by kernel_rfl) (fun _ _ _ h => h) (Or.inl ⟨by rfl, ?hc4⟩) (HK.out _ H0.out) ?rc4
        case hc4 => (intro W hW; (try dsimp only at hW); go_simp; try with_reducible rfl)
        simp only [Act.put, List.getElem_toArray, List.getElem_cons_succ, List.getElem_cons_zero, List.setIfInBounds_toArray, List.set_cons_zero, List.set_cons_succ]
        refine wpAnyH_take (i := 5) (v := ?vc5) rfl (by kernel_rfl) (by kernel_rfl) (by kernel_rfl) (fun _ _ _ h => h) (Or.inl ⟨by rfl, ?hc5⟩) (HK.out _ H0.out) ?rc5
        case hc5 => (intro W hW; (try dsimp only at hW); go_simp; try with_reducible rfl)
        simp only [Act.put, List.getElem_toArray, List.getElem_cons_succ, List.getElem_cons_zero, List.setIfInBounds_toArray, List.set_cons_zero, List.set_cons_succ]
        refine wpAnyH_ready (rs := [6]) (by kernel_rfl) (by simp) ?_
        refine AllReadyH.cons rfl (fun K hK => ?_) AllReadyH.nil
        refine ready_call (f := 79) (vs := #[.agg #[.int .i64 f, .int .i64 t]]) (by rfl) (by (go_simp; try with_reducible rfl)) ?_
        refine (HL.out _ H0.out).mono ?_
        rintro e v1 ⟨rfl, k1, H1⟩
        refine ⟨_, rfl, hK.out _ _ k1 (fun _ => ?_)⟩
        clear hK K
        simp only [Act.put, List.getElem_toArray, List.getElem_cons_succ, List.getElem_cons_zero, List.setIfInBounds_toArray, List.set_cons_zero, List.set_cons_succ]
        refine wpAnyH_take (i := 7) (v := ?vc7) rfl (by kernel_rfl) (by kernel_rfl) (by kernel_rfl) (fun _ _ _ h => h) (Or.inl ⟨by rfl, ?hc7⟩) (HK.out _ H1.out) ?rc7
        case hc7 => (intro W hW; (try dsimp only at hW); go_simp; try with_reducible rfl)
        simp only [Act.put, List.getElem_toArray, List.getElem_cons_succ, List.getElem_cons_zero, List.setIfInBounds_toArray, List.set_cons_zero, List.set_cons_succ]
        refine wpAnyH_take (i := 8) (v := ?vc8) rfl (by kernel_rfl) (by kernel_rfl) (by kernel_rfl) (fun _ _ _ h => h) (Or.inl ⟨by rfl, ?hc8⟩) (HK.out _ H1.out) ?rc8
        case hc8 => (intro W hW; (try dsimp only at hW); go_simp; try with_reducible rfl)
        simp only [Act.put, List.getElem_toArray, List.getElem_cons_succ, List.getElem_cons_zero, List.setIfInBounds_toArray, List.set_cons_zero, List.set_cons_succ]
        refine wpAnyH_take (i := 9) (v := ?vc9) rfl (by kernel_rfl) (by kernel_rfl) (by kernel_rfl) (fun _ _ _ h => h) (Or.inl ⟨by rfl, ?hc9⟩) (HK.out _ H1.out) ?rc9
        case hc9 => (intro W hW; (try dsimp only at hW); go_simp; try with_reducible rfl)
        simp only [Act.put, List.getElem_toArray, List.getElem_cons_succ, List.getElem_cons_zero, List.setIfInBounds_toArray, List.set_cons_zero, List.set_cons_succ]
        refine wpAnyH_take (i := 10) (v := ?vc10) rfl (by kernel_rfl) (by kernel_rfl) (by kernel_rfl) (fun _ _ _ h => h) (Or.inl ⟨by rfl, ?hc10⟩) (HK.out _ H1.out) ?rc10
        case hc10 => (intro W hW; (try dsimp only at hW); go_simp; try with_reducible rfl)
        simp only [Act.put, List.getElem_toArray, List.getElem_cons_succ, List.getElem_cons_zero, List.setIfInBounds_toArray, List.set_cons_zero, List.set_cons_succ]
        refine wpAnyH_take (i := 11) (v := ?vc11) rfl (by kernel_rfl) (by kernel_rfl) (by kernel_rfl) (fun _ _ _ h => h) (Or.inl ⟨by rfl, ?hc11⟩) (HK.out _ H1.out) ?rc11
        case hc11 => (intro W hW; (try dsimp only at hW); go_simp; try with_reducible rfl)
        simp only [Act.put, List.getElem_toArray, List.getElem_cons_succ, List.getElem_cons_zero, List.setIfInBounds_toArray, List.set_cons_zero, List.set_cons_succ]
        refine wpAnyH_take (i := 12) (v := ?vc12) rfl (by kernel_rfl) (by kernel_rfl) (by kernel_rfl) (fun _ _ _ h => h) (Or.inl ⟨by rfl, ?hc12⟩) (HK.out _ H1.out) ?rc12
        case hc12 => (intro W hW; (try dsimp only at hW); go_simp; try with_reducible rfl)
        simp only [Act.put, List.getElem_toArray, List.getElem_cons_succ, List.getElem_cons_zero, List.setIfInBounds_toArray, List.set_cons_zero, List.set_cons_succ]
        refine wpAnyH_take (i := 13) (v := ?vc13) rfl (by kernel_rfl) (by kernel_rfl) (by kernel_rfl) (fun _ _ _ h => h) (Or.inl ⟨by rfl, ?hc13⟩) (HK.out _ H1.out) ?rc13
        case hc13 => (intro W hW; (try dsimp only at hW); go_simp; try with_reducible rfl)
        simp only [Act.put, List.getElem_toArray, List.getElem_cons_succ, List.getElem_cons_zero, List.setIfInBounds_toArray, List.set_cons_zero, List.set_cons_succ]
        refine wpAnyH_take (i := 14) (v := ?vc14) rfl (by kernel_rfl) (by kernel_rfl) (by kernel_rfl) (fun _ _ _ h => h) (Or.inl ⟨by rfl, ?hc14⟩) (HK.out _ H1.out) ?rc14
        case hc14 => (intro W hW; (try dsimp only at hW); go_simp; try with_reducible rfl)
        simp only [Act.put, List.getElem_toArray, List.getElem_cons_succ, List.getElem_cons_zero, List.setIfInBounds_toArray, List.set_cons_zero, List.set_cons_succ]
        refine wpAnyH_ready (rs := [15]) (by kernel_rfl) (by simp) ?_
        refine AllReadyH.cons rfl (fun K hK => ?_) AllReadyH.nil
        refine ready_call (f := 79) (vs := #[.agg #[.int .i64 f, .int .i64 t]]) (by rfl) (by (go_simp; try with_reducible rfl)) ?_
        refine (HL.out _ H1.out).mono ?_
        rintro e v2 ⟨rfl, k2, H2⟩
        refine ⟨_, rfl, hK.out _ _ k2 (fun _ => ?_)⟩
        clear hK K
        simp only [Act.put, List.getElem_toArray, List.getElem_cons_succ, List.getElem_cons_zero, List.setIfInBounds_toArray, List.set_cons_zero, List.set_cons_succ]
        refine wpAnyH_take (i := 16) (v := ?vc16) rfl (by kernel_rfl) (by kernel_rfl) (by kernel_rfl) (fun _ _ _ h => h) (Or.inl ⟨by rfl, ?hc16⟩) (HK.out _ H2.out) ?rc16
        case hc16 => (intro W hW; (try dsimp only at hW); go_simp; try with_reducible rfl)
        simp only [Act.put, List.getElem_toArray, List.getElem_cons_succ, List.getElem_cons_zero, List.setIfInBounds_toArray, List.set_cons_zero, List.set_cons_succ]
        refine wpAnyH_take (i := 17) (v := ?vc17) rfl (by kernel_rfl) (by kernel_rfl) (by kernel_rfl) (fun _ _ _ h => h) (Or.inl ⟨by rfl, ?hc17⟩) (HK.out _ H2.out) ?rc17
        case hc17 => (intro W hW; (try dsimp only at hW); go_simp; try with_reducible rfl)
        simp only [Act.put, List.getElem_toArray, List.getElem_cons_succ, List.getElem_cons_zero, List.setIfInBounds_toArray, List.set_cons_zero, List.set_cons_succ]
        refine wpAnyH_take (i := 18) (v := ?vc18) rfl (by kernel_rfl) (by kernel_rfl) (by kernel_rfl) (fun _ _ _ h => h) (Or.inl ⟨by rfl, ?hc18⟩) (HK.out _ H2.out) ?rc18
        case hc18 => (intro W hW; (try dsimp only at hW); go_simp; try with_reducible rfl)
        simp only [Act.put, List.getElem_toArray, List.getElem_cons_succ, List.getElem_cons_zero, List.setIfInBounds_toArray, List.set_cons_zero, List.set_cons_succ]
        refine wpAnyH_take (i := 19) (v := ?vc19) rfl (by kernel_rfl) (by kernel_rfl) (by kernel_rfl) (fun _ _ _ h => h) (Or.inl ⟨by rfl, ?hc19⟩) (HK.out _ H2.out) ?rc19
        case hc19 => (intro W hW; (try dsimp only at hW); go_simp; try with_reducible rfl)
        simp only [Act.put, List.getElem_toArray, List.getElem_cons_succ, List.getElem_cons_zero, List.setIfInBounds_toArray, List.set_cons_zero, List.set_cons_succ]
        refine wpAnyH_take (i := 20) (v := ?vc20) rfl (by kernel_rfl) (by kernel_rfl) (by kernel_rfl) (fun _ _ _ h => h) (Or.inl ⟨by rfl, ?hc20⟩) (HK.out _ H2.out) ?rc20
        case hc20 => (intro W hW; (try dsimp only at hW); go_simp; try with_reducible rfl)
        simp only [Act.put, List.getElem_toArray, List.getElem_cons_succ, List.getElem_cons_zero, List.setIfInBounds_toArray, List.set_cons_zero, List.set_cons_succ]
        refine wpAnyH_take (i := 21) (v := ?vc21) rfl (by kernel_rfl) (by kernel_rfl) (by kernel_rfl) (fun _ _ _ h => h) (Or.inl ⟨by rfl, ?hc21⟩) (HK.out _ H2.out) ?rc21
        case hc21 => (intro W hW; (try dsimp only at hW); go_simp; try with_reducible rfl)
        simp only [Act.put, List.getElem_toArray, List.getElem_cons_succ, List.getElem_cons_zero, List.setIfInBounds_toArray, List.set_cons_zero, List.set_cons_succ]
        refine wpAnyH_take (i := 22) (v := ?vc22) rfl (by kernel_rfl) (by kernel_rfl) (by kernel_rfl) (fun _ _ _ h => h) (Or.inl ⟨by rfl, ?hc22⟩) (HK.out _ H2.out) ?rc22
        case hc22 => (intro W hW; (try dsimp only at hW); go_simp; try with_reducible rfl)
        simp only [Act.put, List.getElem_toArray, List.getElem_cons_succ, List.getElem_cons_zero, List.setIfInBounds_toArray, List.set_cons_zero, List.set_cons_succ]
        refine wpAnyH_take (i := 23) (v := ?vc23) rfl (by kernel_rfl) (by kernel_rfl) (by kernel_rfl) (fun _ _ _ h => h) (Or.inl ⟨by rfl, ?hc23⟩) (HK.out _ H2.out) ?rc23
        case hc23 => (intro W hW; (try dsimp only at hW); go_simp; try with_reducible rfl)
        simp only [Act.put, List.getElem_toArray, List.getElem_cons_succ, List.getElem_cons_zero, List.setIfInBounds_toArray, List.set_cons_zero, List.set_cons_succ]
        refine wpAnyH_take (i := 24) (v := ?vc24) rfl (by kernel_rfl) (by kernel_rfl) (by kernel_rfl) (fun _ _ _ h => h) (Or.inl ⟨by rfl, ?hc24⟩) (HK.out _ H2.out) ?rc24
        case hc24 => (intro W hW; (try dsimp only at hW); go_simp; try with_reducible rfl)
        simp only [Act.put, List.getElem_toArray, List.getElem_cons_succ, List.getElem_cons_zero, List.setIfInBounds_toArray, List.set_cons_zero, List.set_cons_succ]
        refine wpAnyH_take (i := 25) (v := ?vc25) rfl (by kernel_rfl) (by kernel_rfl) (by kernel_rfl) (fun _ _ _ h => h) (Or.inl ⟨by rfl, ?hc25⟩) (HK.out _ H2.out) ?rc25
        case hc25 => (intro W hW; (try dsimp only at hW); go_simp; try with_reducible rfl)
        simp only [Act.put, List.getElem_toArray, List.getElem_cons_succ, List.getElem_cons_zero, List.setIfInBounds_toArray, List.set_cons_zero, List.set_cons_succ]
        refine wpAnyH_ready (rs := [26]) (by kernel_rfl) (by simp) ?_
        refine AllReadyH.cons rfl (fun K hK => ?_) AllReadyH.nil
        refine ready_call (f := 53) (vs := #[.agg #[.int .u8 2, .int .i64 i, .int .i64 b, .int .i64 f, .int .i64 t, .slice a n cap, .int .i64 c, .int .u64 (dn : Int), .int .u64 (ds : Int)], .agg #[.int .u8 2, .int .i64 0, .int .i64 0, .int .i64 f, .int .i64 t, .slice a n cap, .int .i64 0, .int .u64 0, .int .u64 0]]) (by rfl) (by (go_simp; try with_reducible rfl)) ?_
        refine (HS.out _ H2.out).mono ?_
        rintro e v3 ⟨rfl, k3, H3⟩
        refine ⟨_, rfl, hK.out _ _ k3 (fun _ => ?_)⟩
        clear hK K
        simp only [Act.put, List.getElem_toArray, List.getElem_cons_succ, List.getElem_cons_zero, List.setIfInBounds_toArray, List.set_cons_zero, List.set_cons_succ]
        refine wpAnyH_take (i := 27) (v := ?vc27) rfl (by kernel_rfl) (by kernel_rfl) (by kernel_rfl) (fun _ _ _ h => h) (Or.inl ⟨by rfl, ?hc27⟩) (HK.out _ H3.out) ?rc27
        case hc27 => (intro W hW; (try dsimp only at hW); go_simp; try with_reducible rfl)
        simp only [Act.put, List.getElem_toArray, List.getElem_cons_succ, List.getElem_cons_zero, List.setIfInBounds_toArray, List.set_cons_zero, List.set_cons_succ]
        refine wpAnyH_take (i := 28) (v := ?vc28) rfl (by kernel_rfl) (by kernel_rfl) (by kernel_rfl) (fun _ _ _ h => h) (Or.inl ⟨by rfl, ?hc28⟩) (HK.out _ H3.out) ?rc28
        case hc28 => (intro W hW; (try dsimp only at hW); go_simp; try with_reducible rfl)
        simp only [Act.put, List.getElem_toArray, List.getElem_cons_succ, List.getElem_cons_zero, List.setIfInBounds_toArray, List.set_cons_zero, List.set_cons_succ]
        refine wpAnyH_done (by kernel_rfl) ?_ _
        go_wp2
        go_ret
        exact ⟨rfl, HFIN.out _ H3.out⟩
      · have HR : Hid (∀ E, (true && (decide (d ≤ 4) && (decide ((n : Int) = d * 32) && E))) = false) := Lib.hid fun E => by rw [decide_eq_false hl]; simp
        rw [HR.out]
        have hl9 : ((n : Int) == IntKind.i64.wrap (d * 32)) = false := by rw [show IntKind.i64.wrap (d * 32) = d * 32 by rw [IntKind.wrap_i64] <;> omega]; simpa using hl
        clear hl HS
        go_enter Tryz.func59, Tryz.ntmps59
        go_upto_region 1 with fail
        change Code.wp _ _ _ _ (w.alloc (.cells #[.int .u8 2, .int .i64 i, .int .i64 b, .int .i64 f, .int .i64 t, .slice a n cap, .int .i64 c, .int .u64 (dn : Int), .int .u64 (ds : Int)] 57))
        rw [HW.out.1]
        try rw [HW.out.2]
        have x0 := HK.out w0 (Below.refl _ _)
        obtain ⟨x0, x1, x2, x3, x4, x5, x6, x7, x8⟩ := x0
        go_upto_region 5 with fail
        clear x0 x1 x2 x3 x4 x5 x6 x7 x8
        have H : Hid (Below w0.heap.size w0 w0.drew) := Lib.hid (Below.refl _ _).drew
        refine wp_region_held_drew (S := fun W => W.cell? ⟨q, 0, none⟩ = some (.int .u8 2) ∧ W.cell? ⟨q, 1, none⟩ = some (.int .i64 i) ∧ W.cell? ⟨q, 2, none⟩ = some (.int .i64 b) ∧ W.cell? ⟨q, 3, none⟩ = some (.int .i64 f) ∧ W.cell? ⟨q, 4, none⟩ = some (.int .i64 t) ∧ W.cell? ⟨q, 5, none⟩ = some (.slice a n cap) ∧ W.cell? ⟨q, 6, none⟩ = some (.int .i64 c) ∧ W.cell? ⟨q, 7, none⟩ = some (.int .u64 (dn : Int)) ∧ W.cell? ⟨q, 8, none⟩ = some (.int .u64 (ds : Int))) (by kernel_rfl) (HK.out _ H.out) (fun _ => ?_)
        refine wpAnyH_take (i := 0) (v := ?vd0) rfl (by kernel_rfl) (by kernel_rfl) (by kernel_rfl) (fun _ _ _ h => h) (Or.inl ⟨by rfl, ?hd0⟩) (HK.out _ H.out) ?rd0
        case hd0 => (intro W hW; (try dsimp only at hW); go_simp; try with_reducible rfl)
        simp only [Act.put, List.getElem_toArray, List.getElem_cons_succ, List.getElem_cons_zero, List.setIfInBounds_toArray, List.set_cons_zero, List.set_cons_succ]
        refine wpAnyH_take (i := 1) (v := ?vd1) rfl (by kernel_rfl) (by kernel_rfl) (by kernel_rfl) (fun _ _ _ h => h) (Or.inl ⟨by rfl, ?hd1⟩) (HK.out _ H.out) ?rd1
        case hd1 => (intro W hW; (try dsimp only at hW); go_simp; try with_reducible rfl)
        simp only [Act.put, List.getElem_toArray, List.getElem_cons_succ, List.getElem_cons_zero, List.setIfInBounds_toArray, List.set_cons_zero, List.set_cons_succ]
        refine wpAnyH_ready (rs := [2]) (by kernel_rfl) (by simp) ?_
        refine AllReadyH.cons rfl (fun K hK => ?_) AllReadyH.nil
        refine ready_call (f := 78) (vs := #[.agg #[.int .i64 f, .int .i64 t]]) (by rfl) (by (go_simp; try with_reducible rfl)) ?_
        refine (HI.out _ H.out).mono ?_
        rintro e v0 ⟨rfl, k0, H0⟩
        refine ⟨_, rfl, hK.out _ _ k0 (fun _ => ?_)⟩
        clear hK K
        simp only [Act.put, List.getElem_toArray, List.getElem_cons_succ, List.getElem_cons_zero, List.setIfInBounds_toArray, List.set_cons_zero, List.set_cons_succ]
        refine wpAnyH_take (i := 3) (v := ?vd3) rfl (by kernel_rfl) (by kernel_rfl) (by kernel_rfl) (fun _ _ _ h => h) (Or.inl ⟨by rfl, ?hd3⟩) (HK.out _ H0.out) ?rd3
        case hd3 => (intro W hW; (try dsimp only at hW); go_simp; try with_reducible rfl)
        simp only [Act.put, List.getElem_toArray, List.getElem_cons_succ, List.getElem_cons_zero, List.setIfInBounds_toArray, List.set_cons_zero, List.set_cons_succ]
        refine wpAnyH_take (i := 4) (v := ?vd4) rfl (by kernel_rfl) (by kernel_rfl) (by kernel_rfl) (fun _ _ _ h => h) (Or.inl ⟨by rfl, ?hd4⟩) (HK.out _ H0.out) ?rd4
        case hd4 => (intro W hW; (try dsimp only at hW); go_simp; try with_reducible rfl)
        simp only [Act.put, List.getElem_toArray, List.getElem_cons_succ, List.getElem_cons_zero, List.setIfInBounds_toArray, List.set_cons_zero, List.set_cons_succ]
        refine wpAnyH_take (i := 5) (v := ?vd5) rfl (by kernel_rfl) (by kernel_rfl) (by kernel_rfl) (fun _ _ _ h => h) (Or.inl ⟨by rfl, ?hd5⟩) (HK.out _ H0.out) ?rd5
        case hd5 => (intro W hW; (try dsimp only at hW); go_simp; try with_reducible rfl)
        simp only [Act.put, List.getElem_toArray, List.getElem_cons_succ, List.getElem_cons_zero, List.setIfInBounds_toArray, List.set_cons_zero, List.set_cons_succ]
        refine wpAnyH_ready (rs := [6]) (by kernel_rfl) (by simp) ?_
        refine AllReadyH.cons rfl (fun K hK => ?_) AllReadyH.nil
        refine ready_call (f := 79) (vs := #[.agg #[.int .i64 f, .int .i64 t]]) (by rfl) (by (go_simp; try with_reducible rfl)) ?_
        refine (HL.out _ H0.out).mono ?_
        rintro e v1 ⟨rfl, k1, H1⟩
        refine ⟨_, rfl, hK.out _ _ k1 (fun _ => ?_)⟩
        clear hK K
        simp only [Act.put, List.getElem_toArray, List.getElem_cons_succ, List.getElem_cons_zero, List.setIfInBounds_toArray, List.set_cons_zero, List.set_cons_succ]
        refine wpAnyH_take (i := 7) (v := ?vd7) rfl (by kernel_rfl) (by kernel_rfl) (by kernel_rfl) (fun _ _ _ h => h) (Or.inl ⟨by rfl, ?hd7⟩) (HK.out _ H1.out) ?rd7
        case hd7 => (intro W hW; (try dsimp only at hW); go_simp; try with_reducible rfl)
        simp only [Act.put, List.getElem_toArray, List.getElem_cons_succ, List.getElem_cons_zero, List.setIfInBounds_toArray, List.set_cons_zero, List.set_cons_succ]
        refine wpAnyH_take (i := 8) (v := ?vd8) rfl (by kernel_rfl) (by kernel_rfl) (by kernel_rfl) (fun _ _ _ h => h) (Or.inl ⟨by rfl, ?hd8⟩) (HK.out _ H1.out) ?rd8
        case hd8 => (intro W hW; (try dsimp only at hW); go_simp; try with_reducible rfl)
        simp only [Act.put, List.getElem_toArray, List.getElem_cons_succ, List.getElem_cons_zero, List.setIfInBounds_toArray, List.set_cons_zero, List.set_cons_succ]
        refine wpAnyH_take (i := 9) (v := ?vd9) rfl (by kernel_rfl) (by kernel_rfl) (by kernel_rfl) (fun _ _ _ h => h) (Or.inl ⟨by rfl, ?hd9⟩) (HK.out _ H1.out) ?rd9
        case hd9 => (intro W hW; (try dsimp only at hW); go_simp; try with_reducible rfl)
        simp only [Act.put, List.getElem_toArray, List.getElem_cons_succ, List.getElem_cons_zero, List.setIfInBounds_toArray, List.set_cons_zero, List.set_cons_succ]
        refine wpAnyH_take (i := 10) (v := ?vd10) rfl (by kernel_rfl) (by kernel_rfl) (by kernel_rfl) (fun _ _ _ h => h) (Or.inl ⟨by rfl, ?hd10⟩) (HK.out _ H1.out) ?rd10
        case hd10 => (intro W hW; (try dsimp only at hW); go_simp; try with_reducible rfl)
        simp only [Act.put, List.getElem_toArray, List.getElem_cons_succ, List.getElem_cons_zero, List.setIfInBounds_toArray, List.set_cons_zero, List.set_cons_succ]
        refine wpAnyH_take (i := 11) (v := ?vd11) rfl (by kernel_rfl) (by kernel_rfl) (by kernel_rfl) (fun _ _ _ h => h) (Or.inl ⟨by rfl, ?hd11⟩) (HK.out _ H1.out) ?rd11
        case hd11 => (intro W hW; (try dsimp only at hW); go_simp; try with_reducible rfl)
        simp only [Act.put, List.getElem_toArray, List.getElem_cons_succ, List.getElem_cons_zero, List.setIfInBounds_toArray, List.set_cons_zero, List.set_cons_succ]
        refine wpAnyH_take (i := 12) (v := ?vd12) rfl (by kernel_rfl) (by kernel_rfl) (by kernel_rfl) (fun _ _ _ h => h) (Or.inl ⟨by rfl, ?hd12⟩) (HK.out _ H1.out) ?rd12
        case hd12 => (intro W hW; (try dsimp only at hW); go_simp; try with_reducible rfl)
        simp only [Act.put, List.getElem_toArray, List.getElem_cons_succ, List.getElem_cons_zero, List.setIfInBounds_toArray, List.set_cons_zero, List.set_cons_succ]
        refine wpAnyH_take (i := 13) (v := ?vd13) rfl (by kernel_rfl) (by kernel_rfl) (by kernel_rfl) (fun _ _ _ h => h) (Or.inl ⟨by rfl, ?hd13⟩) (HK.out _ H1.out) ?rd13
        case hd13 => (intro W hW; (try dsimp only at hW); go_simp; try with_reducible rfl)
        simp only [Act.put, List.getElem_toArray, List.getElem_cons_succ, List.getElem_cons_zero, List.setIfInBounds_toArray, List.set_cons_zero, List.set_cons_succ]
        refine wpAnyH_take (i := 14) (v := ?vd14) rfl (by kernel_rfl) (by kernel_rfl) (by kernel_rfl) (fun _ _ _ h => h) (Or.inl ⟨by rfl, ?hd14⟩) (HK.out _ H1.out) ?rd14
        case hd14 => (intro W hW; (try dsimp only at hW); go_simp; try with_reducible rfl)
        simp only [Act.put, List.getElem_toArray, List.getElem_cons_succ, List.getElem_cons_zero, List.setIfInBounds_toArray, List.set_cons_zero, List.set_cons_succ]
        refine wpAnyH_ready (rs := [15]) (by kernel_rfl) (by simp) ?_
        refine AllReadyH.cons rfl (fun K hK => ?_) AllReadyH.nil
        refine ready_call (f := 79) (vs := #[.agg #[.int .i64 f, .int .i64 t]]) (by rfl) (by (go_simp; try with_reducible rfl)) ?_
        refine (HL.out _ H1.out).mono ?_
        rintro e v2 ⟨rfl, k2, H2⟩
        refine ⟨_, rfl, hK.out _ _ k2 (fun _ => ?_)⟩
        clear hK K
        simp only [Act.put, List.getElem_toArray, List.getElem_cons_succ, List.getElem_cons_zero, List.setIfInBounds_toArray, List.set_cons_zero, List.set_cons_succ]
        refine wpAnyH_take (i := 16) (v := ?vd16) rfl (by kernel_rfl) (by kernel_rfl) (by kernel_rfl) (fun _ _ _ h => h) (Or.inl ⟨by rfl, ?hd16⟩) (HK.out _ H2.out) ?rd16
        case hd16 => (intro W hW; (try dsimp only at hW); go_simp; try with_reducible rfl)
        simp only [Act.put, List.getElem_toArray, List.getElem_cons_succ, List.getElem_cons_zero, List.setIfInBounds_toArray, List.set_cons_zero, List.set_cons_succ]
        refine wpAnyH_take (i := 17) (v := ?vd17) rfl (by kernel_rfl) (by kernel_rfl) (by kernel_rfl) (fun _ _ _ h => h) (Or.inl ⟨by rfl, ?hd17⟩) (HK.out _ H2.out) ?rd17
        case hd17 => (intro W hW; (try dsimp only at hW); go_simp; try with_reducible rfl)
        simp only [Act.put, List.getElem_toArray, List.getElem_cons_succ, List.getElem_cons_zero, List.setIfInBounds_toArray, List.set_cons_zero, List.set_cons_succ]
        refine wpAnyH_take (i := 18) (v := ?vd18) rfl (by kernel_rfl) (by kernel_rfl) (by kernel_rfl) (fun _ _ _ h => h) (Or.inl ⟨by rfl, ?hd18⟩) (HK.out _ H2.out) ?rd18
        case hd18 => (intro W hW; (try dsimp only at hW); go_simp; try with_reducible rfl)
        simp only [Act.put, List.getElem_toArray, List.getElem_cons_succ, List.getElem_cons_zero, List.setIfInBounds_toArray, List.set_cons_zero, List.set_cons_succ]
        refine wpAnyH_take (i := 19) (v := ?vd19) rfl (by kernel_rfl) (by kernel_rfl) (by kernel_rfl) (fun _ _ _ h => h) (Or.inl ⟨by rfl, ?hd19⟩) (HK.out _ H2.out) ?rd19
        case hd19 => (intro W hW; (try dsimp only at hW); go_simp; try with_reducible rfl)
        simp only [Act.put, List.getElem_toArray, List.getElem_cons_succ, List.getElem_cons_zero, List.setIfInBounds_toArray, List.set_cons_zero, List.set_cons_succ]
        refine wpAnyH_take (i := 20) (v := undef) rfl (by kernel_rfl) (by kernel_rfl) (by kernel_rfl) (fun _ _ _ h => h) (Or.inr ⟨by rfl, rfl⟩) (HK.out _ H2.out) ?rd20
        simp only [Act.put, List.getElem_toArray, List.getElem_cons_succ, List.getElem_cons_zero, List.setIfInBounds_toArray, List.set_cons_zero, List.set_cons_succ]
        refine wpAnyH_take (i := 21) (v := undef) rfl (by kernel_rfl) (by kernel_rfl) (by kernel_rfl) (fun _ _ _ h => h) (Or.inr ⟨by rfl, rfl⟩) (HK.out _ H2.out) ?rd21
        simp only [Act.put, List.getElem_toArray, List.getElem_cons_succ, List.getElem_cons_zero, List.setIfInBounds_toArray, List.set_cons_zero, List.set_cons_succ]
        refine wpAnyH_take (i := 22) (v := undef) rfl (by kernel_rfl) (by kernel_rfl) (by kernel_rfl) (fun _ _ _ h => h) (Or.inr ⟨by rfl, rfl⟩) (HK.out _ H2.out) ?rd22
        simp only [Act.put, List.getElem_toArray, List.getElem_cons_succ, List.getElem_cons_zero, List.setIfInBounds_toArray, List.set_cons_zero, List.set_cons_succ]
        refine wpAnyH_take (i := 23) (v := undef) rfl (by kernel_rfl) (by kernel_rfl) (by kernel_rfl) (fun _ _ _ h => h) (Or.inr ⟨by rfl, rfl⟩) (HK.out _ H2.out) ?rd23
        simp only [Act.put, List.getElem_toArray, List.getElem_cons_succ, List.getElem_cons_zero, List.setIfInBounds_toArray, List.set_cons_zero, List.set_cons_succ]
        refine wpAnyH_take (i := 24) (v := undef) rfl (by kernel_rfl) (by kernel_rfl) (by kernel_rfl) (fun _ _ _ h => h) (Or.inr ⟨by rfl, rfl⟩) (HK.out _ H2.out) ?rd24
        simp only [Act.put, List.getElem_toArray, List.getElem_cons_succ, List.getElem_cons_zero, List.setIfInBounds_toArray, List.set_cons_zero, List.set_cons_succ]
        refine wpAnyH_take (i := 25) (v := undef) rfl (by kernel_rfl) (by kernel_rfl) (by kernel_rfl) (fun _ _ _ h => h) (Or.inr ⟨by rfl, rfl⟩) (HK.out _ H2.out) ?rd25
        simp only [Act.put, List.getElem_toArray, List.getElem_cons_succ, List.getElem_cons_zero, List.setIfInBounds_toArray, List.set_cons_zero, List.set_cons_succ]
        refine wpAnyH_take (i := 26) (v := undef) rfl (by kernel_rfl) (by kernel_rfl) (by kernel_rfl) (fun _ _ _ h => h) (Or.inr ⟨by rfl, rfl⟩) (HK.out _ H2.out) ?rd26
        simp only [Act.put, List.getElem_toArray, List.getElem_cons_succ, List.getElem_cons_zero, List.setIfInBounds_toArray, List.set_cons_zero, List.set_cons_succ]
        refine wpAnyH_take (i := 27) (v := ?vd27) rfl (by kernel_rfl) (by kernel_rfl) (by kernel_rfl) (fun _ _ _ h => h) (Or.inl ⟨by rfl, ?hd27⟩) (HK.out _ H2.out) ?rd27
        case hd27 => (intro W hW; (try dsimp only at hW); go_simp; try with_reducible rfl)
        simp only [Act.put, List.getElem_toArray, List.getElem_cons_succ, List.getElem_cons_zero, List.setIfInBounds_toArray, List.set_cons_zero, List.set_cons_succ]
        refine wpAnyH_take (i := 28) (v := ?vd28) rfl (by kernel_rfl) (by kernel_rfl) (by kernel_rfl) (fun _ _ _ h => h) (Or.inl ⟨by rfl, ?hd28⟩) (HK.out _ H2.out) ?rd28
        case hd28 => (intro W hW; (try dsimp only at hW); go_simp; try with_reducible rfl)
        simp only [Act.put, List.getElem_toArray, List.getElem_cons_succ, List.getElem_cons_zero, List.setIfInBounds_toArray, List.set_cons_zero, List.set_cons_succ]
        refine wpAnyH_done (by kernel_rfl) ?_ _
        go_wp2
        go_ret
        exact ⟨rfl, HFIN.out _ H2.out⟩
    · have HR : Hid (∀ E, (true && (decide (d ≤ 4) && E)) = false) := Lib.hid fun E => by rw [decide_eq_false h4]; simp
      rw [HR.out]
      have h9 : decide (d ≤ 4) = false := decide_eq_false h4
      clear h4 HS
      go_enter Tryz.func59, Tryz.ntmps59
      go_upto_region 1 with fail
      change Code.wp _ _ _ _ (w.alloc (.cells #[.int .u8 2, .int .i64 i, .int .i64 b, .int .i64 f, .int .i64 t, .slice a n cap, .int .i64 c, .int .u64 (dn : Int), .int .u64 (ds : Int)] 57))
      rw [HW.out.1]
      try rw [HW.out.2]
      have x0 := HK.out w0 (Below.refl _ _)
      obtain ⟨x0, x1, x2, x3, x4, x5, x6, x7, x8⟩ := x0
      go_upto_region 5 with fail
      clear x0 x1 x2 x3 x4 x5 x6 x7 x8
      have H : Hid (Below w0.heap.size w0 w0.drew) := Lib.hid (Below.refl _ _).drew
      refine wp_region_held_drew (S := fun W => W.cell? ⟨q, 0, none⟩ = some (.int .u8 2) ∧ W.cell? ⟨q, 1, none⟩ = some (.int .i64 i) ∧ W.cell? ⟨q, 2, none⟩ = some (.int .i64 b) ∧ W.cell? ⟨q, 3, none⟩ = some (.int .i64 f) ∧ W.cell? ⟨q, 4, none⟩ = some (.int .i64 t) ∧ W.cell? ⟨q, 5, none⟩ = some (.slice a n cap) ∧ W.cell? ⟨q, 6, none⟩ = some (.int .i64 c) ∧ W.cell? ⟨q, 7, none⟩ = some (.int .u64 (dn : Int)) ∧ W.cell? ⟨q, 8, none⟩ = some (.int .u64 (ds : Int))) (by kernel_rfl) (HK.out _ H.out) (fun _ => ?_)
      refine wpAnyH_take (i := 0) (v := ?ve0) rfl (by kernel_rfl) (by kernel_rfl) (by kernel_rfl) (fun _ _ _ h => h) (Or.inl ⟨by rfl, ?he0⟩) (HK.out _ H.out) ?re0
      case he0 => (intro W hW; (try dsimp only at hW); go_simp; try with_reducible rfl)
      simp only [Act.put, List.getElem_toArray, List.getElem_cons_succ, List.getElem_cons_zero, List.setIfInBounds_toArray, List.set_cons_zero, List.set_cons_succ]
      refine wpAnyH_take (i := 1) (v := ?ve1) rfl (by kernel_rfl) (by kernel_rfl) (by kernel_rfl) (fun _ _ _ h => h) (Or.inl ⟨by rfl, ?he1⟩) (HK.out _ H.out) ?re1
      case he1 => (intro W hW; (try dsimp only at hW); go_simp; try with_reducible rfl)
      simp only [Act.put, List.getElem_toArray, List.getElem_cons_succ, List.getElem_cons_zero, List.setIfInBounds_toArray, List.set_cons_zero, List.set_cons_succ]
      refine wpAnyH_ready (rs := [2]) (by kernel_rfl) (by simp) ?_
      refine AllReadyH.cons rfl (fun K hK => ?_) AllReadyH.nil
      refine ready_call (f := 78) (vs := #[.agg #[.int .i64 f, .int .i64 t]]) (by rfl) (by (go_simp; try with_reducible rfl)) ?_
      refine (HI.out _ H.out).mono ?_
      rintro e v0 ⟨rfl, k0, H0⟩
      refine ⟨_, rfl, hK.out _ _ k0 (fun _ => ?_)⟩
      clear hK K
      simp only [Act.put, List.getElem_toArray, List.getElem_cons_succ, List.getElem_cons_zero, List.setIfInBounds_toArray, List.set_cons_zero, List.set_cons_succ]
      refine wpAnyH_take (i := 3) (v := ?ve3) rfl (by kernel_rfl) (by kernel_rfl) (by kernel_rfl) (fun _ _ _ h => h) (Or.inl ⟨by rfl, ?he3⟩) (HK.out _ H0.out) ?re3
      case he3 => (intro W hW; (try dsimp only at hW); go_simp; try with_reducible rfl)
      simp only [Act.put, List.getElem_toArray, List.getElem_cons_succ, List.getElem_cons_zero, List.setIfInBounds_toArray, List.set_cons_zero, List.set_cons_succ]
      refine wpAnyH_take (i := 4) (v := ?ve4) rfl (by kernel_rfl) (by kernel_rfl) (by kernel_rfl) (fun _ _ _ h => h) (Or.inl ⟨by rfl, ?he4⟩) (HK.out _ H0.out) ?re4
      case he4 => (intro W hW; (try dsimp only at hW); go_simp; try with_reducible rfl)
      simp only [Act.put, List.getElem_toArray, List.getElem_cons_succ, List.getElem_cons_zero, List.setIfInBounds_toArray, List.set_cons_zero, List.set_cons_succ]
      refine wpAnyH_take (i := 5) (v := ?ve5) rfl (by kernel_rfl) (by kernel_rfl) (by kernel_rfl) (fun _ _ _ h => h) (Or.inl ⟨by rfl, ?he5⟩) (HK.out _ H0.out) ?re5
      case he5 => (intro W hW; (try dsimp only at hW); go_simp; try with_reducible rfl)
      simp only [Act.put, List.getElem_toArray, List.getElem_cons_succ, List.getElem_cons_zero, List.setIfInBounds_toArray, List.set_cons_zero, List.set_cons_succ]
      refine wpAnyH_ready (rs := [6]) (by kernel_rfl) (by simp) ?_
      refine AllReadyH.cons rfl (fun K hK => ?_) AllReadyH.nil
      refine ready_call (f := 79) (vs := #[.agg #[.int .i64 f, .int .i64 t]]) (by rfl) (by (go_simp; try with_reducible rfl)) ?_
      refine (HL.out _ H0.out).mono ?_
      rintro e v1 ⟨rfl, k1, H1⟩
      refine ⟨_, rfl, hK.out _ _ k1 (fun _ => ?_)⟩
      clear hK K
      simp only [Act.put, List.getElem_toArray, List.getElem_cons_succ, List.getElem_cons_zero, List.setIfInBounds_toArray, List.set_cons_zero, List.set_cons_succ]
      refine wpAnyH_take (i := 7) (v := ?ve7) rfl (by kernel_rfl) (by kernel_rfl) (by kernel_rfl) (fun _ _ _ h => h) (Or.inl ⟨by rfl, ?he7⟩) (HK.out _ H1.out) ?re7
      case he7 => (intro W hW; (try dsimp only at hW); go_simp; try with_reducible rfl)
      simp only [Act.put, List.getElem_toArray, List.getElem_cons_succ, List.getElem_cons_zero, List.setIfInBounds_toArray, List.set_cons_zero, List.set_cons_succ]
      refine wpAnyH_take (i := 8) (v := ?ve8) rfl (by kernel_rfl) (by kernel_rfl) (by kernel_rfl) (fun _ _ _ h => h) (Or.inl ⟨by rfl, ?he8⟩) (HK.out _ H1.out) ?re8
      case he8 => (intro W hW; (try dsimp only at hW); go_simp; try with_reducible rfl)
      simp only [Act.put, List.getElem_toArray, List.getElem_cons_succ, List.getElem_cons_zero, List.setIfInBounds_toArray, List.set_cons_zero, List.set_cons_succ]
      refine wpAnyH_take (i := 9) (v := ?ve9) rfl (by kernel_rfl) (by kernel_rfl) (by kernel_rfl) (fun _ _ _ h => h) (Or.inl ⟨by rfl, ?he9⟩) (HK.out _ H1.out) ?re9
      case he9 => (intro W hW; (try dsimp only at hW); go_simp; try with_reducible rfl)
      simp only [Act.put, List.getElem_toArray, List.getElem_cons_succ, List.getElem_cons_zero, List.setIfInBounds_toArray, List.set_cons_zero, List.set_cons_succ]
      refine wpAnyH_take (i := 10) (v := undef) rfl (by kernel_rfl) (by kernel_rfl) (by kernel_rfl) (fun _ _ _ h => h) (Or.inr ⟨by rfl, rfl⟩) (HK.out _ H1.out) ?re10
      simp only [Act.put, List.getElem_toArray, List.getElem_cons_succ, List.getElem_cons_zero, List.setIfInBounds_toArray, List.set_cons_zero, List.set_cons_succ]
      refine wpAnyH_take (i := 11) (v := undef) rfl (by kernel_rfl) (by kernel_rfl) (by kernel_rfl) (fun _ _ _ h => h) (Or.inr ⟨by rfl, rfl⟩) (HK.out _ H1.out) ?re11
      simp only [Act.put, List.getElem_toArray, List.getElem_cons_succ, List.getElem_cons_zero, List.setIfInBounds_toArray, List.set_cons_zero, List.set_cons_succ]
      refine wpAnyH_take (i := 12) (v := undef) rfl (by kernel_rfl) (by kernel_rfl) (by kernel_rfl) (fun _ _ _ h => h) (Or.inr ⟨by rfl, rfl⟩) (HK.out _ H1.out) ?re12
      simp only [Act.put, List.getElem_toArray, List.getElem_cons_succ, List.getElem_cons_zero, List.setIfInBounds_toArray, List.set_cons_zero, List.set_cons_succ]
      refine wpAnyH_take (i := 13) (v := undef) rfl (by kernel_rfl) (by kernel_rfl) (by kernel_rfl) (fun _ _ _ h => h) (Or.inr ⟨by rfl, rfl⟩) (HK.out _ H1.out) ?re13
      simp only [Act.put, List.getElem_toArray, List.getElem_cons_succ, List.getElem_cons_zero, List.setIfInBounds_toArray, List.set_cons_zero, List.set_cons_succ]
      refine wpAnyH_take (i := 14) (v := undef) rfl (by kernel_rfl) (by kernel_rfl) (by kernel_rfl) (fun _ _ _ h => h) (Or.inr ⟨by rfl, rfl⟩) (HK.out _ H1.out) ?re14
      simp only [Act.put, List.getElem_toArray, List.getElem_cons_succ, List.getElem_cons_zero, List.setIfInBounds_toArray, List.set_cons_zero, List.set_cons_succ]
      refine wpAnyH_take (i := 15) (v := undef) rfl (by kernel_rfl) (by kernel_rfl) (by kernel_rfl) (fun _ _ _ h => h) (Or.inr ⟨by rfl, rfl⟩) (HK.out _ H1.out) ?re15
      simp only [Act.put, List.getElem_toArray, List.getElem_cons_succ, List.getElem_cons_zero, List.setIfInBounds_toArray, List.set_cons_zero, List.set_cons_succ]
      refine wpAnyH_take (i := 16) (v := undef) rfl (by kernel_rfl) (by kernel_rfl) (by kernel_rfl) (fun _ _ _ h => h) (Or.inr ⟨by rfl, rfl⟩) (HK.out _ H1.out) ?re16
      simp only [Act.put, List.getElem_toArray, List.getElem_cons_succ, List.getElem_cons_zero, List.setIfInBounds_toArray, List.set_cons_zero, List.set_cons_succ]
      refine wpAnyH_take (i := 17) (v := undef) rfl (by kernel_rfl) (by kernel_rfl) (by kernel_rfl) (fun _ _ _ h => h) (Or.inr ⟨by rfl, rfl⟩) (HK.out _ H1.out) ?re17
      simp only [Act.put, List.getElem_toArray, List.getElem_cons_succ, List.getElem_cons_zero, List.setIfInBounds_toArray, List.set_cons_zero, List.set_cons_succ]
      refine wpAnyH_take (i := 18) (v := ?ve18) rfl (by kernel_rfl) (by kernel_rfl) (by kernel_rfl) (fun _ _ _ h => h) (Or.inl ⟨by rfl, ?he18⟩) (HK.out _ H1.out) ?re18
      case he18 => (intro W hW; (try dsimp only at hW); go_simp; try with_reducible rfl)
      simp only [Act.put, List.getElem_toArray, List.getElem_cons_succ, List.getElem_cons_zero, List.setIfInBounds_toArray, List.set_cons_zero, List.set_cons_succ]
      refine wpAnyH_take (i := 19) (v := ?ve19) rfl (by kernel_rfl) (by kernel_rfl) (by kernel_rfl) (fun _ _ _ h => h) (Or.inl ⟨by rfl, ?he19⟩) (HK.out _ H1.out) ?re19
      case he19 => (intro W hW; (try dsimp only at hW); go_simp; try with_reducible rfl)
      simp only [Act.put, List.getElem_toArray, List.getElem_cons_succ, List.getElem_cons_zero, List.setIfInBounds_toArray, List.set_cons_zero, List.set_cons_succ]
      refine wpAnyH_take (i := 20) (v := undef) rfl (by kernel_rfl) (by kernel_rfl) (by kernel_rfl) (fun _ _ _ h => h) (Or.inr ⟨by rfl, rfl⟩) (HK.out _ H1.out) ?re20
      simp only [Act.put, List.getElem_toArray, List.getElem_cons_succ, List.getElem_cons_zero, List.setIfInBounds_toArray, List.set_cons_zero, List.set_cons_succ]
      refine wpAnyH_take (i := 21) (v := undef) rfl (by kernel_rfl) (by kernel_rfl) (by kernel_rfl) (fun _ _ _ h => h) (Or.inr ⟨by rfl, rfl⟩) (HK.out _ H1.out) ?re21
      simp only [Act.put, List.getElem_toArray, List.getElem_cons_succ, List.getElem_cons_zero, List.setIfInBounds_toArray, List.set_cons_zero, List.set_cons_succ]
      refine wpAnyH_take (i := 22) (v := undef) rfl (by kernel_rfl) (by kernel_rfl) (by kernel_rfl) (fun _ _ _ h => h) (Or.inr ⟨by rfl, rfl⟩) (HK.out _ H1.out) ?re22
      simp only [Act.put, List.getElem_toArray, List.getElem_cons_succ, List.getElem_cons_zero, List.setIfInBounds_toArray, List.set_cons_zero, List.set_cons_succ]
      refine wpAnyH_take (i := 23) (v := undef) rfl (by kernel_rfl) (by kernel_rfl) (by kernel_rfl) (fun _ _ _ h => h) (Or.inr ⟨by rfl, rfl⟩) (HK.out _ H1.out) ?re23
      simp only [Act.put, List.getElem_toArray, List.getElem_cons_succ, List.getElem_cons_zero, List.setIfInBounds_toArray, List.set_cons_zero, List.set_cons_succ]
      refine wpAnyH_take (i := 24) (v := undef) rfl (by kernel_rfl) (by kernel_rfl) (by kernel_rfl) (fun _ _ _ h => h) (Or.inr ⟨by rfl, rfl⟩) (HK.out _ H1.out) ?re24
      simp only [Act.put, List.getElem_toArray, List.getElem_cons_succ, List.getElem_cons_zero, List.setIfInBounds_toArray, List.set_cons_zero, List.set_cons_succ]
      refine wpAnyH_take (i := 25) (v := undef) rfl (by kernel_rfl) (by kernel_rfl) (by kernel_rfl) (fun _ _ _ h => h) (Or.inr ⟨by rfl, rfl⟩) (HK.out _ H1.out) ?re25
      simp only [Act.put, List.getElem_toArray, List.getElem_cons_succ, List.getElem_cons_zero, List.setIfInBounds_toArray, List.set_cons_zero, List.set_cons_succ]
      refine wpAnyH_take (i := 26) (v := undef) rfl (by kernel_rfl) (by kernel_rfl) (by kernel_rfl) (fun _ _ _ h => h) (Or.inr ⟨by rfl, rfl⟩) (HK.out _ H1.out) ?re26
      simp only [Act.put, List.getElem_toArray, List.getElem_cons_succ, List.getElem_cons_zero, List.setIfInBounds_toArray, List.set_cons_zero, List.set_cons_succ]
      refine wpAnyH_take (i := 27) (v := ?ve27) rfl (by kernel_rfl) (by kernel_rfl) (by kernel_rfl) (fun _ _ _ h => h) (Or.inl ⟨by rfl, ?he27⟩) (HK.out _ H1.out) ?re27
      case he27 => (intro W hW; (try dsimp only at hW); go_simp; try with_reducible rfl)
      simp only [Act.put, List.getElem_toArray, List.getElem_cons_succ, List.getElem_cons_zero, List.setIfInBounds_toArray, List.set_cons_zero, List.set_cons_succ]
      refine wpAnyH_take (i := 28) (v := ?ve28) rfl (by kernel_rfl) (by kernel_rfl) (by kernel_rfl) (fun _ _ _ h => h) (Or.inl ⟨by rfl, ?he28⟩) (HK.out _ H1.out) ?re28
      case he28 => (intro W hW; (try dsimp only at hW); go_simp; try with_reducible rfl)
      simp only [Act.put, List.getElem_toArray, List.getElem_cons_succ, List.getElem_cons_zero, List.setIfInBounds_toArray, List.set_cons_zero, List.set_cons_succ]
      refine wpAnyH_done (by kernel_rfl) ?_ _
      go_wp2
      go_ret
      exact ⟨rfl, HFIN.out _ H1.out⟩

/-- Is a record one? -/
theorem valid_any (x : Rec) (a : Option Addr) (n cap : Nat) (w : World) (h : Rd w a n x.l) :
    Calls Tryz.prog 59 #[rcV x a n cap] w fun e w' => e = .returned (.bool x.ok) ∧ Below w.heap.size w w' := by
  obtain ⟨k, i, b, f, t, l, c, dn, ds⟩ := x
  by_cases h1 : k = 1
  · subst h1; exact valid_head i b f t c l dn ds a n cap w h
  by_cases h2 : k = 2
  · subst h2; exact valid_data i b f t c l dn ds a n cap w h
  by_cases h3 : k = 3
  · subst h3; exact valid_hole i b f t c l dn ds a n cap w h
  by_cases h4 : k = 4
  · subst h4; exact valid_tail i b f t c l dn ds a n cap w h
  have e : Rec.ok ⟨k, i, b, f, t, l, c, dn, ds⟩ = false := by simp [Rec.ok, h1, h2, h3, h4]
  rw [e]
  exact valid_other k i b f t c l dn ds a n cap w h1 h2 h3 h4

end Go.Proofs.YtaijldcfoaeogaaGreat

/- The contract of bytes.Clone, over any world. -/
namespace Go.Proofs.YtaijldcfoaeogaaGreat
open Go.RowKit
set_option maxRecDepth 100000

set_option maxHeartbeats 400000 in
set_option maxRecDepth 100000 in
theorem clone_any (a : Option Addr) (n c : Nat) (l : List Nat) (w : World) (h : Rd w a n l) (hn : n ≤ 1000000) :
    Calls Tryz.prog 55 #[.slice a n c] w fun e w' => ∃ v, e = .returned v ∧ Own w' w.heap.size v l ∧ Below w.heap.size w w' := by
  obtain ⟨i0, hi0, hz0, hz1, hz2⟩ := info_parts info5
  have hnil := fun W => Lib.run_eql_slice_nil (P := Tryz.prog) W 31 5 a n c 0 0 Tryz.underlying31
  obtain ⟨hl, hby, hc⟩ := h
  cases a with
  | none =>
    have h0 : n = 0 := by
      rcases Nat.eq_zero_or_pos n with h | h
      · exact h
      · obtain ⟨b, o, h, _⟩ := hc h; cases h
    subst h0
    have : l = [] := List.eq_nil_of_length_eq_zero hl
    subst this
    clear hc hl hby
    go_enter Tryz.func55, Tryz.ntmps55
    go_wp2
    go_ret
    exact ⟨_, rfl, Own.nil _ _, Below.refl _ _⟩
  | some ad =>
    have hcells : ∀ j u, (cB l)[j]? = some u → w.cell? (ad.add j) = some u := by
      intro j u hu
      have hj : j < l.length := by
        rcases Nat.lt_or_ge j l.length with h | h
        · exact h
        · rw [List.getElem?_eq_none (by rw [cB_length]; exact h)] at hu; cases hu
      obtain ⟨b, o, he, hc'⟩ := hc (by omega)
      injection he with he
      subst he
      rw [add_plain, hc' j (by omega)]
      rw [← hu]; simp [cB, List.getD, hj]
    have HC := Lib.hid hcells
    have HL := Lib.hid hl
    clear hc hcells hl
    go_enter Tryz.func55, Tryz.ntmps55
    go_wp2_with (at_builtin; refine wpList_append_own_at _ rfl (.tmp 5) (.tmp 6) 31 rfl w.heap.size 5 i0 _ 1 1 Tryz.underlying31 hi0 hz0 hz1 hz2 rfl (by omega) (.slice (some ⟨w.heap.size, 0, none⟩) 0 0) 0 [] rfl ?hown ad n c (cB l) rfl ?hlen ?hcells (cB_one l) ?h63 ?hby ?hbase ?next)
    case hown => exact World.ownsRow_made w #[] 0 (Nat.le_refl _) (by simp [maxLen]) (by simp)
    case hlen => rw [cB_length, HL.out]; omega
    case hcells => exact fun j u hu => (World.cell?_alloc_lt _ _ _ (World.block_lt_of_cell? w _ (HC.out j u hu))).trans (HC.out j u hu)
    case h63 => unfold maxLen; omega
    case hby => omega
    case hbase => simp
    case next =>
      have HN := Lib.hid hnil
      clear hnil
      intro v' w' hown hg hnil' hat
      go_wp2
      go_ret
      refine ⟨v', rfl, ⟨hby, ?_⟩, ?_⟩
      · have := HL.out
        simpa [this] using hown
      · exact ((Below.refl _ _).alloc (Nat.le_refl _) _).grown hg (by simp) (by simp [Value.ownBlock])

theorem clone_sl (a : Option Addr) (n c : Nat) (l : List Nat) (w : World) (h : Rd w a n l) (hn : n ≤ 1000000) :
    Calls Tryz.prog 55 #[.slice a n c] w fun e w' => ∃ a' c', e = .returned (.slice a' n c') ∧ Rd w' a' n l ∧ n ≤ c' ∧ Below w.heap.size w w' := by
  refine (clone_any a n c l w h hn).mono ?_
  rintro e w' ⟨v, rfl, ho, hb⟩
  obtain ⟨a', c', rfl, hr, hc⟩ := ho.sl
  rw [h.1] at hr hc ⊢
  exact ⟨a', c', rfl, hr, hc, hb⟩

end Go.Proofs.YtaijldcfoaeogaaGreat
