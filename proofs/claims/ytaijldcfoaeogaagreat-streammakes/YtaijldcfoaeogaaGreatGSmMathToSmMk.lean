/- A stream, plainly: the pieces of a set, the records of what differs, and their Tail; it is read as they. -/
import Derived.Test.YtaijldcfoaeogaaGreatGOwnVarToIBlk
import Derived.Test.YtaijldcfoaeogaaGreatGSmRecToDNum
import Derived.Test.YtaijldcfoaeogaaGreatWMath
import Derived.Test.YtaijldcfoaeogaaGreatGRcParseDToRcInv
import Derived.Test.YtaijldcfoaeogaaGreatENums
import Derived.Test.YtaijldcfoaeogaaGreatGKeepToINew
import Derived.Test.YtaijldcfoaeogaaGreatGEAllToERangeR
import Derived.Lib.MinMax
import Derived.Deep.RegionHeld3
import Derived.Test.YtaijldcfoaeogaaGreatGRcParseToSmAdd
namespace Go.Proofs.YtaijldcfoaeogaaGreat
open Go.RowKit
set_option maxRecDepth 100000
set_option linter.unusedSimpArgs false

/-- The first k pieces of a run. -/
def segP (f t : Int) (k : Nat) : List Rn := (List.range k).map fun j : Nat => ⟨f + 4 * (j : Int), min (f + 4 * (j : Int) + 4) t⟩

theorem segP_succ (f t : Int) (k : Nat) : segP f t (k + 1) = segP f t k ++ [⟨f + 4 * (k : Int), min (f + 4 * (k : Int) + 4) t⟩] := by simp [segP, List.range_succ]

theorem segP_prefix {f t : Int} {j k : Nat} (h : j ≤ k) : segP f t j <+: segP f t k := by
  obtain ⟨d, rfl⟩ := Nat.le.dest h
  clear h
  induction d with
  | zero => exact List.prefix_refl _
  | succ d ih => exact ih.trans ⟨_, (segP_succ f t (j + d)).symm⟩

/-- How many pieces a run has. -/
def pcN (f t : Int) : Nat := ((t - f + 3) / 4).toNat

theorem pcN_lt {f t : Int} {j : Nat} : j < pcN f t ↔ f + 4 * (j : Int) < t := by unfold pcN; omega

/-- The pieces of runs. -/
def pcsR (M : List Rn) : List Rn := M.flatMap fun r => segP r.f r.t (pcN r.f r.t)

theorem pcsR_append (A B : List Rn) : pcsR (A ++ B) = pcsR A ++ pcsR B := by simp [pcsR]

theorem pcsR_one (r : Rn) : pcsR [r] = segP r.f r.t (pcN r.f r.t) := by simp [pcsR]

theorem pcsR_take_prefix (M : List Rn) (k : Nat) : pcsR (M.take k) <+: pcsR M := by
  refine ⟨pcsR (M.drop k), ?_⟩
  rw [← pcsR_append, List.take_append_drop]

theorem mem_pcsR {M : List Rn} {x : Rn} (h : x ∈ pcsR M) : ∃ r ∈ M, r.f ≤ x.f ∧ x.f < x.t ∧ x.t ≤ x.f + 4 ∧ x.t ≤ r.t := by
  simp only [pcsR, List.mem_flatMap, segP, List.mem_map, List.mem_range] at h
  obtain ⟨r, hr, j, hj, rfl⟩ := h
  refine ⟨r, hr, ?_⟩
  have := pcN_lt.1 hj
  simp only
  omega

theorem pcsR_len (M : List Rn) : (pcsR M).length ≤ (numsR M).length := by
  induction M with
  | nil => simp [pcsR, numsR]
  | cons r M ih =>
    have e1 : pcsR (r :: M) = pcsR [r] ++ pcsR M := pcsR_append [r] M
    have e2 : numsR (r :: M) = numsR [r] ++ numsR M := numsR_append [r] M
    rw [e1, e2, pcsR_one, numsR_one, List.length_append, List.length_append]
    have : (segP r.f r.t (pcN r.f r.t)).length ≤ (segR r.f (r.t - r.f).toNat).length := by
      simp only [segP, segR, List.length_map, List.length_range, pcN]
      omega
    omega

/-- The blocks of a run, one behind another. -/
def blkF (F : List (List Nat)) (r : Rn) : List Nat := (segR r.f (r.t - r.f).toNat).flatMap (fAt F)

def dataR (F : List (List Nat)) (r : Rn) : Rec := ⟨2, 0, 0, r.f, r.t, blkF F r, 0, 0, 0⟩
def holeR (r : Rn) : Rec := ⟨3, 0, 0, r.f, r.t, [], 0, 0, 0⟩
def headR (i b : Int) : Rec := ⟨1, i, b, 0, 0, [], 0, 0, 0⟩

/-- The records of a stream, without their Tail. -/
def recsR (i b : Int) (F : List (List Nat)) (M N : List Rn) : List Rec := headR i b :: ((pcsR M).map (dataR F) ++ N.map holeR)

theorem blk_len {F : List (List Nat)} (hF : okF F) (f : Int) : ∀ k : Nat, (∀ j : Nat, j < k → fAt F (f + (j : Int)) ≠ []) → ((segR f k).flatMap (fAt F)).length = 32 * k := by
  intro k
  induction k with
  | zero => intro _; simp [segR]
  | succ k ih =>
    intro h
    have h1 : fAt F (f + (k : Int)) ≠ [] := h k (by omega)
    have h2 := (hF.at_ (f + (k : Int))).resolve_left h1
    rw [segR_succ, List.flatMap_append, List.length_append, ih fun j hj => h j (by omega)]
    simp [h2.1]
    omega

theorem blkF_byte {F : List (List Nat)} (hF : okF F) (r : Rn) : ∀ z ∈ blkF F r, z < 256 := by
  intro z hz
  simp only [blkF, List.mem_flatMap] at hz
  obtain ⟨i, _, hz⟩ := hz
  rcases hF.at_ i with h | h
  · rw [h] at hz; cases hz
  · exact h.2 z hz

theorem headR_ok (i b : Int) : (headR i b).ok = (isNum i && isNum b) := by
  simp [headR, Rec.ok, Rec.eq]

theorem dataR_ok {F H : List (List Nat)} {M : List Rn} (hF : okF F) (hH : H.length = 256) (hM : SetF H M) (hs : ∀ i : Int, fAt H i ≠ [] → fAt F i ≠ []) {r : Rn} (hr : r ∈ pcsR M) : (dataR F r).ok = true ∧ 0 ≤ r.f ∧ r.f < r.t ∧ r.t ≤ 256 ∧ r.t ≤ r.f + 4 := by
  obtain ⟨q, hq, h1, h2, h3, h4⟩ := mem_pcsR hr
  obtain ⟨e1, e2, e3⟩ := hM.ends hH q hq
  have hl : (blkF F r).length = 32 * (r.t - r.f).toNat := blk_len hF r.f _ fun j hj => hs _ ((hM.mem _).1 ⟨q, hq, by omega, by omega⟩)
  refine ⟨?_, by omega, h2, by omega, h3⟩
  have e : dataR F r = ⟨2, 0, 0, r.f, r.t, blkF F r, 0, 0, 0⟩ := rfl
  rw [e]
  generalize blkF F r = z at hl
  obtain ⟨f, t⟩ := r
  simp only at h1 h2 h3 h4 hl
  simp [Rec.ok, Rec.eq, isRunB]
  omega

theorem holeR_ok {H : List (List Nat)} {N : List Rn} (hH : H.length = 256) (hN : SetF H N) {r : Rn} (hr : r ∈ N) : (holeR r).ok = true := by
  obtain ⟨e1, e2, e3⟩ := hN.ends hH r hr
  have e : holeR r = ⟨3, 0, 0, r.f, r.t, [], 0, 0, 0⟩ := rfl
  rw [e]
  obtain ⟨f, t⟩ := r
  simp only at e1 e2 e3
  simp [Rec.ok, Rec.eq, isRunB]
  omega

end Go.Proofs.YtaijldcfoaeogaaGreat

/- The blocks of a run, one behind another: the contract of blocksOf, over any world. -/
namespace Go.Proofs.YtaijldcfoaeogaaGreat
open Go.RowKit Go.Shelf
set_option linter.unusedSimpArgs false
attribute [local go_sem] Oper.semAt_some

/-- What the loop of blocksOf keeps. -/
structure IBo (V : World) (g4 : Nat) (F : List (List Nat)) (pre : List Int) (W : World) : Prop where
  var : VarR W g4 31 V.heap.size 5 1 (pre.flatMap (fAt F)).length (cB (pre.flatMap (fAt F)))
  bel : Save [g4] V W

theorem enter_blocksOf (args : Array Value) (w : World) (R : Ending → World → Prop) (c : Code) (hb : Tryz.f23.body = some c)
    (h : c.wp Tryz.prog (bodyPostM Fence.wide 3 Tryz.prog Tryz.f23 R) { tmps := args ++ Array.replicate (Tryz.f23.ntmps - args.size) undef, defers := [] } w) : Calls Tryz.prog 23 args w R :=
  (callsIn_wide (n := 3)).1 (callsIn_of_wp_marks Tryz.func23 hb trivial (wpIn_wide.2 h) rfl)

theorem flat_len4 {F : List (List Nat)} (hF : okF F) (pre : List Int) : (pre.flatMap (fAt F)).length ≤ 32 * pre.length := by
  induction pre with
  | nil => simp
  | cons x L ih =>
    rw [List.flatMap_cons, List.length_append, List.length_cons]
    have h1 : (fAt F x).length ≤ 32 := by
      rcases hF.at_ x with h | h
      · simp [h]
      · exact Nat.le_of_eq h.1
    omega

theorem set_one {x : Rn} {M : List Rn} (h : IsSet M) (hx : x.f < x.t) (hz : ∀ z, inR M z ↔ inR [x] z) : M = [x] :=
  h.unique ⟨x.f - 1, by omega, hx, trivial⟩ hz

theorem save_all {X : List Nat} {w w' : World} {a : Option Addr} {n : Nat} {M : List Rn} (h : RdR w a n M) (hs : Save X w w') (hX : ∀ b o, a = some ⟨b, o, none⟩ → b ∉ X) : RdR w' a n M := by
  refine ⟨h.1, fun hn => ?_⟩
  obtain ⟨b, o, rfl, hc⟩ := h.2 hn
  refine ⟨b, o, rfl, fun j hj => ?_⟩
  obtain ⟨c1, c2⟩ := hc j hj
  have hlt : b < w.heap.size := World.block_lt_of_cell? w _ c1
  have e := hs.block b hlt (hX b o rfl)
  simp only [World.cell?] at c1 c2 ⊢
  rw [e]
  exact ⟨c1, c2⟩

set_option maxHeartbeats 4000000 in
set_option maxRecDepth 100000 in
theorem blocksOf_any (w : World) (g b q : Nat) (F : List (List Nat)) (h : Img w g b q F) (f t : Int) (h0 : 0 ≤ f) (h1 : f < t) (h2 : t ≤ 256) (hx : ∀ z, f ≤ z → z < t → fAt F z ≠ []) :
    Calls Tryz.prog 23 #[.pointer (some ⟨g, 0, none⟩), .agg #[.int .i64 f, .int .i64 t]] w fun e w' => ∃ a c, e = .returned (.slice a (blkF F ⟨f, t⟩).length c) ∧ Hid (Rd w' a (blkF F ⟨f, t⟩).length (blkF F ⟨f, t⟩)) ∧ Hid (Below w.heap.size w w') := by
  have hmf : ∀ (fn : Fn) (first cap : Array Value) (w : World), (Instr.makeFunc fn first cap).run Tryz.prog w = .ok (.func fn first cap) w := fun _ _ _ _ => rfl
  obtain ⟨i5, hi5, hz50, hz51, hz52⟩ := info_parts info5
  obtain ⟨w3, hw3⟩ : ∃ w3, w3 = ((w.alloc (.cells #[.pointer (some ⟨g, 0, none⟩)] 26)).alloc (.cells #[.int .i64 f, .int .i64 t] 53)).alloc (.cells #[.slice none 0 0] 31) := ⟨_, rfl⟩
  obtain ⟨g1, hg1⟩ : ∃ g1, g1 = w.heap.size := ⟨_, rfl⟩
  have hs3 : w3.heap.size = g1 + 3 := by rw [hw3, hg1]; simp
  have hb3 : Below g1 w w3 := by rw [hw3, hg1]; exact (((Below.refl _ _).alloc (Nat.le_refl _) _).alloc (by simp) _).alloc (by simp; omega) _
  have hx1 : w3.heap[g1]? = some (.cells #[.pointer (some ⟨g, 0, none⟩)] 26 (0, 0)) := by
    rw [hw3, hg1]
    exact (heap_alloc_old _ _ (by simp; omega)).trans ((heap_alloc_old _ _ (by simp)).trans (heap_alloc_new w _))
  have hx2 : w3.heap[g1 + 1]? = some (.cells #[.int .i64 f, .int .i64 t] 53 (0, 0)) := by
    rw [hw3, hg1]
    have e := heap_alloc_new (w.alloc (.cells #[.pointer (some ⟨g, 0, none⟩)] 26)) (.cells #[.int .i64 f, .int .i64 t] 53)
    rw [World.size_alloc] at e
    exact (heap_alloc_old _ _ (by simp)).trans e
  have hx3 : w3.heap[g1 + 2]? = some (.cells #[.slice none 0 0] 31 (0, 0)) := by
    rw [hw3, hg1]
    have e := heap_alloc_new ((w.alloc (.cells #[.pointer (some ⟨g, 0, none⟩)] 26)).alloc (.cells #[.int .i64 f, .int .i64 t] 53)) (.cells #[.slice none 0 0] 31)
    rw [World.size_alloc, World.size_alloc] at e
    exact e
  have HW : Hid (((w.alloc (.cells #[.pointer (some ⟨g, 0, none⟩)] 26)).alloc (.cells #[.int .i64 f, .int .i64 t] 53)).alloc (.cells #[.slice none 0 0] 31) = w3 ∧ w.heap.size = g1) := Lib.hid ⟨hw3.symm, hg1.symm⟩
  have HS3 := Lib.hid hs3
  have HB3 := Lib.hid hb3
  have HX := Lib.hid (And.intro hx1 (And.intro hx2 hx3))
  have HI3 : Hid (Img w3 g b q F) := Lib.hid (h.later (by rw [← hg1]; exact hb3))
  have HGL : Hid (g < g1 ∧ b < g1) := Lib.hid (by rw [hg1]; exact ⟨h.lt, h.map.lt⟩)
  have HF := Lib.hid (And.intro h0 (And.intro h1 (And.intro h2 hx)))
  have HOf : Hid (∀ W, Below w3.heap.size w3 W → RdR W (some ⟨w3.heap.size, 0, none⟩) 1 [⟨f, t⟩] → Calls Tryz.prog 44 #[.slice (some ⟨w3.heap.size, 0, none⟩) 1 1] W fun e w' => ∃ a c, e = .returned (.slice a 1 c) ∧ Hid (RdR w' a 1 [⟨f, t⟩]) ∧ Hid (Below w3.heap.size w3 w') ∧ Hid (∀ b o, a = some ⟨b, o, none⟩ → W.heap.size ≤ b)) := Lib.hid fun W hW hr =>
    (of_any (some ⟨w3.heap.size, 0, none⟩) 1 1 [⟨f, t⟩] W hr (by omega) (by
      intro r hr
      simp only [List.mem_singleton] at hr
      subst hr
      exact ⟨by simp only; omega, by simp only; omega, by simp only; omega, by simp only; omega⟩)).mono fun e w' ⟨v, M, e1, e2, e3, e4, _, e5⟩ => by
      have hM := set_one e3 h1 e4
      subst hM
      obtain ⟨a, c, hv, hr, _, hbs⟩ := e2.rd
      subst hv
      exact ⟨a, c, e1, Lib.hid hr, Lib.hid (hW.trans (e5.mono hW.size)), Lib.hid fun b o e => (hbs b o e).1⟩
  have d1 : w3.cell? ⟨g1 + 1, 0, none⟩ = some (.int .i64 f) := by rw [cell_of_row w3 (g1 + 1) 0 _ _ _ hx2]; rfl
  have d2 : w3.cell? ⟨g1 + 1, 1, none⟩ = some (.int .i64 t) := by rw [cell_of_row w3 (g1 + 1) 1 _ _ _ hx2]; rfl
  obtain ⟨X, hX⟩ : ∃ X, X = blkF F ⟨f, t⟩ := ⟨_, rfl⟩
  obtain ⟨xl, hxl⟩ : ∃ xl, xl = X.length := ⟨_, rfl⟩
  rw [← hX, ← hxl]
  have HXE := Lib.hid (And.intro hX hxl)
  clear hX hxl
  rw [← hg1]
  clear h hw3 hs3 hb3 hx1 hx2 hx3 h0 h1 h2 hx hg1
  refine enter_blocksOf _ w _ _ rfl ?_
  simp only [Tryz.ntmps23, List.size_toArray, List.length_cons, List.length_nil, Nat.reduceAdd, Nat.reduceSub, Array.replicate_succ, Array.replicate_zero, List.push_toArray, List.append_toArray, List.nil_append, List.cons_append]
  go_upto_region 2 with fail
  rw [HW.out.1, HW.out.2]
  simp only [Nat.add_assoc, Nat.reduceAdd]
  go_wp2_with fail
  refine (HOf.out _ (Below.alloc0 _ _) ⟨rfl, fun _ => ⟨_, _, rfl, fun j hj => ?_⟩⟩).mono ?_
  · obtain rfl : j = 0 := by omega
    have e := heap_alloc_new w3 (.cells #[.int .i64 f, .int .i64 t] 53)
    exact ⟨by rw [cell_of_row _ _ _ _ _ _ e]; rfl, by rw [cell_of_row _ _ _ _ _ _ e]; rfl⟩
  rintro e V ⟨sa, sc, rfl, HRV, HBV, HLV⟩
  have HVS : Hid (g1 + 2 < V.heap.size ∧ w3.heap.size ≤ V.heap.size) := Lib.hid (by have h1 := HBV.out.size; have h2 := HS3.out; omega)
  have HX3 : Hid (V.heap[g1 + 2]? = some (.cells #[.slice none 0 0] 31 (0, 0))) := Lib.hid ((HBV.out.block (g1 + 2) (by have := HS3.out; omega)).trans HX.out.2.2)
  have HIV : Hid (∀ W, Save [g1 + 2] V W → Img W g b q F) := Lib.hid fun W hW => by
    exact (HI3.out.later HBV.out).save hW (by have := HGL.out.1; simp; omega) (by have := HGL.out.2; simp; omega)
  have HC1 : Hid (∀ W, Save [g1 + 2] V W → W.cell? ⟨g1, 0, none⟩ = some (.pointer (some ⟨g, 0, none⟩))) := Lib.hid fun W hW => by
    have e := (hW.block g1 (by have := HVS.out; omega) (by simp)).trans ((HBV.out.block g1 (by have := HS3.out; omega)).trans HX.out.1)
    simp [World.cell?, e]
  clear d1 d2
  go_wp2_with fail
  refine (wpIn_wide (n := 3)).1 ?_
  generalize hact : (Act.mk _ []) = act
  have hok1 : ∀ r ∈ [(⟨f, t⟩ : Rn)], r.ok := by
    intro r hr
    simp only [List.mem_singleton] at hr
    subst hr
    have := HF.out
    exact ⟨by simp only; omega, by simp only; omega, by simp only; omega, by simp only; omega⟩
  refine range_allR sa 1 sc [⟨f, t⟩] (by omega) hok1 (by rw [← hact]; rfl) rfl (RowAt (g1 + 2) 31) (IBo V (g1 + 2) F) (fun _ _ _ => False)
    (fun W W' k hb hr => hr.back (hb.block (g1 + 2) HVS.out.1))
    (fun pre W k h hr => (h.var.cells hr).2)
    (fun pre W W' h hb hr => ⟨h.var.same (hb.block (g1 + 2) HVS.out.1) hr, ⟨hb.os.trans h.bel.os, hb.tape.trans h.bel.tape, hb.output.trans h.bel.output, Nat.le_trans h.bel.size hb.size, fun k hk hx => (hb.block k hk).trans (h.bel.block k hk hx)⟩⟩)
    (fun _ _ _ _ h _ => h) (fun pre W h => save_all HRV.out h.bel fun b o e => by have h1 := HLV.out b o e; have h2 := HS3.out; simp at h1 ⊢; omega)
    ⟨⟨_, HX3.out, World.ownsRow_nil _ _ _ _⟩, Save.refl _ _⟩
    (fun x => { tmps := (act.tmps.setIfInBounds 13 (.int .i64 x)).setIfInBounds 6 (.int .i64 x), defers := [] }) ?assign ?body ?done ?stop
  case stop => intro D c pre W _ _ h _; exact h.elim
  case assign =>
    intro l x W K hK
    subst hact
    simp only [List.setIfInBounds_toArray, List.set_cons_succ, List.set_cons_zero] at hK
    gi_wp2
    exact hK
  case body =>
    intro l pre x W hI hsz hpre
    subst hact
    simp only [List.setIfInBounds_toArray, List.set_cons_succ, List.set_cons_zero]
    obtain ⟨v, hv, ho⟩ := hI.var
    have hxm : x ∈ numsR [(⟨f, t⟩ : Rn)] := hpre.subset (by simp)
    have hxr := mem_numsR.1 hxm
    have hxb : f ≤ x ∧ x < t := by
      obtain ⟨r, hr, h1, h2⟩ := hxr
      simp only [List.mem_singleton] at hr
      subst hr
      exact ⟨h1, h2⟩
    have hfx : fAt F x ≠ [] := HF.out.2.2.2 x hxb.1 hxb.2
    have hwf : (Lit.int .i64 x).wf = true := WalkArith.wf_i64 (by have := HF.out; omega)
    have HGet := Lib.hid (get_block W g b q F x (HIV.out W hI.bel) hwf hfx)
    have d1 := HC1.out W hI.bel
    obtain ⟨L0, hL0⟩ : ∃ L0, L0 = (pre.flatMap (fAt F)).length := ⟨_, rfl⟩
    rw [← hL0] at ho
    have HL0 := Lib.hid hL0
    have HV := Lib.hid (And.intro hv ho)
    have HIh := Lib.hid hI
    have HSz := Lib.hid hsz
    have HPl : Hid (pre.length ≤ 256) := Lib.hid (by
      have h1 := hpre.length_le
      have h2 := HF.out
      rw [numsR_one] at h1
      simp [segR] at h1
      omega)
    clear hv ho hI hsz hpre hxm hxr hfx hwf hL0 hxb
    gi_wp2_with fail
    refine ⟨trivial, (CallsIn.inRound l (callsIn_wide.2 HGet.out)).mono ?_⟩
    rintro e w5 ⟨a5, c5, rfl, hr5, hb5⟩
    obtain ⟨b5, o5, rfl, _⟩ := hr5.2.2 (by omega)
    have HR5 := Lib.hid hr5
    have HB5 := Lib.hid hb5
    have hlt4 : g1 + 2 < W.heap.size := Nat.lt_of_lt_of_le HVS.out.1 HSz.out
    have hv5 : w5.heap[g1 + 2]? = some (.cells #[v] 31 (0, 0)) := (HB5.out.block (g1 + 2) hlt4).trans HV.out.1
    have d7 : w5.cell? ⟨g1 + 2, 0, none⟩ = some v := by rw [cell_of_row w5 (g1 + 2) 0 _ _ _ hv5]; rfl
    have HO5 := Lib.hid (owns_same HV.out.2 (W' := w5) (fun k hk => HB5.out.block k (by obtain ⟨_, cs, h2⟩ := owns_block HV.out.2 hk; exact lt_of_block h2)))
    have HSz5 : Hid (V.heap.size ≤ w5.heap.size) := Lib.hid (Nat.le_trans HSz.out HB5.out.size)
    have HLen : Hid (L0 ≤ 20000) := Lib.hid (by have h1 := flat_len4 HI3.out.ok pre; have := HPl.out; rw [HL0.out]; omega)
    clear hr5 hb5 hlt4 d1 hv5
    gi_wp2_with (refine wpListIn_append_own_at _ rfl (.tmp 20) (.tmp 21) 31 rfl V.heap.size 5 i5 _ 1 1 Tryz.underlying31 hi5 hz50 hz51 hz52 rfl (by omega) v L0 (cB (pre.flatMap (fAt F))) rfl HO5.out ⟨b5, o5, none⟩ 32 c5 (cB (fAt F x)) rfl (by rw [cB_length, HR5.out.1]) (rd_cells HR5.out) (cB_one _) (by have := HLen.out; unfold maxLen; omega) (by have := HLen.out; omega) HSz5.out ?_; intro v' w8 hown8 hgr8 _ hat8; obtain ⟨sa8, sc8, hv8⟩ := owns_shape hown8; subst hv8; obtain ⟨p1, p2, p3, p4, hcv, hfv⟩ := var_appended HV.out.1 HVS.out.1 HB5.out (fun k hk => (owns_block HV.out.2 hk).1) hown8 hgr8 hat8 HSz.out)
    have e : (pre ++ [x]).flatMap (fAt F) = pre.flatMap (fAt F) ++ fAt F x := by
      rw [List.flatMap_append]
      simp
    refine ⟨p2, ⟨?_, ⟨p3.os.trans HIh.out.bel.os, p3.tape.trans HIh.out.bel.tape, p3.output.trans HIh.out.bel.output, Nat.le_trans HSz.out p2.size, fun k hk hx => (p4 k hk (by simpa using hx)).trans (HIh.out.bel.block k hk hx)⟩⟩⟩
    rw [e, cB_append, List.length_append, HR5.out.1, ← HL0.out]
    exact p1
  case done =>
    intro D W hD hI hdef
    subst hact
    obtain ⟨v, hv, ho⟩ := hI.var
    have hBF : (numsR [(⟨f, t⟩ : Rn)]).flatMap (fAt F) = X := by rw [numsR_one, HXE.out.1]; rfl
    rw [hBF] at ho
    have hox : Own W V.heap.size v X := ⟨by rw [HXE.out.1]; exact blkF_byte HI3.out.ok _, ho⟩
    obtain ⟨xa, xc, rfl, hrx, _, hxl⟩ := hox.lies
    have d1 : W.cell? ⟨g1 + 2, 0, none⟩ = some (.slice xa xl xc) := by rw [cell_of_row W (g1 + 2) 0 _ _ _ hv, HXE.out.2]; rfl
    rw [← HXE.out.2] at hrx
    have HRX := Lib.hid hrx
    have HXD : Hid (∀ b o, xa = some ⟨b, o, none⟩ → 0 < xl → b ≠ D) := Lib.hid fun b o e hn hbd => by
      rw [e] at hrx
      obtain ⟨b', o', e', hc⟩ := hrx.2.2 hn
      injection e' with e'
      injection e' with e1 e2
      subst e1
      have h1 := hc 0 hn
      simp only [World.cell?] at h1
      rw [hbd, hdef] at h1
      cases h1
    have HBW : Hid (Below g1 w W) := Lib.hid (by
      refine HB3.out.trans ((HBV.out.mono (by have := HS3.out; omega)).trans ⟨hI.bel.os, hI.bel.tape, hI.bel.output, hI.bel.size, fun k hk => hI.bel.block k (by have := HVS.out.1; omega) (by simp; omega)⟩))
    have HD := Lib.hid (And.intro hD hdef)
    clear hv ho hBF hox hrx hxl hI hD hdef
    go_wp2
    refine ⟨by simp, .inl ⟨_, _, rfl, run_takeDeferred HD.out.2, ?_⟩⟩
    refine ⟨.slice xa xl xc, by simp [results, Tryz.results23, go_sem], xa, xc, rfl, Lib.hid ?_, Lib.hid ?_⟩
    · exact HRX.out.blk fun b o e hn => World.putObj_heap_other (HXD.out b o e hn)
    · exact HBW.out.trans (below_put (by have := HD.out.1; have := HVS.out.1; omega) _ _)

end Go.Proofs.YtaijldcfoaeogaaGreat

/- A loop over the pieces of a set, whose body keeps a row of its own: what it keeps, piece by piece, holds behind it. -/
namespace Go.Proofs.YtaijldcfoaeogaaGreat
open Go.RowKit Go.Shelf
set_option linter.unusedSimpArgs false

/-- How a round may be left. -/
def rPostP (R : World → Nat → Prop) (B : Nat) (I : List Rn → World → Prop) (Ix : Code → List Rn → World → Prop) (xs : List Rn) (W : World) : Exit → Act → World → Prop
  | .normal, _, W' => KeepRU R B W W' ∧ I xs W'
  | .ret, _, W' => KeepRU R B W W' ∧ Ix .ret xs W'
  | .exit id, _, W' => KeepRU R B W W' ∧ Ix (.exit id) xs W'
  | _, _, _ => False

set_option maxHeartbeats 4000000 in
set_option maxRecDepth 100000 in
theorem pcs_inR (F : Fence) (n : Nat) (hF : F.fn 43) (hro : F.round = none) (hn : 1 ≤ n) (gp : Nat) (sa : Option Addr) (sn sc : Nat) (M : List Rn) (hsn : sn ≤ 1000000) (hok : ∀ r ∈ M, r.ok) (l B : Nat) (R : World → Nat → Prop) (J Jx : List Rn → World → Prop)
    (hJa : ∀ pre W o, J pre W → J pre (W.alloc o)) (hRa : ∀ pre W o k, J pre W → R (W.alloc o) k → R W k) (hRc : ∀ pre W k, J pre W → R W k → k < W.heap.size) (hJG : ∀ pre W, J pre W → W.cell? ⟨gp, 0, none⟩ = some (.slice sa sn sc) ∧ RdR W sa sn M ∧ B ≤ W.heap.size ∧ l < W.heap.size)
    (hY : ∀ pre x W1, J pre W1 → pre ++ [x] <+: pcsR M → YieldAt F (n - 1) Tryz.prog l #[.agg #[.int .i64 x.f, .int .i64 x.t]] W1 fun e W' => (e = .returned (.bool true) ∧ J (pre ++ [x]) W' ∧ KeepR R B l W1 W') ∨ (e = .returned (.bool false) ∧ Jx (pre ++ [x]) W'))
    (W : World) (h0 : J [] W) :
    CallsIn F n Tryz.prog 43 #[.func (.yield l) #[] #[], .pointer (some ⟨gp, 0, none⟩)] W fun e W' => (∃ v, e = .returned v) ∧ (J (pcsR M) W' ∨ ∃ pre, pre <+: pcsR M ∧ Jx pre W') := by
  have HJa := Lib.hid hJa
  have HRa := Lib.hid hRa
  have HRc := Lib.hid hRc
  have HJG := Lib.hid hJG
  have HY := Lib.hid hY
  have HOk := Lib.hid hok
  have HML := Lib.hid (hJG _ _ h0).2.1.1
  have hgp := (hJG _ _ h0).1
  clear hJa hJG hY hok hRa hRc
  refine callsIn_of_wp Tryz.func43 rfl hF ?_ hro
  simp only [Tryz.ntmps43, List.size_toArray, List.length_cons, List.length_nil, Nat.reduceAdd, Nat.reduceSub, Array.replicate_succ, Array.replicate_zero, List.push_toArray, List.append_toArray, List.nil_append, List.cons_append]
  gi_wp2
  clear hgp
  gi_loopw [8] (fun i wr => ∃ k : Nat, k ≤ sn ∧ i = .int .i64 (k : Int) ∧ J (pcsR (M.take k)) wr) (fun i _ => sn - (intOf i).toNat)
  case atStart => exact ⟨0, Nat.zero_le _, rfl, by simpa [pcsR] using h0⟩
  case round =>
    obtain ⟨k, hk, rfl, hJ⟩ := hrel
    by_cases hlt : k < sn
    · obtain ⟨_, hrd, hBw, hlw⟩ := HJG.out _ _ hJ
      obtain ⟨b, o, r, rfl, hre, hbl, e0, e1⟩ := hrd.at_ (Below.refl _ _) hlt
      have hkl : k < M.length := by have := HML.out; omega
      have hst := takeR_succ hkl hre
      have hrk : r.ok := by rw [hre]; exact HOk.out _ (getD_mem hkl)
      have HST := Lib.hid hst
      have HRK := Lib.hid hrk
      have hnR : ¬ R (wr.alloc (.cells #[.int .i64 r.f, .int .i64 r.t] 53)) wr.heap.size := fun hR => Nat.lt_irrefl _ (HRc.out _ _ _ hJ (HRa.out _ _ _ _ hJ hR))
      have HnR := Lib.hid hnR
      have HJ := Lib.hid (HJa.out _ _ (.cells #[.int .i64 r.f, .int .i64 r.t] 53) hJ)
      obtain ⟨f, t⟩ := r
      simp only at e0 e1 HnR
      clear hst hre hkl hrk hrd hJ hnR
      gi_wp2
      obtain ⟨q, hq⟩ : ∃ q, q = pcN f t := ⟨_, rfl⟩
      obtain ⟨bx, hbx⟩ : ∃ bx, bx = wr.heap.size := ⟨_, rfl⟩
      have HBx : Hid (B ≤ bx ∧ bx ≠ l) := Lib.hid (by omega)
      have hrk2 : f + 4 * (q : Int) ≤ 1099511627780 ∧ -1099511627776 ≤ t ∧ t ≤ 1099511627776 ∧ f ≤ 1099511627776 := by
        obtain ⟨h1, h2, h3, h4⟩ := HRK.out
        simp only at h1 h2 h3 h4
        unfold pcN at hq
        omega
      have hrk3 : -1099511627776 ≤ f := HRK.out.1
      have HPre : Hid (∀ j, j < q → (pcsR (M.take k) ++ segP f t j) ++ [⟨f + 4 * (j : Int), min (f + 4 * (j : Int) + 4) t⟩] <+: pcsR M) := Lib.hid (by
        intro j hj
        have h1 := pcsR_take_prefix M (k + 1)
        rw [HST.out, pcsR_append, pcsR_one] at h1
        refine List.IsPrefix.trans ?_ h1
        rw [List.append_assoc, ← segP_succ]
        have h2 : segP f t (j + 1) <+: segP f t (pcN f t) := segP_prefix (by omega)
        obtain ⟨z, hz⟩ := h2
        exact ⟨z, by simp only; rw [List.append_assoc, hz]⟩)
      have HSt2 : Hid (pcsR (M.take (k + 1)) = pcsR (M.take k) ++ segP f t q) := Lib.hid (by rw [HST.out, pcsR_append, pcsR_one, hq])
      have hc1 : (wr.alloc (.cells #[.int .i64 f, .int .i64 t] 53)).cell? ⟨bx, 1, none⟩ = some (.int .i64 t) := by rw [hbx]; exact (BoxR.new wr f t 53).2
      have hbs : bx < (wr.alloc (.cells #[.int .i64 f, .int .i64 t] 53)).heap.size := by rw [hbx]; simp
      obtain ⟨w0, hw0⟩ : ∃ w0, w0 = wr.alloc (.cells #[.int .i64 f, .int .i64 t] 53) := ⟨_, rfl⟩
      rw [← hbx] at HnR
      rw [← hw0] at HJ hc1 hbs HnR ⊢
      rw [← hbx]
      clear hw0 hbx e0 e1 hlw hBw
      have HQ := Lib.hid hq
      clear hq
      gi_loopw [5] (fun v wq => ∃ j : Nat, j ≤ q ∧ v = .int .i64 (f + 4 * (j : Int)) ∧ Hid (J (pcsR (M.take k) ++ segP f t j) wq) ∧ wq.cell? ⟨bx, 1, none⟩ = some (.int .i64 t) ∧ bx < wq.heap.size ∧ Hid (¬ R wq bx)) (fun v _ => (f + 4 * (q : Int) - intOf v).toNat)
      case atStart => exact ⟨0, Nat.zero_le _, by simp, Lib.hid (by simpa [segP] using HJ.out), hc1, hbs, HnR⟩
      case round =>
        obtain ⟨j, hj, rfl, HJj, hcj, hbj, HnRj⟩ := hrel
        by_cases hjq : j < q
        · have hlt2 : f + 4 * (j : Int) < t := pcN_lt.1 (by rw [← HQ.out]; exact hjq)
          obtain ⟨fn, tmps, assign, body, hy, hR⟩ := HY.out _ ⟨f + 4 * (j : Int), min (f + 4 * (j : Int) + 4) t⟩ wr HJj.out (HPre.out j hjq)
          gi_wp2
          refine hR.mono ?_
          rintro e W3 (⟨rfl, hJ3, hk3⟩ | ⟨rfl, hJx3⟩)
          · have hcj3 : W3.cell? ⟨bx, 1, none⟩ = some (.int .i64 t) := (World.cell?_of_block (w := wr) (hk3.same bx HBx.out.1 HBx.out.2 hbj HnRj.out)).trans hcj
            gi_wp2
            go_roundw
            case rel => exact ⟨j + 1, by omega, by congr 1; omega, Lib.hid (by rw [segP_succ, ← List.append_assoc]; exact hJ3), hcj3, Nat.lt_of_lt_of_le hbj hk3.size, Lib.hid fun hR => (hk3.row bx hR).elim HnRj.out (fun h => by omega)⟩
            case measure => simp [intOf]; omega
          · gi_wp2
            refine bodyPost_ret (results_none rfl _ _ _) rfl ?_
            exact ⟨⟨_, rfl⟩, .inr ⟨_, HPre.out j hjq, hJx3⟩⟩
        · have hge : t ≤ f + 4 * (j : Int) := by have h := mt pcN_lt.2 (show ¬ j < pcN f t by rw [← HQ.out]; exact hjq); omega
          obtain rfl : j = q := by omega
          gi_wp2
          go_roundw
          case rel => exact ⟨k + 1, by omega, by simp, by rw [HSt2.out]; exact HJj.out⟩
          case measure => simp [intOf]; omega
    · obtain rfl : k = sn := by omega
      rw [List.take_of_length_le (by have := HML.out; omega)] at hJ
      gi_wp2
      go_end0
      exact ⟨⟨_, rfl⟩, .inl hJ⟩

theorem range_pcsR {g : Operand} {ps : Array Tmp} {assign body : Code} {Q : Exit → Act → World → Prop} {a : Act} {w : World} (gp : Nat) (sa : Option Addr) (sn sc : Nat) (M : List Rn) (hsn : sn ≤ 1000000) (hok : ∀ r ∈ M, r.ok)
    (hg : a.eval g = .func (.func 43) #[] #[.pointer (some ⟨gp, 0, none⟩)]) (hps : ps.size = 1) (R : World → Nat → Prop) (I : List Rn → World → Prop) (Ix : Code → List Rn → World → Prop)
    (hR : ∀ W W' k, Below w.heap.size W W' → R W' k → R W k) (hRc : ∀ pre W k, I pre W → R W k → ∃ cs t fr, W.heap[k]? = some (.cells cs t fr))
    (hI : ∀ pre W W', I pre W → Below w.heap.size W W' → (∀ k, R W k → W'.heap[k]? = W.heap[k]?) → I pre W') (hIx : ∀ c pre W W', Ix c pre W → Below w.heap.size W W' → Ix c pre W') (hG : ∀ pre W, I pre W → W.cell? ⟨gp, 0, none⟩ = some (.slice sa sn sc) ∧ RdR W sa sn M) (h0 : I [] w) (a₁ : Rn → Nat → Act)
    (hassign : ∀ (l : Nat) (x : Rn) (W : World) (K : Act → World → Prop), K (a₁ x W.heap.size) (W.alloc (.cells #[.int .i64 x.f, .int .i64 x.t] 53)) → assign.wpIn (Fence.wide.inRound l) 1 Tryz.prog (Exit.then K (fun _ _ _ => False)) { tmps := (ps.zip #[Value.agg #[.int .i64 x.f, .int .i64 x.t]]).foldl (fun t (p, v) => t.setIfInBounds p v) a.tmps, defers := [] } W)
    (hbody : ∀ (l : Nat) (pre : List Rn) (x : Rn) (bx : Nat) (W : World), I pre W → w.heap.size ≤ bx → W.heap[bx]? = some (.cells #[.int .i64 x.f, .int .i64 x.t] 53 (0, 0)) → ¬ R W bx → pre ++ [x] <+: pcsR M → body.wpIn (Fence.wide.inRound l) 1 Tryz.prog (rPostP R w.heap.size I Ix (pre ++ [x]) W) (a₁ x bx) W)
    (hdone : ∀ (D : Nat) (W : World), w.heap.size ≤ D → I (pcsR M) W → W.heap[D]? = some (.deferred (some [])) → Q .normal { a with defers := { target := .collected D, args := #[] } :: a.defers } W)
    (hstop : ∀ (D : Nat) (c : Code) (pre : List Rn) (W : World), w.heap.size ≤ D → pre <+: pcsR M → Ix c pre W → W.heap[D]? = some (.deferred (some [])) → c.wpIn Fence.wide 3 Tryz.prog Q { a with defers := { target := .collected D, args := #[] } :: a.defers } W) :
    (Code.rangeFunc g ps assign body).wpIn Fence.wide 3 Tryz.prog Q a w := by
  refine wpIn_rangeFunc ?_
  intro fn hfn
  obtain ⟨B, hB⟩ : ∃ B, B = w.heap.size := ⟨_, rfl⟩
  rw [← hB] at hI hIx hR hbody hdone hstop
  obtain ⟨rec, hrec⟩ : ∃ rec : LoopState → Option Code → Loop, rec = fun st pe => { state := st, pending := pe, fn, tmps := a.tmps, params := ps, assign, body, defers := B } := ⟨_, rfl⟩
  obtain ⟨W1, hW1⟩ : ∃ W1, W1 = (w.alloc (.deferred (some []))).alloc (.loop (rec .ready none)) := ⟨_, rfl⟩
  have e1 : W1.heap[B + 1]? = some (.loop (rec .ready none)) := by
    have := World.alloc_heap_new (w.alloc (.deferred (some []))) (.loop (rec .ready none))
    rw [World.size_alloc, ← hB, ← hW1] at this
    exact this
  have e0 : W1.heap[B]? = some (.deferred (some [])) := by
    rw [hW1, hB]
    exact (Below.heap_alloc _ _ _ (by simp)).trans (World.alloc_heap_new w _)
  have hb1 : Below w.heap.size w W1 := by rw [hW1]; exact ((Below.refl _ w).alloc (Nat.le_refl _) _).alloc (by simp) _
  have lt_row : ∀ {pre W k}, I pre W → R W k → k < W.heap.size := fun h hr => by obtain ⟨_, _, _, e⟩ := hRc _ _ _ h hr; exact (Array.getElem?_eq_some_iff.1 e).1
  have ne_row : ∀ {pre W k o}, I pre W → W.heap[B + 1]? = some (.loop o) → R W k → k ≠ B + 1 := fun h hl hr => by
    rintro rfl
    obtain ⟨_, _, _, e⟩ := hRc _ _ _ h hr
    rw [hl] at e
    cases e
  have hI1 : I [] W1 := hI _ _ _ h0 (by rw [hB]; exact hb1) (fun k hr => hb1.block k (lt_row h0 hr))
  refine ⟨B + 1, [{ target := .collected B, args := #[] }], W1, { target := .fn (.func 43) #[.pointer (some ⟨gp, 0, none⟩)], args := #[.func (.yield (B + 1)) #[] #[]] }, W1, 43, #[.func (.yield (B + 1)) #[] #[], .pointer (some ⟨gp, 0, none⟩)], W1, ?_, ?_, ?_, ?_, fun _ => by omega, ?_⟩
  · rw [hW1, hrec, hB]; exact run_enterLoop_outer _ _ _ _ _
  · simp only [resolve, hg]
    simp [go_sem]
  · intro f' _; trivial
  · have eg : ∀ args w, (callFunc 43 args).run Tryz.prog w = .ok (.enter 43 args) w := enters_of Tryz.func43 (by kernel_rfl) rfl
    simp [invoke, go_sem, eg]
  · have lt_of : ∀ {W : World} {o : Obj}, W.heap[B + 1]? = some o → B + 1 < W.heap.size := fun h => (Array.getElem?_eq_some_iff.1 h).1
    refine (pcs_inR Fence.wide 2 trivial rfl (by omega) gp sa sn sc M hsn hok (B + 1) B R
      (fun pre W => I pre W ∧ W.heap[B + 1]? = some (.loop (rec .ready none)) ∧ W.heap[B]? = some (.deferred (some [])))
      (fun pre W => ∃ c, Ix c pre W ∧ W.heap[B + 1]? = some (.loop (rec .done (some c))) ∧ W.heap[B]? = some (.deferred (some [])))
      (fun pre W o h => ?_) (fun pre W o k h hr => hR W _ k ((Below.refl _ _).alloc (by have := lt_of h.2.1; omega) _) hr) (fun pre W k h hr => by obtain ⟨_, _, _, e⟩ := hRc pre W k h.1 hr; exact (Array.getElem?_eq_some_iff.1 e).1) (fun pre W h => ⟨(hG _ _ h.1).1, (hG _ _ h.1).2, by have := lt_of h.2.1; omega, lt_of h.2.1⟩) ?_ W1 ⟨hI1, e1, e0⟩).mono ?_
    · have hl := lt_of h.2.1
      exact ⟨hI _ _ _ h.1 ((Below.refl _ _).alloc (by omega) _) (fun k hr => Below.heap_alloc _ _ _ (lt_row h.1 hr)), (Below.heap_alloc _ _ _ (by omega)).trans h.2.1, (Below.heap_alloc _ _ _ (by omega)).trans h.2.2⟩
    · rintro pre x W ⟨hi, hl, hd⟩ hpre
      have hlt := lt_of hl
      have hy := run_yield (P := Tryz.prog) (args := #[Value.agg #[.int .i64 x.f, .int .i64 x.t]]) hl (by rw [hrec]; exact hps.symm)
      rw [hrec] at hy
      obtain ⟨V, hV⟩ : ∃ V, V = W.alloc (.cells #[.int .i64 x.f, .int .i64 x.t] 53) := ⟨_, rfl⟩
      have hbV : Below B W V := by rw [hV]; exact (Below.refl _ _).alloc (by omega) _
      have hiV : I pre V := hI _ _ _ hi hbV (fun k hr => by rw [hV]; exact Below.heap_alloc _ _ _ (lt_row hi hr))
      have hlV : V.heap[B + 1]? = some (.loop (rec .ready none)) := by rw [hV]; exact (Below.heap_alloc _ _ _ (by omega)).trans hl
      have hdV : V.heap[B]? = some (.deferred (some [])) := by rw [hV]; exact (Below.heap_alloc _ _ _ (by omega)).trans hd
      have hsV : V.heap.size = W.heap.size + 1 := by rw [hV]; simp
      have hxV : V.heap[W.heap.size]? = some (.cells #[.int .i64 x.f, .int .i64 x.t] 53 (0, 0)) := by rw [hV]; exact heap_alloc_new W _
      have hnV : ¬ R V W.heap.size := fun hr => Nat.lt_irrefl _ (lt_row hi (hR W V _ hbV hr))
      obtain ⟨W2, hW2⟩ : ∃ W2, W2 = V.putObj (B + 1) (.loop { rec .ready none with state := .busy }) := ⟨_, rfl⟩
      have hl2 : W2.heap[B + 1]? = some (.loop { rec .ready none with state := .busy }) := by rw [hW2]; exact World.putObj_heap_same (by omega)
      have hd2 : W2.heap[B]? = some (.deferred (some [])) := by rw [hW2]; exact (World.putObj_heap_other (by omega)).trans hdV
      have hs2 : W2.heap.size = W.heap.size + 1 := by rw [hW2]; simp [hsV]
      have hbeg := run_beginRound (P := Tryz.prog) hlV (by rw [hrec])
      rw [← hW2] at hbeg
      have hi2 : I pre W2 := hI _ _ _ hiV (by rw [hW2]; exact below_put (by omega) _ _) (fun k hr => by rw [hW2]; exact World.putObj_heap_other (ne_row hiV hlV hr))
      have hx2 : W2.heap[W.heap.size]? = some (.cells #[.int .i64 x.f, .int .i64 x.t] 53 (0, 0)) := by rw [hW2]; exact (World.putObj_heap_other (by omega)).trans hxV
      have hn2 : ¬ R W2 W.heap.size := fun hr => hnV (hR V W2 _ (by rw [hW2]; exact below_put (by omega) _ _) hr)
      refine ⟨fn, _, assign, body, hy, roundIn_of_wpIn hfn (hassign _ x W _ ?_)⟩
      rw [← hV]
      refine ⟨W2, hbeg, ?_⟩
      refine wpIn_mono (hbody _ pre x W.heap.size W2 hi2 (by omega) hx2 hn2 hpre) ?_
      have fin : ∀ (jump : Option Code) (W3 : World), KeepRU R B W2 W3 →
          (Instr.endRound (B + 1) jump).run Tryz.prog W3 = .ok (.bool jump.isNone) (W3.putObj (B + 1) (.loop (rec (if jump.isNone then .ready else .done) jump))) ∧
          (W3.putObj (B + 1) (.loop (rec (if jump.isNone then .ready else .done) jump))).heap[B + 1]? = some (.loop (rec (if jump.isNone then .ready else .done) jump)) ∧
          (W3.putObj (B + 1) (.loop (rec (if jump.isNone then .ready else .done) jump))).heap[B]? = some (.deferred (some [])) ∧
          KeepR R B (B + 1) W (W3.putObj (B + 1) (.loop (rec (if jump.isNone then .ready else .done) jump))) ∧ ∃ o, W3.heap[B + 1]? = some (.loop o) := by
        intro jump W3 hk3
        have n1 : ¬ R W2 (B + 1) := fun hr => by obtain ⟨_, _, _, e⟩ := hRc pre W2 _ hi2 hr; rw [hl2] at e; cases e
        have n0 : ¬ R W2 B := fun hr => by obtain ⟨_, _, _, e⟩ := hRc pre W2 _ hi2 hr; rw [hd2] at e; cases e
        have hl3 := (hk3.same (B + 1) (by omega) (by omega) n1).trans hl2
        have hr := run_endRound (P := Tryz.prog) jump hl3
        have hlt3 := lt_of hl3
        refine ⟨?_, World.putObj_heap_same hlt3, ?_, ⟨?_, ?_, ?_⟩, ⟨_, hl3⟩⟩
        · rw [hrec] at hr ⊢; exact hr
        · exact (World.putObj_heap_other (by omega)).trans ((hk3.same B (Nat.le_refl _) (by omega) n0).trans hd2)
        · have := hk3.size; simp; omega
        · intro k hk hne hkl hnr
          have hnrV : ¬ R V k := fun hr => hnr (hR W V k hbV hr)
          have hnr2 : ¬ R W2 k := fun hr => hnrV (hR V W2 k (by rw [hW2]; exact below_put (by omega) _ _) hr)
          rw [World.putObj_heap_other hne, hk3.same k hk (by omega) hnr2, hW2, World.putObj_heap_other hne, hV]
          exact Below.heap_alloc _ _ _ hkl
        · intro k hr
          rcases hk3.row k (hR W3 _ k (below_put (by omega) _ _) hr) with h1 | h1
          · exact .inl (hR W V k hbV (hR V W2 k (by rw [hW2]; exact below_put (by omega) _ _) h1))
          · exact .inr (by omega)
      rintro e a3 W3 hp
      cases e with
      | normal =>
        obtain ⟨hk3, hi3⟩ := hp
        obtain ⟨hr, hl4, hd4, hk4, o3, hl3⟩ := fin none W3 hk3
        exact ⟨_, _, hr, .inl ⟨rfl, ⟨hI _ _ _ hi3 (below_put (by omega) _ _) (fun k hr => World.putObj_heap_other (ne_row hi3 hl3 hr)), hl4, hd4⟩, hk4⟩⟩
      | ret =>
        obtain ⟨hk3, hi3⟩ := hp
        obtain ⟨hr, hl4, hd4, hk4, _⟩ := fin (some .ret) W3 hk3
        exact ⟨_, _, hr, .inr ⟨rfl, .ret, hIx _ _ _ _ hi3 (below_put (by omega) _ _), hl4, hd4⟩⟩
      | exit id =>
        obtain ⟨hk3, hi3⟩ := hp
        obtain ⟨hr, hl4, hd4, hk4, _⟩ := fin (some (.exit id)) W3 hk3
        exact ⟨_, _, hr, .inr ⟨rfl, .exit id, hIx _ _ _ _ hi3 (below_put (by omega) _ _), hl4, hd4⟩⟩
      | goto t => exact hp.elim
      | panic ch => exact hp.elim
      | outgrown => exact hp.elim
    · rintro e W2 ⟨⟨v, rfl⟩, (⟨hi, hl, hd⟩ | ⟨pre, hpre, c, hi, hl, hd⟩)⟩
      · have hr := run_endLoop (P := Tryz.prog) hl (by rw [hrec]; simp)
        exact ⟨none, _, by rw [hrec] at hr; exact hr, hdone B _ (Nat.le_refl _) (hI _ _ _ hi (below_put (by omega) _ _) (fun k hr => World.putObj_heap_other (ne_row hi hl hr))) ((World.putObj_heap_other (by omega)).trans hd)⟩
      · have hr := run_endLoop (P := Tryz.prog) hl (by rw [hrec]; simp)
        exact ⟨some c, _, by rw [hrec] at hr; exact hr, hstop B c pre _ (Nat.le_refl _) hpre (hIx _ _ _ _ hi (below_put (by omega) _ _)) ((World.putObj_heap_other (by omega)).trans hd)⟩

end Go.Proofs.YtaijldcfoaeogaaGreat

/- A region that draws its order and calls, inside a round of a loop over an iterator: as outside of it. -/
namespace Go.Proofs.YtaijldcfoaeogaaGreat
open Go.RowKit
set_option maxRecDepth 100000

/-- Only the normal way out. -/
def QN (Q : Exit → Act → World → Prop) : Exit → Act → World → Prop
  | .normal, a, w => Q .normal a w
  | _, _, _ => False

theorem QN_out (Q : Exit → Act → World → Prop) : ¬ LetsOut (QN Q) := fun ⟨_, _, h⟩ => h

theorem operIn_of_wp {P : Program} {lr nn : Nat} {o : Oper} {a : Act} {w : World} {K K' : Act → World → Prop} {Q Q' : Exit → Act → World → Prop} (hd : ∀ c, o.op ≠ .defer c) (hK : ∀ a w, K a w → K' a w) (h : o.wp P a w K (QN Q)) : o.wpIn (Fence.wide.inRound lr) nn P a w K' Q' := by
  refine ⟨fun _ _ => trivial, ?_⟩
  rw [Fence.inRound_round, Oper.semAt_some _ _ _ hd]
  unfold Oper.wp at h
  generalize (execOp a.eval o).run P w = r at *
  cases r with
  | ok n w' =>
    cases n with
    | value v => exact hK _ _ h
    | skip => exact hK _ _ h
    | defer d => exact hK _ _ h
    | enter f args =>
      refine ⟨fun e => (by cases e), ?_⟩
      refine (CallsIn.inRound lr (callsIn_wide.2 h)).mono ?_
      rintro e w'' h2
      cases e with
      | returned v => exact hK _ _ h2
      | panicked ch => exact h2.elim
      | outgrown => exact (QN_out _ h2).elim
    | row row args =>
      refine ⟨fun e => (by cases e), fun c cs _ => ?_⟩
      obtain ⟨v, w2, r, st⟩ := h c cs
      exact ⟨v, w2, hK _ _ r, stepsIn_wide.2 st⟩
    | round l f tmps assign body => exact (show False from h).elim
    | _ => exact (show False from h).elim
  | halt x w' =>
    cases x with
    | panic v => exact (show False from h).elim
    | _ => exact (show False from h).elim

theorem wpAnyIn_of_held {P : Program} {ops : Array Oper} {md : Region.Mode} {lr nn : Nat} {S : World → Prop} {Q : Exit → Act → World → Prop} (hd : noDefer ops = true) :
    ∀ (fuel : Nat) (listed : Array Bool) (a : Act) (w : World), wpAnyH P md ops (QN Q) S fuel listed a w → wpAnyIn (Fence.wide.inRound lr) nn P md ops Q fuel listed a w
  | 0, _, _, _, h => h
  | fuel + 1, listed, a, w, h => ⟨h.1, fun i hi => by
      have h2 := h.2 i hi
      unfold wpOp at h2
      unfold wpOpIn
      split
      · rename_i ho
        simp only [ho] at h2
        exact wpAnyIn_of_held hd fuel _ _ _ h2.2
      · rename_i o ho
        simp only [ho] at h2
        split
        · rename_i hw
          simp only [hw, if_true] at h2
          rcases h2 with h2 | ⟨_, h2⟩
          · exact operIn_of_wp (noDefer_spec hd ho) (fun a' w' h3 => wpAnyIn_of_held hd fuel _ _ _ h3.2) h2
          · exact (QN_out _ h2).elim
        · rename_i hw
          simp only [hw] at h2
          exact ⟨fun _ _ => trivial, wpAnyIn_of_held hd fuel _ _ _ h2.2⟩⟩

theorem wpIn_region_held_drew {P : Program} {id lr nn : Nat} {ops : Array Oper} {S : World → Prop} {Q : Exit → Act → World → Prop} {a : Act} {w : World} (hm : P.follows .mixedOrders = true) (hd : noDefer ops = true)
    (h : wpAnyH P .any ops (QN Q) S ops.size (Array.replicate ops.size false) a w.drew) : (Code.region id ops true).wpIn (Fence.wide.inRound lr) nn P Q a w :=
  wpIn_region_any hm (wpAnyIn_of_held hd _ _ _ _ h)

end Go.Proofs.YtaijldcfoaeogaaGreat

/- A stream that is being made: what is kept while records are added. -/
namespace Go.Proofs.YtaijldcfoaeogaaGreat
open Go.RowKit Go.Shelf
set_option linter.unusedSimpArgs false

/-- The row of what is ahead lies in block k. -/
def RowS (gs : Nat) (W : World) (k : Nat) : Prop := ∃ v c, W.heap[gs]? = some (.cells #[v, c] 68 (0, 0)) ∧ v.ownBlock = some k

theorem Ahd.row_iff {W : World} {gs base : Nat} {r : Option Nat} {l : List Nat} {c : Nat} (h : Ahd W gs base r l c) (k : Nat) : RowS gs W k ↔ r = some k := by
  obtain ⟨v, h1, h2, _⟩ := h.ex
  constructor
  · rintro ⟨u, c', e1, e2⟩
    rw [h1] at e1
    injection e1 with e1
    injection e1 with e1
    injection e1 with e1
    injection e1 with e1
    subst e1
    exact h2 ▸ e2
  · intro e
    exact ⟨v, _, h1, h2.trans e⟩

theorem RowS.back {W W' : World} {gs k : Nat} (h : RowS gs W' k) (he : W'.heap[gs]? = W.heap[gs]?) : RowS gs W k := by
  obtain ⟨v, c, e1, e2⟩ := h
  exact ⟨v, c, he.symm.trans e1, e2⟩

/-- Behind V: the records xs are ahead; nothing else is another one. -/
structure Mk (V : World) (gs : Nat) (r0 : Option Nat) (xs : List Rec) (W : World) : Prop where
  ahd : ∃ r, Ahd W gs (gs + 1) r (flatB xs) xs.length ∧ ∀ k, r = some k → r0 = some k ∨ V.heap.size ≤ k
  sav : Save (gs :: r0.toList) V W

theorem Mk.lt {V : World} {gs : Nat} {r0 : Option Nat} {xs : List Rec} {W : World} (h : Mk V gs r0 xs W) : gs < W.heap.size := by
  obtain ⟨r, h1, _⟩ := h.ahd
  exact h1.g_lt

theorem Mk.same {V : World} {gs : Nat} {r0 : Option Nat} {xs : List Rec} {W W' : World} (h : Mk V gs r0 xs W) (hb : Below V.heap.size W W') (hgs : gs < V.heap.size) (hr : ∀ k, RowS gs W k → W'.heap[k]? = W.heap[k]?) (hs : W.heap.size ≤ W'.heap.size) : Mk V gs r0 xs W' := by
  obtain ⟨r, h1, h2⟩ := h.ahd
  exact ⟨⟨r, h1.same (hb.block gs hgs) fun k hk => hr k ((h1.row_iff k).2 hk), h2⟩, hb.os.trans h.sav.os, hb.tape.trans h.sav.tape, hb.output.trans h.sav.output, Nat.le_trans h.sav.size hs, fun k hk hx => (hb.block k hk).trans (h.sav.block k hk hx)⟩

theorem Mk.later {V : World} {gs : Nat} {r0 : Option Nat} {xs : List Rec} {W W' : World} (h : Mk V gs r0 xs W) (hb : Below W.heap.size W W') (hgs : gs < V.heap.size) : Mk V gs r0 xs W' :=
  h.same (hb.mono h.sav.size) hgs (fun k hk => by
    obtain ⟨r, h1, _⟩ := h.ahd
    exact hb.block k (h1.row_lt ((h1.row_iff k).1 hk)).2) hb.size

/-- Behind W only the row of what is ahead, and its block, are other ones. -/
structure KeepS (gs : Nat) (W W' : World) : Prop where
  size : W.heap.size ≤ W'.heap.size
  same : ∀ k, k < W.heap.size → k ≠ gs → ¬ RowS gs W k → W'.heap[k]? = W.heap[k]?
  row : ∀ k, RowS gs W' k → RowS gs W k ∨ W.heap.size ≤ k

theorem mk_add {V W : World} {gs : Nat} {r0 : Option Nat} {xs : List Rec} (h : Mk V gs r0 xs W) (x : Rec) (a : Option Addr) (n cap : Nat) (hx : x.ok = true) (hr : Rd W a n x.l) (hxs : ∀ y ∈ xs, y.ok = true) (hl : xs.length ≤ 5000) :
    Calls Tryz.prog 20 #[.pointer (some ⟨gs, 0, none⟩), rcV x a n cap] W fun e W' => e = .returned (.int .i64 0) ∧ Hid (Mk V gs r0 (xs ++ [x]) W') ∧ Hid (KeepS gs W W') := by
  obtain ⟨r, h1, h2⟩ := h.ahd
  have hfl := flatB_len hxs
  refine (add_any x a n cap W gs (gs + 1) r (flatB xs) xs.length h1 hx hr (by omega) (by omega) h1.g_lt).mono ?_
  rintro e W' ⟨rfl, r', ha, hs, hr'⟩
  have hsz := h.sav.size
  refine ⟨rfl, Lib.hid ⟨⟨r', ?_, fun k hk => ?_⟩, ?_⟩, Lib.hid ⟨hs.out.size, fun k hk hg hnr => ?_, fun k hk => ?_⟩⟩
  · rw [flatB_append, flatB_one, List.length_append]
    exact ha.out
  · rcases hr'.out k hk with h3 | h3
    · exact h2 k h3
    · exact .inr (Nat.le_trans hsz h3)
  · refine ⟨hs.out.os.trans h.sav.os, hs.out.tape.trans h.sav.tape, hs.out.output.trans h.sav.output, Nat.le_trans hsz hs.out.size, fun k hk hxk => ?_⟩
    simp only [List.mem_cons, Option.mem_toList, not_or] at hxk
    refine (hs.out.block k (Nat.lt_of_lt_of_le hk hsz) ?_).trans (h.sav.block k hk (by simpa using hxk))
    simp only [List.mem_cons, Option.mem_toList, not_or]
    exact ⟨hxk.1, fun e => (h2 k e).elim hxk.2 (fun h3 => by omega)⟩
  · refine hs.out.block k hk ?_
    simp only [List.mem_cons, Option.mem_toList, not_or]
    exact ⟨hg, fun e => hnr ((h1.row_iff k).2 e)⟩
  · rcases hr'.out k ((ha.out.row_iff k).1 hk) with h3 | h3
    · exact .inl ((h1.row_iff k).2 h3)
    · exact .inr h3

theorem pieces_any (w : World) (a : Option Addr) (n c : Nat) : Calls Tryz.prog 22 #[.slice a n c] w fun e w' => e = .returned (.func (.func 43) #[] #[.pointer (some ⟨w.heap.size, 0, none⟩)]) ∧ w' = w.alloc (.cells #[.slice a n c] 71) := by
  have hmf : ∀ (fn : Fn) (first cap : Array Value) (w : World), (Instr.makeFunc fn first cap).run Tryz.prog w = .ok (.func fn first cap) w := fun _ _ _ _ => rfl
  go_enter Tryz.func22, Tryz.ntmps22
  go_wp2
  go_ret
  exact ⟨rfl, rfl⟩

theorem enter_make (args : Array Value) (w : World) (R : Ending → World → Prop) (c : Code) (hb : Tryz.f7.body = some c)
    (h : c.wp Tryz.prog (bodyPostM Fence.wide 3 Tryz.prog Tryz.f7 R) { tmps := args ++ Array.replicate (Tryz.f7.ntmps - args.size) undef, defers := [] } w) : Calls Tryz.prog 7 args w R :=
  (callsIn_wide (n := 3)).1 (callsIn_of_wp_marks Tryz.func7 hb trivial (wpIn_wide.2 h) rfl)

end Go.Proofs.YtaijldcfoaeogaaGreat
