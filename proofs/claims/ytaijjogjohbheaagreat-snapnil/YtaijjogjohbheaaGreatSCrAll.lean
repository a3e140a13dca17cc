/- In a region that draws its order: an operation that calls a function of Go, by its contract alone (no simp over the region's rest); the load of an image; two images compared. -/
import Derived.Test.YtaijjogjohbheaaGreatISameAll
import Derived.Test.YtaijjogjohbheaaGreatOrders
import Derived.Test.YtaijjogjohbheaaGreatSOpenAll
import Derived.Deep.RegionLaw
import Derived.Deep.AppendLies
import Derived.Test.YtaijjogjohbheaaGreatSSetAll
namespace Go.Proofs.YtaijjogjohbheaaGreat
open Go.RowKit
set_option maxRecDepth 100000

theorem ready_call {P : Program} {o : Oper} {a : Act} {w : World} {K : Act → World → Prop} {Q : Exit → Act → World → Prop} {f : FuncId} {vs : Array Value} {c : Prop} [Decidable c]
    (hw : c) (hx : (execOp a.eval o).run P w = .ok (.enter f vs) w)
    (hc : Calls P f vs w fun e w' => ∃ v, e = .returned v ∧ K (a.put o.dst v) w') : if c then Oper.wp P o a w K Q else K (a.put o.dst undef) w := by
  rw [if_pos hw, Oper.wp, hx, Oper.upon_enter]
  refine hc.mono ?_
  rintro e w' ⟨v, rfl, hK⟩
  exact hK

/-- The same, for an operation that makes a value and leaves the world as it is. -/
theorem ready_val {P : Program} {o : Oper} {a : Act} {w : World} {K : Act → World → Prop} {Q : Exit → Act → World → Prop} {v : Value} {c : Prop} [Decidable c]
    (hw : c) (hx : (execOp a.eval o).run P w = .ok (.value v) w) (hc : K (a.put o.dst v) w) : if c then Oper.wp P o a w K Q else K (a.put o.dst undef) w := by
  rw [if_pos hw, Oper.wp, hx, Oper.upon_value]
  exact hc

theorem exec_load_img {w : World} {o : Oper} {a : Act} {p : Operand} {g : Nat} {F : List (List Nat)} (hop : o.op = Op.load 37 p) (hp : a.eval p = .pointer (some ⟨g, 0, none⟩)) (hg : w.heap[g]? = some (arrObj F)) (hl : F.length = 256) :
    (execOp a.eval o).run Tryz.prog w = .ok (.value (.agg (cS F).toArray)) w := by
  have h1 := run_load_img hg hl
  simp only [execOp, hop, hp, Sem.run_bind, h1, Result.andThen, Sem.run_pure]

end Go.Proofs.YtaijjogjohbheaaGreat

/- A store's Create. -/
namespace Go.Proofs.YtaijjogjohbheaaGreat
open Go.RowKit
set_option maxRecDepth 100000
set_option linter.unusedSimpArgs false

theorem create_nil (w : World) : Calls Tryz.prog 17 #[.pointer none] w fun e w' => e = .returned (.tuple #[.int .i64 0, .int .i64 1]) ∧ w' = w := by
  go_enter Tryz.func17, Tryz.ntmps17
  go_wp2
  go_ret2
  exact ⟨rfl, rfl⟩

theorem OwnY.alloc {w : World} {base : Nat} {v : Value} {L : List (Nat × Nat)} (h : OwnY w base v L) (o : Obj) : OwnY (w.alloc o) base v L := World.ownsRow.alloc h o

theorem box2 {w : World} {q : Nat} {x y z z' : Value} {T : TypeId} (h : w.heap[q]? = some (.cells #[x, y, z] T (0, 0))) : w.setCell ⟨q, 2, none⟩ z' = put w q (.cells #[x, y, z'] T (0, 0)) := by
  rw [set_put _ h]
  rfl

theorem ready_mk {P : Program} {o : Oper} {a : Act} {w w' : World} {K : Act → World → Prop} {Q : Exit → Act → World → Prop} {v : Value} {c : Prop} [Decidable c]
    (hw : c) (hx : (execOp a.eval o).run P w = .ok (.value v) w') (hc : K (a.put o.dst v) w') : if c then Oper.wp P o a w K Q else K (a.put o.dst undef) w := by
  rw [if_pos hw, Oper.wp, hx, Oper.upon_value]
  exact hc

theorem ready_skp {P : Program} {o : Oper} {a : Act} {w w' : World} {K : Act → World → Prop} {Q : Exit → Act → World → Prop} {c : Prop} [Decidable c]
    (hw : c) (hx : (execOp a.eval o).run P w = .ok .skip w') (hc : K (a.put o.dst undef) w') : if c then Oper.wp P o a w K Q else K (a.put o.dst undef) w := by
  rw [if_pos hw, Oper.wp, hx, Oper.upon_skip]
  exact hc

theorem snaps_add {F : List (List Nat)} {last : Nat} {X : List (Nat × List (List Nat))} (h : OkS F last X) (hl : X.length < 32) (h9 : last < 9000) : OkS F (last + 1) (X ++ [(last + 1, F)]) := by
  refine ⟨h.img, fun p hp => ?_, ?_, by simp; omega, by omega⟩
  · rcases List.mem_append.1 hp with hp | hp
    · have := h.ims p hp
      exact ⟨this.1, this.2.1, by omega⟩
    · simp only [List.mem_singleton] at hp
      subst hp
      exact ⟨h.img, by simp, by simp⟩
  · rw [List.pairwise_append]
    refine ⟨h.inc, by simp, fun p hp q hq => ?_⟩
    simp only [List.mem_singleton] at hq
    subst hq
    have := (h.ims p hp).2.2
    simp only
    omega

set_option maxHeartbeats 8000000 in
theorem create_any (w : World) (gd gp gb gr gs k G B N : Nat) (s : Pw) (L b0 : List Nat) (F : List (List Nat)) (last : Nat) (X : List (Nat × List (List Nat))) (h : Ctx w gd gp gb gr gs k G B N s L b0 F last X) (h9 : last < 9000) :
    Calls Tryz.prog 17 #[.pointer (some ⟨gs, 0, none⟩)] w fun e w' =>
      (32 ≤ X.length ∧ e = .returned (.tuple #[.int .i64 0, .int .i64 7]) ∧ w' = w) ∨ (X.length < 32 ∧ ∃ E : Nat, e = .returned (.tuple #[.int .i64 (if E = 0 then ((last + 1 : Nat) : Int) else 0), .int .i64 (E : Int)]) ∧ ChP gd gp gb gr gs k G B N N s L b0 F last X F (last + 1) (X ++ [(last + 1, F)]) w E w') := by
  obtain ⟨i0, hi0, hz0, hz1, hz2⟩ := info_parts info_snap
  obtain ⟨gi, a0, n0, c0, hobj, hnc0, hsta⟩ := h.sto
  have hn := hsta.len
  have HC := Lib.hid h
  have HNC := Lib.hid hnc0
  have HSTA := Lib.hid hsta
  have HOB := Lib.hid hobj
  obtain ⟨d0, d1, d2, d3⟩ := sto_cells hobj
  have hgsl : gs < w.heap.size := lt_of_block hobj
  have HN := Lib.hid hn
  have hmx : ((last : Int) == 9223372036854775807) = false := beq_eq_false_iff_ne.2 (by omega)
  by_cases hful : 32 ≤ X.length
  · have hf : (32 : Int) ≤ (n0 : Int) := by omega
    have HF := Lib.hid hful
    clear h hnc0 hsta hobj hn hful
    go_enter Tryz.func17, Tryz.ntmps17
    go_wp2
    go_ret2
    exact .inl ⟨HF.out, rfl, rfl⟩
  · have hf : (n0 : Int) < 32 := by omega
    have hn32 : n0 < 32 := by omega
    have HF := Lib.hid hful
    have HGS := Lib.hid hgsl
    clear h hnc0 hsta hobj hn hful
    go_enter Tryz.func17, Tryz.ntmps17
    go_upto_region 7 with fail
    obtain ⟨w1, hw1⟩ : ∃ w1, w1 = w.alloc (.cells #[.pointer (some ⟨gi, 0, none⟩), .int .i64 ((last : Int) + 1), .slice a0 n0 c0] 76) := ⟨_, rfl⟩
    obtain ⟨q, hq⟩ : ∃ q, q = w.heap.size := ⟨_, rfl⟩
    rw [← hw1, ← hq]
    have hob : w1.heap[q]? = some (.cells #[.pointer (some ⟨gi, 0, none⟩), .int .i64 ((last : Int) + 1), .slice a0 n0 c0] 76 (0, 0)) := by rw [hw1, hq]; exact heap_alloc_new _ _
    have hbe : Below w.heap.size w w1 := by rw [hw1]; exact Below.alloc0 _ _
    have hs1 : w1.heap.size = q + 1 := by rw [hw1, hq]; simp
    have HBE := Lib.hid hbe
    have HQ := Lib.hid (And.intro hq hs1)
    have HOq := Lib.hid hob
    obtain ⟨T, hX, hRY, hT, hV⟩ := HSTA.out.row
    have HT := Lib.hid (And.intro hX (And.intro hT hV))
    have HRY := Lib.hid hRY
    have hTl : (T.map tY).length = n0 := hRY.1
    obtain ⟨Y, hY⟩ : ∃ Y, Y = T.map tY := ⟨_, rfl⟩
    rw [← hY] at HRY hTl
    have HY := Lib.hid hY
    have HS : Hid (∀ W, Below w1.heap.size w1 W → W.cell? ⟨gs, 1, none⟩ = some (.pointer (some ⟨gi, 0, none⟩)) ∧ W.cell? ⟨gs, 3, none⟩ = some (.slice a0 n0 c0) ∧ W.cell? ⟨q, 1, none⟩ = some (.int .i64 ((last : Int) + 1))) := by
      refine Lib.hid fun W hW => ?_
      have e := (hW.block q (lt_of_block HOq.out)).trans HOq.out
      have e2 := (hW.block gs (by have := HGS.out; have := HBE.out.size; omega)).trans ((HBE.out.block gs HGS.out).trans HOB.out)
      refine ⟨(sto_cells e2).2.1, (sto_cells e2).2.2.2, ?_⟩
      simp [World.cell?, e]
    have HQN : Hid (gs < q) := Lib.hid (by rw [hq]; exact hgsl)
    have HCL : Hid (∀ W, Below w1.heap.size w1 W → Calls Tryz.prog 38 #[.slice a0 n0 c0] W fun e w' => ∃ v, e = .returned v ∧ Hid (Below w1.heap.size w1 w' ∧ Below W.heap.size W w' ∧ OwnY w' w1.heap.size v Y)) := by
      refine Lib.hid fun W hW => (cloneY_any a0 n0 c0 Y W ((HRY.out.later HBE.out).later hW) (by omega)).mono ?_
      rintro e w' ⟨v, rfl, ho, hb⟩
      exact ⟨v, rfl, Lib.hid ⟨hW.trans (hb.mono hW.size), hb, ho.mono hW.size⟩⟩
    have HG : Hid (∀ W w7 v, Below w1.heap.size w1 W → OwnY W w1.heap.size v Y → W.grownBy w7 v.ownBlock → Hid (Below w1.heap.size w1 w7)) :=
      Lib.hid fun W w7 v hW ho hg => Lib.hid (hW.grown hg hW.size (fun k hk => (World.ownsRow.lt ho k hk).1))
    have HFIN : Hid (∀ (w7 : World) (gg cap : Nat), w7.heap[q]? = some (.cells #[.pointer (some ⟨gi, 0, none⟩), .int .i64 ((last : Int) + 1), .slice a0 n0 c0] 76 (0, 0)) → w7.ownsRow w1.heap.size 98 2 (.slice (some ⟨gg, 0, none⟩) (Y.length + 1) cap) (Y.length + 1) (cY Y ++ [.int .i64 ((last : Int) + 1), .pointer (some ⟨gi, 0, none⟩)]) → Below w1.heap.size w1 w7 →
        Hid (∃ gg' cap', (w7.setCell ⟨q, 2, none⟩ (.slice (some ⟨gg, 0, none⟩) (Y.length + 1) cap)).heap[q]? = some (.cells #[.pointer (some ⟨gi, 0, none⟩), .int .i64 ((last : Int) + 1), .slice (some ⟨gg', 0, none⟩) (Y.length + 1) cap'] 76 (0, 0)) ∧ OwnY (w7.setCell ⟨q, 2, none⟩ (.slice (some ⟨gg, 0, none⟩) (Y.length + 1) cap)) w1.heap.size (.slice (some ⟨gg', 0, none⟩) (Y.length + 1) cap') (Y ++ [(last + 1, gi)]) ∧ Below w.heap.size w (w7.setCell ⟨q, 2, none⟩ (.slice (some ⟨gg, 0, none⟩) (Y.length + 1) cap)))) := by
      refine Lib.hid fun w7 gg cap hx ho hb => Lib.hid ⟨gg, cap, ?_⟩
      have hqn := HQ.out
      rw [box2 hx]
      refine ⟨put_same hx, ?_, (HBE.out.trans (hb.mono HBE.out.size)).trans (put_below _ (by omega))⟩
      have e : OwnY w7 w1.heap.size (.slice (some ⟨gg, 0, none⟩) (Y.length + 1) cap) (Y ++ [(last + 1, gi)]) := by
        refine OwnY.of_append rfl ?_
        have e2 : cY [(last + 1, gi)] = [.int .i64 ((last : Int) + 1), .pointer (some ⟨gi, 0, none⟩)] := by
          simp only [cY, List.flatMap_cons, List.flatMap_nil, List.append_nil, List.cons.injEq, Value.int.injEq, true_and, and_true]
          omega
        rw [e2]
        exact ho
      exact e.put_ (by omega) _
    clear hw1 hq hbe hs1 hob d0 d1 d2 d3 hgsl hX hT hV hRY hY
    have hmx : Y.length + 1 ≤ maxLen := by unfold maxLen; omega
    have hby : (Y.length + 1) * 16 ≤ 140737488355328 := by omega
    clear hTl
    go_upto_region 7 with fail
    go_cut [] (fun wx => Hid (∃ gg cap, wx.heap[q]? = some (.cells #[.pointer (some ⟨gi, 0, none⟩), .int .i64 ((last : Int) + 1), .slice (some ⟨gg, 0, none⟩) (Y.length + 1) cap] 76 (0, 0)) ∧ OwnY wx w1.heap.size (.slice (some ⟨gg, 0, none⟩) (Y.length + 1) cap) (Y ++ [(last + 1, gi)]) ∧ Below w.heap.size w wx))
    case first =>
      as_aux_lemma =>
        refine wp_region_held_drew (S := fun W => W.cell? ⟨gs, 1, none⟩ = some (.pointer (some ⟨gi, 0, none⟩)) ∧ W.cell? ⟨gs, 3, none⟩ = some (.slice a0 n0 c0) ∧ W.cell? ⟨q, 1, none⟩ = some (.int .i64 ((last : Int) + 1))) (by kernel_rfl) (HS.out _ (Below.refl _ _).drew) (fun _ => ?_)
        refine wpAnyH_take (i := 0) (v := ?vq0) rfl (by kernel_rfl) (by kernel_rfl) (by kernel_rfl) (fun _ _ _ h => h) (Or.inl ⟨by rfl, ?hq0⟩) (HS.out _ (Below.refl _ _).drew) ?rq0
        case hq0 => (intro W hW; (try obtain ⟨hw1, hw2, hw3⟩ := hW); go_simp; try with_reducible rfl)
        simp only [Act.put, List.getElem_toArray, List.getElem_cons_succ, List.getElem_cons_zero, List.setIfInBounds_toArray, List.set_cons_zero, List.set_cons_succ]
        refine wpAnyH_take (i := 1) (v := ?vq1) rfl (by kernel_rfl) (by kernel_rfl) (by kernel_rfl) (fun _ _ _ h => h) (Or.inl ⟨by rfl, ?hq1⟩) (HS.out _ (Below.refl _ _).drew) ?rq1
        case hq1 => (intro W hW; (try obtain ⟨hw1, hw2, hw3⟩ := hW); go_simp; try with_reducible rfl)
        simp only [Act.put, List.getElem_toArray, List.getElem_cons_succ, List.getElem_cons_zero, List.setIfInBounds_toArray, List.set_cons_zero, List.set_cons_succ]
        refine wpAnyH_take (i := 2) (v := ?vq2) rfl (by kernel_rfl) (by kernel_rfl) (by kernel_rfl) (fun _ _ _ h => h) (Or.inl ⟨by rfl, ?hq2⟩) (HS.out _ (Below.refl _ _).drew) ?rq2
        case hq2 => (intro W hW; (try obtain ⟨hw1, hw2, hw3⟩ := hW); go_simp; try with_reducible rfl)
        simp only [Act.put, List.getElem_toArray, List.getElem_cons_succ, List.getElem_cons_zero, List.setIfInBounds_toArray, List.set_cons_zero, List.set_cons_succ]
        refine wpAnyH_take (i := 3) (v := ?vq3) rfl (by kernel_rfl) (by kernel_rfl) (by kernel_rfl) (fun _ _ _ h => h) (Or.inl ⟨by rfl, ?hq3⟩) (HS.out _ (Below.refl _ _).drew) ?rq3
        case hq3 => (intro W hW; (try obtain ⟨hw1, hw2, hw3⟩ := hW); go_simp; try with_reducible rfl)
        simp only [Act.put, List.getElem_toArray, List.getElem_cons_succ, List.getElem_cons_zero, List.setIfInBounds_toArray, List.set_cons_zero, List.set_cons_succ]
        refine wpAnyH_take (i := 4) (v := ?vq4) rfl (by kernel_rfl) (by kernel_rfl) (by kernel_rfl) (fun _ _ _ h => h) (Or.inl ⟨by rfl, ?hq4⟩) (HS.out _ (Below.refl _ _).drew) ?rq4
        case hq4 => (intro W hW; (try obtain ⟨hw1, hw2, hw3⟩ := hW); go_simp; try with_reducible rfl)
        simp only [Act.put, List.getElem_toArray, List.getElem_cons_succ, List.getElem_cons_zero, List.setIfInBounds_toArray, List.set_cons_zero, List.set_cons_succ]
        refine wpAnyH_take (i := 6) (v := ?vq6) rfl (by kernel_rfl) (by kernel_rfl) (by kernel_rfl) (fun _ _ _ h => h) (Or.inl ⟨by rfl, ?hq6⟩) (HS.out _ (Below.refl _ _).drew) ?rq6
        case hq6 => (intro W hW; (try obtain ⟨hw1, hw2, hw3⟩ := hW); go_simp; try with_reducible rfl)
        simp only [Act.put, List.getElem_toArray, List.getElem_cons_succ, List.getElem_cons_zero, List.setIfInBounds_toArray, List.set_cons_zero, List.set_cons_succ]
        refine wpAnyH_take (i := 7) (v := ?vq7) rfl (by kernel_rfl) (by kernel_rfl) (by kernel_rfl) (fun _ _ _ h => h) (Or.inl ⟨by rfl, ?hq7⟩) (HS.out _ (Below.refl _ _).drew) ?rq7
        case hq7 => (intro W hW; (try obtain ⟨hw1, hw2, hw3⟩ := hW); go_simp; try with_reducible rfl)
        simp only [Act.put, List.getElem_toArray, List.getElem_cons_succ, List.getElem_cons_zero, List.setIfInBounds_toArray, List.set_cons_zero, List.set_cons_succ]
        refine wpAnyH_take (i := 8) (v := ?vq8) rfl (by kernel_rfl) (by kernel_rfl) (by kernel_rfl) (fun _ _ _ h => h) (Or.inl ⟨by rfl, ?hq8⟩) (HS.out _ (Below.refl _ _).drew) ?rq8
        case hq8 => (intro W hW; (try obtain ⟨hw1, hw2, hw3⟩ := hW); go_simp; try with_reducible rfl)
        simp only [Act.put, List.getElem_toArray, List.getElem_cons_succ, List.getElem_cons_zero, List.setIfInBounds_toArray, List.set_cons_zero, List.set_cons_succ]
        refine wpAnyH_take (i := 9) (v := ?vq9) rfl (by kernel_rfl) (by kernel_rfl) (by kernel_rfl) (fun _ _ _ h => h) (Or.inl ⟨by rfl, ?hq9⟩) (HS.out _ (Below.refl _ _).drew) ?rq9
        case hq9 => (intro W hW; (try obtain ⟨hw1, hw2, hw3⟩ := hW); go_simp; try with_reducible rfl)
        simp only [Act.put, List.getElem_toArray, List.getElem_cons_succ, List.getElem_cons_zero, List.setIfInBounds_toArray, List.set_cons_zero, List.set_cons_succ]
        refine wpAnyH_take (i := 10) (v := ?vq10) rfl (by kernel_rfl) (by kernel_rfl) (by kernel_rfl) (fun _ _ _ h => h) (Or.inl ⟨by rfl, ?hq10⟩) (HS.out _ (Below.refl _ _).drew) ?rq10
        case hq10 => (intro W hW; (try obtain ⟨hw1, hw2, hw3⟩ := hW); go_simp; try with_reducible rfl)
        simp only [Act.put, List.getElem_toArray, List.getElem_cons_succ, List.getElem_cons_zero, List.setIfInBounds_toArray, List.set_cons_zero, List.set_cons_succ]
        refine wpAnyH_take (i := 11) (v := ?vq11) rfl (by kernel_rfl) (by kernel_rfl) (by kernel_rfl) (fun _ _ _ h => h) (Or.inl ⟨by rfl, ?hq11⟩) (HS.out _ (Below.refl _ _).drew) ?rq11
        case hq11 => (intro W hW; (try obtain ⟨hw1, hw2, hw3⟩ := hW); go_simp; try with_reducible rfl)
        simp only [Act.put, List.getElem_toArray, List.getElem_cons_succ, List.getElem_cons_zero, List.setIfInBounds_toArray, List.set_cons_zero, List.set_cons_succ]
        refine wpAnyH_take (i := 12) (v := ?vq12) rfl (by kernel_rfl) (by kernel_rfl) (by kernel_rfl) (fun _ _ _ h => h) (Or.inl ⟨by rfl, ?hq12⟩) (HS.out _ (Below.refl _ _).drew) ?rq12
        case hq12 => (intro W hW; (try obtain ⟨hw1, hw2, hw3⟩ := hW); go_simp; try with_reducible rfl)
        simp only [Act.put, List.getElem_toArray, List.getElem_cons_succ, List.getElem_cons_zero, List.setIfInBounds_toArray, List.set_cons_zero, List.set_cons_succ]
        refine wpAnyH_take (i := 13) (v := ?vq13) rfl (by kernel_rfl) (by kernel_rfl) (by kernel_rfl) (fun _ _ _ h => h) (Or.inl ⟨by rfl, ?hq13⟩) (HS.out _ (Below.refl _ _).drew) ?rq13
        case hq13 => (intro W hW; (try obtain ⟨hw1, hw2, hw3⟩ := hW); go_simp; try with_reducible rfl)
        simp only [Act.put, List.getElem_toArray, List.getElem_cons_succ, List.getElem_cons_zero, List.setIfInBounds_toArray, List.set_cons_zero, List.set_cons_succ]
        refine wpAnyH_ready (rs := [5, 14]) (by kernel_rfl) (by simp) ?_
        refine AllReadyH.cons rfl (fun K hK => ?_) (AllReadyH.cons rfl (fun K hK => ?_) AllReadyH.nil)
        · as_aux_lemma =>
            refine ready_call (f := 38) (vs := #[.slice a0 n0 c0]) (by rfl) (by (go_simp; try with_reducible rfl)) ?_
            refine (HCL.out _ (Below.refl _ _).drew).mono ?_
            rintro e wC ⟨vC, rfl, HBC⟩
            refine ⟨_, rfl, hK.out _ _ (HS.out _ HBC.out.1) (fun _ => ?_)⟩
            clear hK K
            simp only [Act.put, List.getElem_toArray, List.getElem_cons_succ, List.getElem_cons_zero, List.setIfInBounds_toArray, List.set_cons_zero, List.set_cons_succ]
            refine wpAnyH_ready (rs := [14]) (by kernel_rfl) (by simp) ?_
            refine AllReadyH.cons rfl (fun K hK => ?_) AllReadyH.nil
            refine ready_mk (v := .slice (some ⟨wC.heap.size, 0, none⟩) 1 1) (w' := wC.alloc (.cells #[.int .i64 ((last : Int) + 1), .pointer (some ⟨gi, 0, none⟩)] 98)) (by rfl) (by (go_simp; try with_reducible rfl)) ?_
            refine hK.out _ _ (HS.out _ (HBC.out.1.alloc HBC.out.1.size _)) (fun _ => ?_)
            clear hK K
            simp only [Act.put, List.getElem_toArray, List.getElem_cons_succ, List.getElem_cons_zero, List.setIfInBounds_toArray, List.set_cons_zero, List.set_cons_succ]
            refine wpAnyH_ready (rs := [15]) (by kernel_rfl) (by simp) ?_
            refine AllReadyH.cons rfl (fun K hK => ?_) AllReadyH.nil
            refine step_append_lies _ (by rfl) _ _ _ (by rfl) w1.heap.size 98 i0 _ 2 16 Tryz.underlying74 hi0 hz0 hz1 hz2 rfl (by omega) vC Y.length (cY Y) (by rfl) (HBC.out.2.2.alloc _) ⟨wC.heap.size, 0, none⟩ 1 1 [.int .i64 ((last : Int) + 1), .pointer (some ⟨gi, 0, none⟩)] (by rfl) (by rfl) (World.news_of_block (cs := #[.int .i64 ((last : Int) + 1), .pointer (some ⟨gi, 0, none⟩)]) (t := 98) (fr := (0, 0)) (heap_alloc_new wC _)) (by simp [Value.oneCell']) (by omega) hmx hby (by have := HBC.out.1.size; simp; omega) _ rfl ?_
            intro gg cap w7 hown hgrow _ hlt
            have HB7 := HG.out _ w7 vC (HBC.out.1.alloc HBC.out.1.size _) (HBC.out.2.2.alloc _) hgrow
            have HO7 := Lib.hid hown
            refine hK.out _ _ (HS.out _ HB7.out) (fun _ => ?_)
            clear hK K hown hgrow hlt
            simp only [Act.put, List.getElem_toArray, List.getElem_cons_succ, List.getElem_cons_zero, List.setIfInBounds_toArray, List.set_cons_zero, List.set_cons_succ]
            have HOX : Hid (w7.heap[q]? = some (.cells #[.pointer (some ⟨gi, 0, none⟩), .int .i64 ((last : Int) + 1), .slice a0 n0 c0] 76 (0, 0))) := Lib.hid ((HB7.out.block q (lt_of_block HOq.out)).trans HOq.out)
            have x2 : w7.cell? ⟨q, 2, none⟩ = some (.slice a0 n0 c0) := by simp [World.cell?, HOX.out]
            have f2 : w7.frozen? ⟨q, 2, none⟩ = false := by simp [World.frozen?, HOX.out]
            refine wpAnyH_take (i := 16) (v := ?va16) rfl (by kernel_rfl) (by kernel_rfl) (by kernel_rfl) (fun _ _ _ h => h) (Or.inl ⟨by rfl, ?ha16⟩) (HS.out _ HB7.out) ?ra16
            case ha16 => (intro W hW; (try obtain ⟨hw1, hw2, hw3⟩ := hW); go_simp; try with_reducible rfl)
            simp only [Act.put, List.getElem_toArray, List.getElem_cons_succ, List.getElem_cons_zero, List.setIfInBounds_toArray, List.set_cons_zero, List.set_cons_succ]
            refine wpAnyH_ready (rs := [17]) (by kernel_rfl) (by simp) ?_
            refine AllReadyH.cons rfl (fun K hK => ?_) AllReadyH.nil
            refine ready_skp (w' := w7.setCell ⟨q, 2, none⟩ (.slice (some ⟨gg, 0, none⟩) (Y.length + 1) cap)) (by rfl) (by (go_simp; try with_reducible rfl)) ?_
            refine hK.out _ _ ?hS (fun _ => ?_)
            case hS =>
              rw [box2 HOX.out]
              obtain ⟨s1, s2, s3⟩ := HS.out _ HB7.out
              have hq9 := HQN.out
              refine ⟨?_, ?_, ?_⟩
              · rw [← s1]; simp only [World.cell?]; rw [put_other (by omega)]
              · rw [← s2]; simp only [World.cell?]; rw [put_other (by omega)]
              · simp [World.cell?, put_same HOX.out]
            clear hK K
            simp only [Act.put, List.getElem_toArray, List.getElem_cons_succ, List.getElem_cons_zero, List.setIfInBounds_toArray, List.set_cons_zero, List.set_cons_succ]
            refine wpAnyH_done (by kernel_rfl) ?_ _
            clear x2 f2
            go_wp2_with fail
            go_meet
            exact HFIN.out w7 gg cap HOX.out HO7.out HB7.out
        · as_aux_lemma =>
            refine ready_mk (v := .slice (some ⟨w1.drew.heap.size, 0, none⟩) 1 1) (w' := w1.drew.alloc (.cells #[.int .i64 ((last : Int) + 1), .pointer (some ⟨gi, 0, none⟩)] 98)) (by rfl) (by (go_simp; try with_reducible rfl)) ?_
            refine hK.out _ _ (HS.out _ ((Below.refl _ _).drew.alloc (Nat.le_refl _) _)) (fun _ => ?_)
            clear hK K
            simp only [Act.put, List.getElem_toArray, List.getElem_cons_succ, List.getElem_cons_zero, List.setIfInBounds_toArray, List.set_cons_zero, List.set_cons_succ]
            refine wpAnyH_ready (rs := [5]) (by kernel_rfl) (by simp) ?_
            refine AllReadyH.cons rfl (fun K hK => ?_) AllReadyH.nil
            refine ready_call (f := 38) (vs := #[.slice a0 n0 c0]) (by rfl) (by (go_simp; try with_reducible rfl)) ?_
            refine (HCL.out _ ((Below.refl _ _).drew.alloc (Nat.le_refl _) _)).mono ?_
            rintro e wC ⟨vC, rfl, HBC⟩
            refine ⟨_, rfl, hK.out _ _ (HS.out _ HBC.out.1) (fun _ => ?_)⟩
            clear hK K
            simp only [Act.put, List.getElem_toArray, List.getElem_cons_succ, List.getElem_cons_zero, List.setIfInBounds_toArray, List.set_cons_zero, List.set_cons_succ]
            refine wpAnyH_ready (rs := [15]) (by kernel_rfl) (by simp) ?_
            refine AllReadyH.cons rfl (fun K hK => ?_) AllReadyH.nil
            refine step_append_lies _ (by rfl) _ _ _ (by rfl) w1.heap.size 98 i0 _ 2 16 Tryz.underlying74 hi0 hz0 hz1 hz2 rfl (by omega) vC Y.length (cY Y) (by rfl) HBC.out.2.2 ⟨w1.drew.heap.size, 0, none⟩ 1 1 [.int .i64 ((last : Int) + 1), .pointer (some ⟨gi, 0, none⟩)] (by rfl) (by rfl) (World.news_of_block (cs := #[.int .i64 ((last : Int) + 1), .pointer (some ⟨gi, 0, none⟩)]) (t := 98) (fr := (0, 0)) ((HBC.out.2.1.block _ (by simp)).trans (heap_alloc_new w1.drew _))) (by simp [Value.oneCell']) (by omega) hmx hby HBC.out.1.size _ rfl ?_
            intro gg cap w7 hown hgrow _ hlt
            have HB7 := HG.out _ w7 vC HBC.out.1 HBC.out.2.2 hgrow
            have HO7 := Lib.hid hown
            refine hK.out _ _ (HS.out _ HB7.out) (fun _ => ?_)
            clear hK K hown hgrow hlt
            simp only [Act.put, List.getElem_toArray, List.getElem_cons_succ, List.getElem_cons_zero, List.setIfInBounds_toArray, List.set_cons_zero, List.set_cons_succ]
            have HOX : Hid (w7.heap[q]? = some (.cells #[.pointer (some ⟨gi, 0, none⟩), .int .i64 ((last : Int) + 1), .slice a0 n0 c0] 76 (0, 0))) := Lib.hid ((HB7.out.block q (lt_of_block HOq.out)).trans HOq.out)
            have x2 : w7.cell? ⟨q, 2, none⟩ = some (.slice a0 n0 c0) := by simp [World.cell?, HOX.out]
            have f2 : w7.frozen? ⟨q, 2, none⟩ = false := by simp [World.frozen?, HOX.out]
            refine wpAnyH_take (i := 16) (v := ?vb16) rfl (by kernel_rfl) (by kernel_rfl) (by kernel_rfl) (fun _ _ _ h => h) (Or.inl ⟨by rfl, ?hb16⟩) (HS.out _ HB7.out) ?rb16
            case hb16 => (intro W hW; (try obtain ⟨hw1, hw2, hw3⟩ := hW); go_simp; try with_reducible rfl)
            simp only [Act.put, List.getElem_toArray, List.getElem_cons_succ, List.getElem_cons_zero, List.setIfInBounds_toArray, List.set_cons_zero, List.set_cons_succ]
            refine wpAnyH_ready (rs := [17]) (by kernel_rfl) (by simp) ?_
            refine AllReadyH.cons rfl (fun K hK => ?_) AllReadyH.nil
            refine ready_skp (w' := w7.setCell ⟨q, 2, none⟩ (.slice (some ⟨gg, 0, none⟩) (Y.length + 1) cap)) (by rfl) (by (go_simp; try with_reducible rfl)) ?_
            refine hK.out _ _ ?hS (fun _ => ?_)
            case hS =>
              rw [box2 HOX.out]
              obtain ⟨s1, s2, s3⟩ := HS.out _ HB7.out
              have hq9 := HQN.out
              refine ⟨?_, ?_, ?_⟩
              · rw [← s1]; simp only [World.cell?]; rw [put_other (by omega)]
              · rw [← s2]; simp only [World.cell?]; rw [put_other (by omega)]
              · simp [World.cell?, put_same HOX.out]
            clear hK K
            simp only [Act.put, List.getElem_toArray, List.getElem_cons_succ, List.getElem_cons_zero, List.setIfInBounds_toArray, List.set_cons_zero, List.set_cons_succ]
            refine wpAnyH_done (by kernel_rfl) ?_ _
            clear x2 f2
            go_wp2_with fail
            go_meet
            exact HFIN.out w7 gg cap HOX.out HO7.out HB7.out
    case rest =>
      clear HCL HG HS HFIN HQN
      obtain ⟨gg, cap, hq7, ho7, hb7⟩ := hcut.out
      have z0 : wc.cell? ⟨q, 0, none⟩ = some (.pointer (some ⟨gi, 0, none⟩)) := by simp [World.cell?, hq7]
      have z1 : wc.cell? ⟨q, 1, none⟩ = some (.int .i64 ((last : Int) + 1)) := by simp [World.cell?, hq7]
      have z2 : wc.cell? ⟨q, 2, none⟩ = some (.slice (some ⟨gg, 0, none⟩) (Y.length + 1) cap) := by simp [World.cell?, hq7]
      have HB7 := Lib.hid hb7
      have HO7 := Lib.hid hq7
      have hqn := HQ.out
      obtain ⟨hX, hT, hV⟩ := HT.out
      obtain ⟨a7, c7, hv7, hr7, hc7, hl7⟩ := ho7.rd
      injection hv7 with e1 e2 e3
      subst e1
      subst e3
      have hsta7 : Sta wc [gp, gb, gr, gs] N gi (some ⟨gg, 0, none⟩) (Y.length + 1) F (X ++ [(last + 1, F)]) := by
        have h1 := (HSTA.out.later hb7).img
        refine ⟨h1, T ++ [(last + 1, gi, F)], by rw [hX]; simp [tX], ?_, fun t ht => ?_, fun _ b o e => ?_⟩
        · have e : (T ++ [(last + 1, gi, F)]).map tY = Y ++ [(last + 1, gi)] := by rw [HY.out]; simp [tY]
          rw [e]
          simpa using hr7
        · rcases List.mem_append.1 ht with ht | ht
          · exact (hT t ht).save (Save.of_below hb7 []) (by simp)
          · simp only [List.mem_singleton] at ht
            subst ht
            exact h1
        · have := (hl7 b o e).1
          exact HC.out.fresh (by omega)
      have hok7 : OkS F (last + 1) (X ++ [(last + 1, F)]) := snaps_add HC.out.ok (by have := HF.out; omega) h9
      have HCh := Lib.hid (change_any wc gd gp gb gr gs k G B N N s L b0 F last X (HC.out.later hb7) gi (last + 1) (Y.length + 1) cap (some ⟨gg, 0, none⟩) F _ hsta7 (by simpa using hc7) hok7)
      unfold stV at HCh
      rw [show ((last + 1 : Nat) : Int) = (last : Int) + 1 by omega] at HCh
      clear hq7 ho7 hb7 hqn hX hT hV hr7 hc7 hl7 hsta7 hok7 hcut e2
      go_wp2_with fail
      refine HCh.out.mono ?_
      rintro e w9 ⟨E, rfl, hch⟩
      have HE := Lib.hid hch
      have HX : Hid (X.length < 32) := Lib.hid (by have := HF.out; omega)
      have hx9 : w9.heap[q]? = wc.heap[q]? := by
        obtain ⟨s', L', h1, h2, h3, h4⟩ := hch
        have h5 := HC.out.low
        have h6 := HQ.out
        exact h3.block q (lt_of_block HO7.out) (by simp; omega)
      have y1 : w9.cell? ⟨q, 1, none⟩ = some (.int .i64 ((last : Int) + 1)) := by simp [World.cell?, hx9, HO7.out]
      clear hch z0 z1 z2 hx9
      by_cases hE : E = 0
      · subst hE
        go_wp2
        go_ret2
        refine .inr ⟨HX.out, 0, ?_, HE.out.from HB7.out⟩
        rw [if_pos rfl, show ((last + 1 : Nat) : Int) = (last : Int) + 1 by omega]
        rfl
      · have hE' : ((E : Int) != 0) = true := by simp; omega
        have HNE := Lib.hid hE
        clear hE
        go_wp2
        go_ret2
        refine .inr ⟨HX.out, E, ?_, HE.out.from HB7.out⟩
        rw [if_neg HNE.out]
        rfl

end Go.Proofs.YtaijjogjohbheaaGreat

/- A store's Delete. -/
namespace Go.Proofs.YtaijjogjohbheaaGreat
open Go.RowKit
set_option maxRecDepth 100000
set_option linter.unusedSimpArgs false

theorem delete_nil (w : World) (x : Int) : Calls Tryz.prog 20 #[.pointer none, .int .i64 x] w fun e w' => e = .returned (.int .i64 1) ∧ w' = w := by
  go_enter Tryz.func20, Tryz.ntmps20
  go_wp2
  go_ret
  exact ⟨rfl, rfl⟩

theorem boxz {w : World} {q : Nat} {x y z z' : Value} {T : TypeId} (h : w.heap[q]? = some (.cells #[x, y, z] T (0, 0))) : w.setCell ⟨q, 2, none⟩ z' = put w q (.cells #[x, y, z'] T (0, 0)) := by
  rw [set_put _ h]
  rfl

theorem map_erase {α β : Type} (f : α → β) (l : List α) (i : Nat) : (l.map f).eraseIdx i = (l.eraseIdx i).map f := by
  induction l generalizing i with
  | nil => simp
  | cons x r ih =>
    cases i with
    | zero => simp
    | succ i => simp [ih]

theorem snaps_cut {F : List (List Nat)} {last i : Nat} {X : List (Nat × List (List Nat))} (h : OkS F last X) : OkS F last (X.eraseIdx i) := by
  refine ⟨h.img, fun p hp => h.ims p (List.mem_of_mem_eraseIdx hp), h.inc.sublist (List.eraseIdx_sublist _ i), ?_, h.last⟩
  have h1 := (List.eraseIdx_sublist X i).length_le
  have := h.few
  omega

set_option maxHeartbeats 2000000 in
theorem sdelete_any (w : World) (gd gp gb gr gs k G B N : Nat) (s : Pw) (L b0 : List Nat) (F : List (List Nat)) (last : Nat) (X : List (Nat × List (List Nat))) (h : Ctx w gd gp gb gr gs k G B N s L b0 F last X) (x : Int) :
    Calls Tryz.prog 20 #[.pointer (some ⟨gs, 0, none⟩), .int .i64 x] w fun e w' =>
      ((∀ k, k < X.length → ((X.getD k default).1 : Int) ≠ x) ∧ e = .returned (.int .i64 6) ∧ Below w.heap.size w w') ∨ (∃ i, i < X.length ∧ ((X.getD i default).1 : Int) = x ∧ ∃ E : Nat, e = .returned (.int .i64 (E : Int)) ∧ ChP gd gp gb gr gs k G B N N s L b0 F last X F last (X.eraseIdx i) w E w') := by
  obtain ⟨gi, a0, n0, c0, hobj, hnc0, hsta⟩ := h.sto
  have hn := hsta.len
  have hfew := h.ok.few
  have hn32 : n0 ≤ 32 := by omega
  have HC := Lib.hid h
  have HNC := Lib.hid hnc0
  have HSTA := Lib.hid hsta
  have HOB := Lib.hid hobj
  obtain ⟨d0, d1, d2, d3⟩ := sto_cells hobj
  have HN := Lib.hid hn
  obtain ⟨T, hX, hRY, hT, hV⟩ := hsta.row
  subst hX
  have hTl : T.length = n0 := by simpa using hn
  have HF := Lib.hid (find_any gi last a0 n0 c0 (T.map tY) x w hRY (by omega) h.ok.incY)
  unfold stV at HF
  have HRY := Lib.hid hRY
  have HT := Lib.hid (And.intro hT hV)
  have HTl := Lib.hid hTl
  have HGS : Hid (gs < w.heap.size) := Lib.hid (lt_of_block hobj)
  clear h hnc0 hsta hobj hn hRY hT hV hTl hfew
  go_enter Tryz.func20, Tryz.ntmps20
  go_wp2_with fail
  refine HF.out.mono ?_
  rintro e w1 ⟨i, fd, rfl, hi, hfd, hnf, hb1⟩
  have HB1 := Lib.hid hb1
  have HFd := Lib.hid (And.intro hi (And.intro hfd hnf))
  have hob1 : w1.heap[gs]? = some (stoObj gr gi last a0 n0 c0) := (hb1.block gs HGS.out).trans HOB.out
  have HOB1 := Lib.hid hob1
  obtain ⟨f0, f1, f2, f3⟩ := sto_cells hob1
  clear d0 d1 d2 d3 hob1 hb1 hi hfd hnf HF
  cases fd with
  | false =>
    go_wp2
    go_ret
    refine .inl ⟨fun k hk => ?_, rfl, HB1.out⟩
    have hk' : k < T.length := by simpa using hk
    have h1 := HFd.out.2.2 (by first | rfl | trivial) k (by have := HTl.out; omega)
    rw [getD_tY hk'] at h1
    rw [getD_tX hk']
    exact h1
  | true =>
    have hin := (HFd.out.2.1 rfl).1
    have hw1 : wrap64 ((i : Int) + 1) = ((i + 1 : Nat) : Int) := by unfold wrap64; omega
    go_upto_region 7 with fail
    obtain ⟨w2, hw2⟩ : ∃ w2, w2 = w1.alloc (.cells #[.pointer (some ⟨gi, 0, none⟩), .int .i64 (last : Int), .slice a0 n0 c0] 76) := ⟨_, rfl⟩
    obtain ⟨q, hq⟩ : ∃ q, q = w1.heap.size := ⟨_, rfl⟩
    rw [← hw2, ← hq]
    have hob : w2.heap[q]? = some (.cells #[.pointer (some ⟨gi, 0, none⟩), .int .i64 (last : Int), .slice a0 n0 c0] 76 (0, 0)) := by rw [hw2, hq]; exact heap_alloc_new _ _
    have hbe : Below w1.heap.size w1 w2 := by rw [hw2]; exact Below.alloc0 _ _
    have hs1 : w2.heap.size = q + 1 := by rw [hw2, hq]; simp
    have HB2 := Lib.hid (HB1.out.trans (hbe.mono HB1.out.size))
    have HQ := Lib.hid (And.intro hq hs1)
    have HOq := Lib.hid hob
    have g3 : w2.cell? ⟨gs, 3, none⟩ = some (.slice a0 n0 c0) := (hbe.cell (p := ⟨gs, 3, none⟩) (by have := HGS.out; have := HB1.out.size; simp only; omega)).trans f3
    have HCL := Lib.hid (cloneY_any a0 n0 c0 (T.map tY) w2 (HRY.out.later HB2.out) (by omega))
    clear hw2 hq hob hbe hs1 f0 f1 f2 f3
    go_wp2_with fail
    refine HCL.out.mono ?_
    rintro e w3 ⟨v3, rfl, ho3, hb3⟩
    have hYl : (T.map tY).length = n0 := by simpa using HTl.out
    rcases ho3.2 with ⟨_, h0⟩ | ⟨g3', cap3, cur3, hv3, _⟩
    · omega
    rw [hYl] at hv3
    subst hv3
    have hlt3 := World.ownsRow.lt ho3 g3' rfl
    have HDl := Lib.hid (delY_any w3 w2.heap.size g3' n0 cap3 i (T.map tY) ho3 hYl hin)
    have HG3 := Lib.hid hlt3
    have HB3 := Lib.hid hb3
    clear ho3 hb3 hYl hlt3 HCL g3
    go_wp2_with fail
    refine HDl.out.mono ?_
    rintro e w4 ⟨rfl, ho4, hs4⟩
    have hqn := HQ.out
    have hob4 : w4.heap[q]? = some (.cells #[.pointer (some ⟨gi, 0, none⟩), .int .i64 (last : Int), .slice a0 n0 c0] 76 (0, 0)) := (hs4.block q (by have := HB3.out.size; omega) (by have := HG3.out; simp; omega)).trans ((HB3.out.block q (by omega)).trans HOq.out)
    have x2 : w4.cell? ⟨q, 2, none⟩ = some (.slice a0 n0 c0) := by simp [World.cell?, hob4]
    have fz : w4.frozen? ⟨q, 2, none⟩ = false := by simp [World.frozen?, hob4]
    have HB4 : Hid (Below w2.heap.size w2 w4) := Lib.hid (HB3.out.trans (hs4.below HB3.out.size (by have := HG3.out; simp; omega)))
    have HO4 := Lib.hid ho4
    have HX4 := Lib.hid hob4
    clear ho4 hs4 hob4 HDl hqn
    go_upto_region 8 with fail
    rw [boxz HX4.out]
    obtain ⟨w5, hw5⟩ : ∃ w5, w5 = put w4 q (.cells #[.pointer (some ⟨gi, 0, none⟩), .int .i64 (last : Int), .slice (some ⟨g3', 0, none⟩) (n0 - 1) cap3] 76 (0, 0)) := ⟨_, rfl⟩
    rw [← hw5]
    have hqn := HQ.out
    have hob5 : w5.heap[q]? = some (.cells #[.pointer (some ⟨gi, 0, none⟩), .int .i64 (last : Int), .slice (some ⟨g3', 0, none⟩) (n0 - 1) cap3] 76 (0, 0)) := by rw [hw5]; exact put_same HX4.out
    have hb5 : Below w.heap.size w w5 := by
      rw [hw5]
      exact (HB2.out.trans (HB4.out.mono HB2.out.size)).trans (put_below _ (by have := HB1.out.size; omega))
    have hTn := HTl.out
    have hel : ((T.map tY).eraseIdx i).length = n0 - 1 := by rw [List.length_eraseIdx, List.length_map, hTn, if_pos hin]
    have ho5 : OwnY w5 w2.heap.size (.slice (some ⟨g3', 0, none⟩) (n0 - 1) cap3) ((T.map tY).eraseIdx i) := by
      rw [hw5]
      refine ⟨HO4.out.1, ?_⟩
      rcases HO4.out.2 with ⟨hv, _⟩ | ⟨g', cap', cur, hv, h0, hgo, rest⟩
      · cases hv
      · have e1 := hv
        injection e1 with e1
        injection e1 with e1
        injection e1 with e1
        subst e1
        exact .inr ⟨_, cap', cur, hv, h0, (put_other (by have := HG3.out; omega)).trans hgo, rest⟩
    obtain ⟨a7, c7, hv7, hr7, hc7, hl7⟩ := ho5.rd
    rw [hel] at hv7 hr7 hc7
    injection hv7 with e1 e2 e3
    subst e1
    subst e3
    have hXe : (T.map tX).eraseIdx i = (T.eraseIdx i).map tX := map_erase tX T i
    have hYe : (T.map tY).eraseIdx i = (T.eraseIdx i).map tY := map_erase tY T i
    have hsta5 : Sta w5 [gp, gb, gr, gs] N gi (some ⟨g3', 0, none⟩) (n0 - 1) F ((T.map tX).eraseIdx i) := by
      refine ⟨(HSTA.out.later hb5).img, T.eraseIdx i, hXe, by rw [← hYe]; exact hr7, fun t ht => (HT.out.1 t (List.mem_of_mem_eraseIdx ht)).save (Save.of_below hb5 []) (by simp), fun _ b o e => ?_⟩
      have := (hl7 b o e).1
      exact HC.out.fresh (by have := HB2.out.size; omega)
    have hok5 : OkS F last ((T.map tX).eraseIdx i) := snaps_cut HC.out.ok
    have z0 : w5.cell? ⟨q, 0, none⟩ = some (.pointer (some ⟨gi, 0, none⟩)) := by simp [World.cell?, hob5]
    have z1 : w5.cell? ⟨q, 1, none⟩ = some (.int .i64 (last : Int)) := by simp [World.cell?, hob5]
    have z2 : w5.cell? ⟨q, 2, none⟩ = some (.slice (some ⟨g3', 0, none⟩) (n0 - 1) cap3) := by simp [World.cell?, hob5]
    have HCh := Lib.hid (change_any w5 gd gp gb gr gs k G B N N s L b0 F last (T.map tX) (HC.out.later hb5) gi last (n0 - 1) cap3 (some ⟨g3', 0, none⟩) F _ hsta5 hc7 hok5)
    unfold stV at HCh
    have HB5 := Lib.hid hb5
    obtain ⟨n1, hn1⟩ : ∃ n1, n1 = n0 - 1 := ⟨_, rfl⟩
    rw [← hn1] at HCh z2 ⊢
    clear hw5 hqn hob5 hb5 hTn hel ho5 hr7 hc7 hl7 hXe hYe hsta5 hok5 x2 fz hn1 e2
    go_wp2_with fail
    refine HCh.out.mono ?_
    rintro e w9 ⟨E, rfl, hch⟩
    have HE := Lib.hid hch
    clear hch z0 z1 z2
    go_wp2
    go_ret
    refine .inr ⟨i, by have := HTl.out; simpa using (show i < T.length by omega), ?_, E, rfl, HE.out.from HB5.out⟩
    have hiT : i < T.length := by have := HTl.out; omega
    have h1 := (HFd.out.2.1 (by first | rfl | trivial)).2
    rw [getD_tY hiT] at h1
    rw [getD_tX hiT]
    exact h1

end Go.Proofs.YtaijjogjohbheaaGreat
