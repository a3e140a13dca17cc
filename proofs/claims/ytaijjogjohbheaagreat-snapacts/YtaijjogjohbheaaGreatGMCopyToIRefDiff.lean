/- The document's store copied. -/
import Derived.Test.YtaijjogjohbheaaGreatGIRefBytesToMBytes
import Derived.Test.YtaijjogjohbheaaGreatGSChangeToSCreate
import Derived.Deep.AppendLies
import Derived.Deep.RegionHeld3
import Derived.Laws.OwnMore
import Derived.Test.YtaijjogjohbheaaGreatIRuns
import Derived.Test.YtaijjogjohbheaaGreatGOwnVarToStillIn
import Derived.Test.YtaijjogjohbheaaGreatILike
import Derived.Deep.DeepCutAuto
import Derived.Test.YtaijjogjohbheaaGreatILawRuns
import Derived.Test.YtaijjogjohbheaaGreatGIDelToSLook
import Derived.StillTailTactics
namespace Go.Proofs.YtaijjogjohbheaaGreat
open Go.RowKit
set_option maxRecDepth 100000
set_option linter.unusedSimpArgs false

theorem info_imgp : (Tryz.prog.info? 84).map (fun i => (i.zero, i.size, i.bytes)) = some (some (.pointer none), 1, 8) := by kernel_rfl

theorem pQ_one (U : List Mu) : ∀ u ∈ U.map pQ, u.oneCell' = true := by
  intro u hu
  obtain ⟨x, _, rfl⟩ := List.mem_map.1 hu
  rfl

theorem exec_build_mod {F : List (List Nat)} (hF : F.length = 256) {o : Oper} {act : Act} (x y z : Operand) (a : Option Addr) (n c room : Nat) (w : World)
    (hop : o.op = .build 39 #[(0, x), (1, y), (2, z)] := by rfl) (hx : act.eval x = .agg (cS F).toArray := by rfl) (hy : act.eval y = .slice a n c := by rfl) (hz : act.eval z = .int .i64 (room : Int) := by rfl) :
    (execOp act.eval o).run Tryz.prog w = .ok (.value (.agg (modC F a n c room))) w := by
  have h := build_mod hF a n c room w
  unfold execOp
  rw [hop]
  simp only [List.map_toArray, List.map_cons, List.map_nil, hx, hy, hz, Sem.run_bind, h, Result.andThen_ok, Sem.run_pure]

theorem exec_box_mod {o : Oper} {act : Act} (x : Operand) (F : List (List Nat)) (a : Option Addr) (n c room : Nat) (w : World)
    (hop : o.op = .box 39 x := by rfl) (hx : act.eval x = .agg (modC F a n c room) := by rfl) :
    (execOp act.eval o).run Tryz.prog w = .ok (.value (.pointer (some ⟨w.heap.size, 0, none⟩))) (w.alloc (modObj F a n c room)) := by
  unfold execOp
  rw [hop]
  simp only [hx]
  rfl

/-- A copy of the document's store, with a row of its own. -/
structure MoO (w w' : World) (V : List Nat) (gm : Nat) (F : List (List Nat)) (A : List (Option (List (List Nat)))) (room gg n cap : Nat) (U : List Mu) : Prop where
  obj : w'.heap[gm]? = some (modObj F (some ⟨gg, 0, none⟩) n cap room)
  ok : okF F
  row : w'.ownsRow w.heap.size 84 1 (.slice (some ⟨gg, 0, none⟩) n cap) n (U.map pQ)
  len : U.length = n
  lst : U.map (fun x => x.map (·.2)) = none :: A
  ims : ∀ g G, some (g, G) ∈ U → w'.heap[g]? = some (arrObj G) ∧ okF G ∧ g ∉ V
  lo : w.heap.size ≤ gm
  ne : gg < gm ∨ gm < gg
  low : ∀ g G, some (g, G) ∈ U → g < w.heap.size

set_option maxHeartbeats 4000000 in
theorem copied_any (w : World) (V : List Nat) (gm : Nat) (F : List (List Nat)) (A : List (Option (List (List Nat)))) (room : Nat) (h : Mod w V gm F A room) (hA : A.length ≤ 1000) :
    Calls Tryz.prog 26 #[.pointer (some ⟨gm, 0, none⟩)] w fun e w' => ∃ gm' gg n cap U, e = .returned (.pointer (some ⟨gm', 0, none⟩)) ∧ MoO w w' V gm' F A room gg n cap U ∧ Below w.heap.size w w' := by
  obtain ⟨i0, hi0, hz0, hz1, hz2⟩ := info_parts info_imgp
  obtain ⟨a, n, c, U, h1, h2, h3, h4, h5, h6, h7, h8⟩ := h
  have hUl : U.length = n := h4.1
  have hn : n = A.length + 1 := by
    have := congrArg List.length h5
    simp only [List.length_map, List.length_cons] at this
    omega
  have hn0 : 0 < n := by omega
  have hn2 : n ≤ 1001 := by omega
  obtain ⟨b, o, rfl, hc⟩ := h4.2 hn0
  have hgm := lt_of_block h1
  have H1 := Lib.hid h1
  have H2 := Lib.hid h2
  have H5 := Lib.hid h5
  have H6 := Lib.hid h6
  have HUl := Lib.hid hUl
  have HGM := Lib.hid hgm
  have HSw : Hid (Below w.heap.size w w.drew) := Lib.hid (Below.refl _ _).drew
  have HRng : Hid (∀ W, Below w.heap.size w W → W.rangeAt gm 0 (cS F)) := Lib.hid fun W hW => mod_range ((hW.block gm hgm).trans h1)
  have HCs : Hid (∀ W, Below w.heap.size w W → W.cell? ⟨gm, 256, none⟩ = some (.slice (some ⟨b, o, none⟩) n c) ∧ W.cell? ⟨gm, 257, none⟩ = some (.int .i64 (room : Int))) :=
    Lib.hid fun W hW => ⟨mod_row ((hW.block gm hgm).trans h1) h2.1, mod_room ((hW.block gm hgm).trans h1) h2.1⟩
  have HNews : Hid (∀ W, Below w.heap.size w W → ∀ j u, (U.map pQ)[j]? = some u → W.cell? ((⟨b, o, none⟩ : Addr).add j) = some u) := by
    refine Lib.hid fun W hW j u hu => ?_
    have hj : j < n := by
      rcases Nat.lt_or_ge j n with h | h
      · exact h
      · rw [List.getElem?_eq_none (by rw [List.length_map, hUl]; exact h)] at hu; cases hu
    have hcj := hc j hj
    rw [add_plain]
    refine ((hW.cell (p := ⟨b, o + j, none⟩) (World.block_lt_of_cell? w _ hcj)).trans hcj).trans ?_
    rw [← hu]
    simp [List.getD, show j < U.length by omega]
  clear h1 h2 h3 h4 h5 h6 h7 h8 hUl hn hgm hc
  go_enter Tryz.func26, Tryz.ntmps26
  go_upto_region 1 with fail
  refine wp_region_held_drew (S := fun W => Below w.heap.size w W) (by kernel_rfl) HSw.out (fun _ => ?_)
  refine wpAnyH_take (i := 0) (v := ?vq0) rfl (by kernel_rfl) (by kernel_rfl) (by kernel_rfl) (fun _ _ _ h => h) (Or.inl ⟨by rfl, ?hq0⟩) HSw.out ?rq0
  case hq0 => (intro W hW; (try obtain ⟨hw1, hw2⟩ := HCs.out W hW); go_simp; try with_reducible rfl)
  simp only [Act.put, List.getElem_toArray, List.getElem_cons_succ, List.getElem_cons_zero, List.setIfInBounds_toArray, List.set_cons_zero, List.set_cons_succ]
  refine wpAnyH_take (i := 1) (v := ?vq1) rfl (by kernel_rfl) (by kernel_rfl) (by kernel_rfl) (fun _ _ _ h => h) (Or.inl ⟨by rfl, ?hq1⟩) HSw.out ?rq1
  case hq1 => (intro W hW; (try obtain ⟨hw1, hw2⟩ := HCs.out W hW); go_simp; try with_reducible rfl)
  simp only [Act.put, List.getElem_toArray, List.getElem_cons_succ, List.getElem_cons_zero, List.setIfInBounds_toArray, List.set_cons_zero, List.set_cons_succ]
  refine wpAnyH_take (i := 2) (v := ?vq2) rfl (by kernel_rfl) (by kernel_rfl) (by kernel_rfl) (fun _ _ _ h => h) (Or.inl ⟨by rfl, ?hq2⟩) HSw.out ?rq2
  case hq2 => (intro W hW; (try obtain ⟨hw1, hw2⟩ := HCs.out W hW); go_simp; try with_reducible rfl)
  simp only [Act.put, List.getElem_toArray, List.getElem_cons_succ, List.getElem_cons_zero, List.setIfInBounds_toArray, List.set_cons_zero, List.set_cons_succ]
  refine wpAnyH_take (i := 3) (v := .agg (cS F).toArray) rfl (by kernel_rfl) (by kernel_rfl) (by kernel_rfl) (fun _ _ _ h => h) (yieldsIf_load_mid (by rfl) 37 (.tmp 5) rfl gm 0 rfl (cS F) _ (fun W hW => HRng.out W hW) Tryz.underlying37 rfl (size_imgL H2.out.1)) HSw.out ?rq3
  simp only [Act.put, List.getElem_toArray, List.getElem_cons_succ, List.getElem_cons_zero, List.setIfInBounds_toArray, List.set_cons_zero, List.set_cons_succ]
  refine wpAnyH_take (i := 5) (v := ?vq5) rfl (by kernel_rfl) (by kernel_rfl) (by kernel_rfl) (fun _ _ _ h => h) (Or.inl ⟨by rfl, ?hq5⟩) HSw.out ?rq5
  case hq5 => (intro W hW; (try obtain ⟨hw1, hw2⟩ := HCs.out W hW); go_simp; try with_reducible rfl)
  simp only [Act.put, List.getElem_toArray, List.getElem_cons_succ, List.getElem_cons_zero, List.setIfInBounds_toArray, List.set_cons_zero, List.set_cons_succ]
  refine wpAnyH_take (i := 6) (v := ?vq6) rfl (by kernel_rfl) (by kernel_rfl) (by kernel_rfl) (fun _ _ _ h => h) (Or.inl ⟨by rfl, ?hq6⟩) HSw.out ?rq6
  case hq6 => (intro W hW; (try obtain ⟨hw1, hw2⟩ := HCs.out W hW); go_simp; try with_reducible rfl)
  simp only [Act.put, List.getElem_toArray, List.getElem_cons_succ, List.getElem_cons_zero, List.setIfInBounds_toArray, List.set_cons_zero, List.set_cons_succ]
  refine wpAnyH_take (i := 7) (v := ?vq7) rfl (by kernel_rfl) (by kernel_rfl) (by kernel_rfl) (fun _ _ _ h => h) (Or.inl ⟨by rfl, ?hq7⟩) HSw.out ?rq7
  case hq7 => (intro W hW; (try obtain ⟨hw1, hw2⟩ := HCs.out W hW); go_simp; try with_reducible rfl)
  simp only [Act.put, List.getElem_toArray, List.getElem_cons_succ, List.getElem_cons_zero, List.setIfInBounds_toArray, List.set_cons_zero, List.set_cons_succ]
  refine wpAnyH_take (i := 8) (v := ?vq8) rfl (by kernel_rfl) (by kernel_rfl) (by kernel_rfl) (fun _ _ _ h => h) (Or.inl ⟨by rfl, ?hq8⟩) HSw.out ?rq8
  case hq8 => (intro W hW; (try obtain ⟨hw1, hw2⟩ := HCs.out W hW); go_simp; try with_reducible rfl)
  simp only [Act.put, List.getElem_toArray, List.getElem_cons_succ, List.getElem_cons_zero, List.setIfInBounds_toArray, List.set_cons_zero, List.set_cons_succ]
  refine wpAnyH_take (i := 10) (v := ?vq10) rfl (by kernel_rfl) (by kernel_rfl) (by kernel_rfl) (fun _ _ _ h => h) (Or.inl ⟨by rfl, ?hq10⟩) HSw.out ?rq10
  case hq10 => (intro W hW; (try obtain ⟨hw1, hw2⟩ := HCs.out W hW); go_simp; try with_reducible rfl)
  simp only [Act.put, List.getElem_toArray, List.getElem_cons_succ, List.getElem_cons_zero, List.setIfInBounds_toArray, List.set_cons_zero, List.set_cons_succ]
  refine wpAnyH_take (i := 11) (v := ?vq11) rfl (by kernel_rfl) (by kernel_rfl) (by kernel_rfl) (fun _ _ _ h => h) (Or.inl ⟨by rfl, ?hq11⟩) HSw.out ?rq11
  case hq11 => (intro W hW; (try obtain ⟨hw1, hw2⟩ := HCs.out W hW); go_simp; try with_reducible rfl)
  simp only [Act.put, List.getElem_toArray, List.getElem_cons_succ, List.getElem_cons_zero, List.setIfInBounds_toArray, List.set_cons_zero, List.set_cons_succ]
  refine wpAnyH_take (i := 12) (v := ?vq12) rfl (by kernel_rfl) (by kernel_rfl) (by kernel_rfl) (fun _ _ _ h => h) (Or.inl ⟨by rfl, ?hq12⟩) HSw.out ?rq12
  case hq12 => (intro W hW; (try obtain ⟨hw1, hw2⟩ := HCs.out W hW); go_simp; try with_reducible rfl)
  simp only [Act.put, List.getElem_toArray, List.getElem_cons_succ, List.getElem_cons_zero, List.setIfInBounds_toArray, List.set_cons_zero, List.set_cons_succ]
  refine wpAnyH_take (i := 13) (v := ?vq13) rfl (by kernel_rfl) (by kernel_rfl) (by kernel_rfl) (fun _ _ _ h => h) (Or.inl ⟨by rfl, ?hq13⟩) HSw.out ?rq13
  case hq13 => (intro W hW; (try obtain ⟨hw1, hw2⟩ := HCs.out W hW); go_simp; try with_reducible rfl)
  simp only [Act.put, List.getElem_toArray, List.getElem_cons_succ, List.getElem_cons_zero, List.setIfInBounds_toArray, List.set_cons_zero, List.set_cons_succ]
  refine wpAnyH_ready (rs := [4]) (by kernel_rfl) (by simp) ?_
  refine AllReadyH.cons rfl (fun K hK => ?_) AllReadyH.nil
  refine ready_mk (v := .slice (some ⟨w.drew.heap.size, 0, none⟩) 0 0) (w' := w.drew.alloc (.cells #[] 84)) (by rfl) (by (go_simp; try with_reducible rfl)) ?_
  have HS1 : Hid (Below w.heap.size w (w.drew.alloc (.cells #[] 84))) := Lib.hid (HSw.out.alloc (Nat.le_refl _) _)
  refine hK.out _ _ HS1.out (fun _ => ?_)
  clear hK K
  simp only [Act.put, List.getElem_toArray, List.getElem_cons_succ, List.getElem_cons_zero, List.setIfInBounds_toArray, List.set_cons_zero, List.set_cons_succ]
  refine wpAnyH_ready (rs := [9]) (by kernel_rfl) (by simp) ?_
  refine AllReadyH.cons rfl (fun K hK => ?_) AllReadyH.nil
  refine step_append_lies _ (by rfl) _ _ _ (by rfl) w.heap.size 84 i0 _ 1 8 Tryz.underlying35 hi0 hz0 hz1 hz2 rfl (by omega) (.slice (some ⟨w.drew.heap.size, 0, none⟩) 0 0) 0 [] (by rfl) (World.ownsRow_made w.drew #[] 0 (Nat.le_refl _) (by simp [maxLen]) (by simp)) ⟨b, o, none⟩ n c (U.map pQ) (by rfl) (by rw [List.length_map, HUl.out]; omega) (HNews.out _ HS1.out) (pQ_one U) hn0 (by unfold maxLen; omega) (by omega) HS1.out.size _ rfl ?_
  intro gg cap w2 hown hgrow hat hlt
  have HS2 : Hid (Below w.heap.size w w2) := Lib.hid (HS1.out.grown hgrow HS1.out.size (fun k hk => by injection hk with hk; rw [← hk]; exact Nat.le_refl _))
  rw [Nat.zero_add, List.nil_append] at hown
  have HO2 := Lib.hid hown
  refine hK.out _ _ HS2.out (fun _ => ?_)
  clear hK K hown hgrow hat hlt
  simp only [Act.put, List.getElem_toArray, List.getElem_cons_succ, List.getElem_cons_zero, List.setIfInBounds_toArray, List.set_cons_zero, List.set_cons_succ]
  simp only [Nat.zero_add]
  refine wpAnyH_take (i := 14) (v := .agg (modC F (some ⟨gg, 0, none⟩) n cap room)) rfl (by kernel_rfl) (by kernel_rfl) (by kernel_rfl) (fun _ _ _ h => h) (Or.inl ⟨by rfl, ?hq14⟩) HS2.out ?rq14
  case hq14 => (intro W hW; exact exec_build_mod H2.out.1 (.tmp 6) (.tmp 12) (.tmp 16) _ _ _ _ W)
  simp only [Act.put, List.getElem_toArray, List.getElem_cons_succ, List.getElem_cons_zero, List.setIfInBounds_toArray, List.set_cons_zero, List.set_cons_succ]
  refine wpAnyH_ready (rs := [15]) (by kernel_rfl) (by simp) ?_
  refine AllReadyH.cons rfl (fun K hK => ?_) AllReadyH.nil
  refine ready_mk (v := .pointer (some ⟨w2.heap.size, 0, none⟩)) (w' := w2.alloc (modObj F (some ⟨gg, 0, none⟩) n cap room)) (by rfl) (exec_box_mod (.tmp 17) _ _ _ _ _ w2) ?_
  have HS3 : Hid (Below w.heap.size w (w2.alloc (modObj F (some ⟨gg, 0, none⟩) n cap room))) := Lib.hid (HS2.out.alloc HS2.out.size _)
  refine hK.out _ _ HS3.out (fun _ => ?_)
  clear hK K
  simp only [Act.put, List.getElem_toArray, List.getElem_cons_succ, List.getElem_cons_zero, List.setIfInBounds_toArray, List.set_cons_zero, List.set_cons_succ]
  refine wpAnyH_take (i := 16) (v := ?vq16) rfl (by kernel_rfl) (by kernel_rfl) (by kernel_rfl) (fun _ _ _ h => h) (Or.inl ⟨by rfl, ?hq16⟩) HS3.out ?rq16
  case hq16 => (intro W hW; (try obtain ⟨hw1, hw2⟩ := HCs.out W hW); go_simp; try with_reducible rfl)
  simp only [Act.put, List.getElem_toArray, List.getElem_cons_succ, List.getElem_cons_zero, List.setIfInBounds_toArray, List.set_cons_zero, List.set_cons_succ]
  refine wpAnyH_done (by kernel_rfl) ?_ _
  go_wp2
  go_ret
  have hlt := World.ownsRow.lt HO2.out gg rfl
  refine ⟨w2.heap.size, gg, n, cap, U, rfl, ⟨heap_alloc_new w2 _, H2.out, HO2.out.alloc _, HUl.out, H5.out, fun g G hg => ?_, HS2.out.size, .inl hlt.2, fun g G hg => lt_of_block (H6.out g G hg).1⟩, HS3.out⟩
  obtain ⟨k1, k2, k3⟩ := H6.out g G hg
  exact ⟨(HS3.out.block g (lt_of_block k1)).trans k1, k2, k3⟩

end Go.Proofs.YtaijjogjohbheaaGreat

/- What an act makes of the document's store: what is common; a look. -/
namespace Go.Proofs.YtaijjogjohbheaaGreat
open Go.RowKit
set_option maxRecDepth 100000
set_option linter.unusedSimpArgs false

/-- An act as a value. -/
def actV (K : Nat) (I N : Int) (ab : Option Addr) (nb cb : Nat) (fl : Bool) (P Z : Int) : Value :=
  .agg #[.int .u8 (K : Int), .int .i64 I, .int .i64 N, .slice ab nb cb, .bool fl, .int .i64 P, .int .i64 Z]

def actObj (K : Nat) (I N : Int) (ab : Option Addr) (nb cb : Nat) (fl : Bool) (P Z : Int) : Obj :=
  .cells #[.int .u8 (K : Int), .int .i64 I, .int .i64 N, .slice ab nb cb, .bool fl, .int .i64 P, .int .i64 Z] 42 (0, 0)

theorem MoO.mod {w w' : World} {V : List Nat} {gm : Nat} {F : List (List Nat)} {A : List (Option (List (List Nat)))} {room gg n cap : Nat} {U : List Mu} (h : MoO w w' V gm F A room gg n cap U) (hV : ∀ k ∈ V, k < w.heap.size) : Mod w' V gm F A room := by
  obtain ⟨h1, h2, h3, h4, h5, h6, h7, h8, _⟩ := h
  have hlt := World.ownsRow.lt h3 gg rfl
  have hcap : n ≤ cap := by
    rcases h3.2 with ⟨hv, _⟩ | ⟨g, cap', cur, hv, _, _, hc, _⟩
    · cases hv
    · injection hv with _ _ hv; omega
  refine ⟨some ⟨gg, 0, none⟩, n, cap, U, h1, h2, hcap, ⟨h4, fun hn => ⟨gg, 0, rfl, fun j hj => ?_⟩⟩, h5, h6, fun hm => by have := hV _ hm; omega, fun hn b o e hm => ?_⟩
  · have e0 := h3.cells (g := gg) rfl j (pQ (U.getD j none)) (by simp [List.getD, show j < U.length by omega])
    rw [add_plain] at e0
    exact e0
  · injection e with e
    injection e with e1 e2
    subst e1
    have := hV _ hm
    omega

/-- What an act makes of a store, when there is room. -/
noncomputable def room? (room : Nat) (F : List (List Nat)) (A : List (Option (List (List Nat)))) : Bool := decide ((sEnc F A.length (snapsF 1 A)).length ≤ room)

/-- What Then answers: E is the error that comes ahead of the room; F', A' the store as it would be. -/
def ThP (w : World) (V : List Nat) (room E : Nat) (F' : List (List Nat)) (A' : List (Option (List (List Nat)))) (e : Ending) (w' : World) : Prop :=
  Below w.heap.size w w' ∧ ((E ≠ 0 ∧ e = .returned (.tuple #[.pointer none, .int .i64 (E : Int)])) ∨
    (E = 0 ∧ room? room F' A' = false ∧ e = .returned (.tuple #[.pointer none, .int .i64 7])) ∨
    (E = 0 ∧ room? room F' A' = true ∧ ∃ gx, e = .returned (.tuple #[.pointer (some ⟨gx, 0, none⟩), .int .i64 0]) ∧ w.heap.size ≤ gx ∧ Mod w' V gx F' A' room))

/-- The bytes of a store, as a slice. -/
theorem mbytes_sl (w : World) (V : List Nat) (gm : Nat) (F : List (List Nat)) (A : List (Option (List (List Nat)))) (room l : Nat) (h : Mod w V gm F A room) (hA : A.length ≤ 100) (hl : l = (sEnc F A.length (snapsF 1 A)).length) :
    Calls Tryz.prog 30 #[.pointer (some ⟨gm, 0, none⟩)] w fun e w' => ∃ a c, e = .returned (.slice a l c) ∧ Below w.heap.size w w' := by
  refine (mbytes_any w V gm F A room h hA).mono ?_
  rintro e w' ⟨v, rfl, ho, hb⟩
  obtain ⟨a, c, rfl, _, _⟩ := ho.sl
  exact ⟨a, c, by rw [hl], hb⟩

set_option maxHeartbeats 2000000 in
theorem then3_any (w : World) (V : List Nat) (gm : Nat) (F : List (List Nat)) (A : List (Option (List (List Nat)))) (room : Nat) (h : Mod w V gm F A room) (hA : A.length ≤ 90) (hV : ∀ k ∈ V, k < w.heap.size)
    (K : Nat) (I N : Int) (ab : Option Addr) (nb cb : Nat) (fl : Bool) (P Z : Int) (hK : K % 4 = 3) :
    Calls Tryz.prog 10 #[.pointer (some ⟨gm, 0, none⟩), actV K I N ab nb cb fl P Z] w (ThP w V room 0 F A) := by
  have hk1 : (K : Int) % 4 = 3 := by omega
  have hk2 : (K : Int).tmod 4 = 3 := by rw [Int.tmod_eq_emod_of_nonneg (by omega)]; omega
  have HM := Lib.hid h
  have HV := Lib.hid hV
  clear h hV hK
  unfold actV
  go_enter Tryz.func10, Tryz.ntmps10
  go_upto_region 1 with fail
  obtain ⟨w1, hw1⟩ : ∃ w1, w1 = w.alloc (actObj K I N ab nb cb fl P Z) := ⟨_, rfl⟩
  obtain ⟨q, hq⟩ : ∃ q, q = w.heap.size := ⟨_, rfl⟩
  change Code.wp _ _ _ _ (w.alloc (actObj K I N ab nb cb fl P Z))
  rw [← hw1, ← hq]
  have HB1 : Hid (Below w.heap.size w w1) := Lib.hid (by rw [hw1]; exact Below.alloc0 _ _)
  have HO1 : Hid (w1.heap[q]? = some (actObj K I N ab nb cb fl P Z)) := Lib.hid (by rw [hw1, hq]; exact heap_alloc_new _ _)
  have HCo := Lib.hid (copied_any w1 V gm F A room (HM.out.later HB1.out) (by omega))
  clear hw1 hq
  go_wp2_with fail
  refine HCo.out.mono ?_
  rintro e w2 ⟨gx, gg, n, cap, U, rfl, hmo, hb2⟩
  have HB2 := Lib.hid (HB1.out.trans (hb2.mono HB1.out.size))
  have hob2 : w2.heap[q]? = some (actObj K I N ab nb cb fl P Z) := (hb2.block q (lt_of_block HO1.out)).trans HO1.out
  have c0 : w2.cell? ⟨q, 0, none⟩ = some (.int .u8 (K : Int)) := by simp [World.cell?, hob2, actObj]
  have HMx : Hid (Mod w2 V gx F A room) := Lib.hid (hmo.mod fun k hk => Nat.lt_of_lt_of_le (HV.out k hk) HB1.out.size)
  have HGx : Hid (w.heap.size ≤ gx) := Lib.hid (Nat.le_trans HB1.out.size hmo.lo)
  obtain ⟨l, hl⟩ : ∃ l, l = (sEnc F A.length (snapsF 1 A)).length := ⟨_, rfl⟩
  have HL := Lib.hid hl
  have HBy : Hid (∀ W, Below w2.heap.size w2 W → _) := Lib.hid fun W (hW : Below w2.heap.size w2 W) => mbytes_sl W V gx F A room l (HMx.out.later hW) (by omega) hl
  have HRm : Hid (∀ W, Below w2.heap.size w2 W → W.cell? ⟨gm, 257, none⟩ = some (.int .i64 (room : Int))) := by
    refine Lib.hid fun W hW => ?_
    obtain ⟨a, n', c, U', h1, h2, _⟩ := HM.out
    exact mod_room ((((HB2.out.trans (hW.mono HB2.out.size)).block gm (lt_of_block h1))).trans h1) h2.1
  clear hmo hb2 hob2 hl HCo
  go_upto_region 19 with fail
  have r1 := HRm.out w2.drew (Below.refl _ _).drew
  go_region_held3 (fun W => W.cell? ⟨gm, 257, none⟩ = some (.int .i64 (room : Int)))
    (first | exact HRm.out _ (Below.refl _ _).drew | exact HRm.out _ ((Below.refl _ _).drew.trans hb3) | go_keep)
    (first | (go_at_call 30; refine (HBy.out _ (Below.refl _ _).drew).mono ?_; rintro e w3 ⟨a3, c3, rfl, hb3⟩))
  have HB3 : Hid (Below w2.heap.size w2 w3) := Lib.hid ((Below.refl _ _).drew.trans hb3)
  clear hb3 r1 c0
  by_cases hr : room < l
  · have hr' : (room : Int) < (l : Int) := by omega
    have HR : Hid (room? room F A = false) := Lib.hid (by unfold room?; rw [← HL.out]; simp; omega)
    clear hr
    go_wp2
    go_ret2
    exact ⟨HB2.out.trans (HB3.out.mono HB2.out.size), .inr (.inl ⟨rfl, HR.out, rfl⟩)⟩
  · have hr' : (l : Int) ≤ (room : Int) := by omega
    have HR : Hid (room? room F A = true) := Lib.hid (by unfold room?; rw [← HL.out]; simp; omega)
    clear hr
    go_wp2
    go_ret2
    exact ⟨HB2.out.trans (HB3.out.mono HB2.out.size), .inr (.inr ⟨rfl, HR.out, gx, rfl, HGx.out, HMx.out.later HB3.out⟩)⟩

end Go.Proofs.YtaijjogjohbheaaGreat

/- What an act of kind 0 makes of the document's store. -/
namespace Go.Proofs.YtaijjogjohbheaaGreat
open Go.RowKit
set_option maxRecDepth 100000
set_option linter.unusedSimpArgs false

theorem exec_load_mod {w : World} {o : Oper} {act : Act} {p : Operand} {g : Nat} {F : List (List Nat)} {a : Option Addr} {n c room : Nat} (hop : o.op = Op.load 37 p) (hp : act.eval p = .pointer (some ⟨g, 0, none⟩)) (hg : w.heap[g]? = some (modObj F a n c room)) (hl : F.length = 256) :
    (execOp act.eval o).run Tryz.prog w = .ok (.value (.agg (cS F).toArray)) w := by
  have h1 := run_loadAt_mid (P := Tryz.prog) w g 0 37 (cS F) _ (mod_range hg) Tryz.underlying37 rfl (size_imgL hl)
  simp only [execOp, hop, hp, Sem.run_bind, h1, Result.andThen, Sem.run_pure]

theorem exec_store_mod {w : World} {o : Oper} {act : Act} {p v : Operand} {g : Nat} {F F' : List (List Nat)} {a : Option Addr} {n c room : Nat} (hop : o.op = Op.store 37 p v) (hp : act.eval p = .pointer (some ⟨g, 0, none⟩)) (hv : act.eval v = .agg (cS F').toArray) (hg : w.heap[g]? = some (modObj F a n c room)) (hl : F.length = 256) (hl' : F'.length = 256) :
    (execOp act.eval o).run Tryz.prog w = .ok .skip (put w g (modObj F' a n c room)) := by
  simp only [execOp, hop, hp, hv, Sem.run_bind, mod_store hg hl hl', Result.andThen, Sem.run_pure]

theorem put_cell_ne {w : World} {g : Nat} {o : Obj} {p : Addr} (h : p.block ≠ g) : (put w g o).cell? p = w.cell? p := by simp [World.cell?, put_other h]

theorem MoO.later0 {w w2 w3 : World} {V : List Nat} {gx : Nat} {F : List (List Nat)} {A : List (Option (List (List Nat)))} {room gg n cap : Nat} {U : List Mu} (h : MoO w w2 V gx F A room gg n cap U) (hb : Below w2.heap.size w2 w3) : MoO w w3 V gx F A room gg n cap U := by
  obtain ⟨h1, h2, h3, h4, h5, h6, h7, h8, h9⟩ := h
  refine ⟨(hb.block gx (lt_of_block h1)).trans h1, h2, ⟨h3.1, ?_⟩, h4, h5, fun g G hg => ?_, h7, h8, h9⟩
  · rcases h3.2 with h | ⟨g', cap', cur, hv, hbs, hg, rest⟩
    · exact .inl h
    · exact .inr ⟨g', cap', cur, hv, hbs, (hb.block g' (lt_of_block hg)).trans hg, rest⟩
  · obtain ⟨k1, k2, k3⟩ := h6 g G hg
    exact ⟨(hb.block g (lt_of_block k1)).trans k1, k2, k3⟩

theorem MoO.put_ {w w2 : World} {V : List Nat} {gx : Nat} {F F' : List (List Nat)} {A : List (Option (List (List Nat)))} {room gg n cap : Nat} {U : List Mu} (h : MoO w w2 V gx F A room gg n cap U) (hF : okF F') : MoO w (put w2 gx (modObj F' (some ⟨gg, 0, none⟩) n cap room)) V gx F' A room gg n cap U := by
  obtain ⟨h1, h2, h3, h4, h5, h6, h7, h8, h9⟩ := h
  refine ⟨put_same h1, hF, ⟨h3.1, ?_⟩, h4, h5, fun g G hg => ?_, h7, h8, h9⟩
  · rcases h3.2 with h | ⟨g', cap', cur, hv, hbs, hg, rest⟩
    · exact .inl h
    · refine .inr ⟨g', cap', cur, hv, hbs, (put_other ?_).trans hg, rest⟩
      injection hv with hv
      injection hv with hv
      injection hv with hv
      omega
  · obtain ⟨k1, k2, k3⟩ := h6 g G hg
    exact ⟨(put_other (by have := h9 g G hg; omega)).trans k1, k2, k3⟩

theorem MoO.drew {w w2 : World} {V : List Nat} {gx : Nat} {F : List (List Nat)} {A : List (Option (List (List Nat)))} {room gg n cap : Nat} {U : List Mu} (h : MoO w w2 V gx F A room gg n cap U) : MoO w w2.drew V gx F A room gg n cap U := by
  obtain ⟨h1, h2, h3, h4, h5, h6, h7, h8, h9⟩ := h
  exact ⟨h1, h2, h3, h4, h5, h6, h7, h8, h9⟩

theorem okF_set {F : List (List Nat)} (h : okF F) (j : Nat) {l : List Nat} (hl : l = [] ∨ okB l) : okF (F.set j l) := by
  refine ⟨by rw [List.length_set]; exact h.1, fun x hx => ?_⟩
  rcases List.mem_or_eq_of_mem_set hx with hx | hx
  · exact h.2 x hx
  · rw [hx]; exact hl

set_option maxHeartbeats 2000000 in
theorem then0_no (w : World) (V : List Nat) (gm : Nat) (F : List (List Nat)) (A : List (Option (List (List Nat)))) (room : Nat) (h : Mod w V gm F A room) (hA : A.length ≤ 90) (hV : ∀ k ∈ V, k < w.heap.size)
    (K : Nat) (I N : Int) (ab : Option Addr) (nb cb : Nat) (fl : Bool) (P Z : Int) (hK : K % 4 = 0) (hno : I < 0 ∨ 255 < I ∨ 32 < nb) :
    Calls Tryz.prog 10 #[.pointer (some ⟨gm, 0, none⟩), actV K I N ab nb cb fl P Z] w (ThP w V room 1 F A) := by
  have hk1 : (K : Int) % 4 = 0 := by omega
  have hk2 : (K : Int).tmod 4 = 0 := by rw [Int.tmod_eq_emod_of_nonneg (by omega)]; omega
  have HM := Lib.hid h
  have HV := Lib.hid hV
  clear h hV hK
  unfold actV
  go_enter Tryz.func10, Tryz.ntmps10
  go_upto_region 1 with fail
  obtain ⟨w1, hw1⟩ : ∃ w1, w1 = w.alloc (actObj K I N ab nb cb fl P Z) := ⟨_, rfl⟩
  obtain ⟨q, hq⟩ : ∃ q, q = w.heap.size := ⟨_, rfl⟩
  change Code.wp _ _ _ _ (w.alloc (actObj K I N ab nb cb fl P Z))
  rw [← hw1, ← hq]
  have HB1 : Hid (Below w.heap.size w w1) := Lib.hid (by rw [hw1]; exact Below.alloc0 _ _)
  have HO1 : Hid (w1.heap[q]? = some (actObj K I N ab nb cb fl P Z)) := Lib.hid (by rw [hw1, hq]; exact heap_alloc_new _ _)
  have HCo := Lib.hid (copied_any w1 V gm F A room (HM.out.later HB1.out) (by omega))
  clear hw1 hq
  go_wp2_with fail
  refine HCo.out.mono ?_
  rintro e w2 ⟨gx, gg, n, cap, U, rfl, hmo, hb2⟩
  have HB2 := Lib.hid (HB1.out.trans (hb2.mono HB1.out.size))
  have hob2 : w2.heap[q]? = some (actObj K I N ab nb cb fl P Z) := (hb2.block q (lt_of_block HO1.out)).trans HO1.out
  have c0 : w2.cell? ⟨q, 0, none⟩ = some (.int .u8 (K : Int)) := by simp [World.cell?, hob2, actObj]
  have HMO := Lib.hid hmo
  have c1 : w2.cell? ⟨q, 1, none⟩ = some (.int .i64 I) := by simp [World.cell?, hob2, actObj]
  have c3 : w2.cell? ⟨q, 3, none⟩ = some (.slice ab nb cb) := by simp [World.cell?, hob2, actObj]
  have HGx : Hid (w.heap.size ≤ gx) := Lib.hid (Nat.le_trans HB1.out.size hmo.lo)
  have HN := Lib.hid hno
  clear hmo hob2 HCo hno
  by_cases i0 : I < 0
  · clear HN
    go_wp2
    go_ret2
    exact ⟨HB2.out, .inl ⟨by omega, rfl⟩⟩
  · by_cases i1 : 255 < I
    · clear HN
      go_wp2
      go_ret2
      exact ⟨HB2.out, .inl ⟨by omega, rfl⟩⟩
    · have i2 : (32 : Int) < (nb : Int) := by have := HN.out; omega
      clear HN
      go_wp2
      go_ret2
      exact ⟨HB2.out, .inl ⟨by omega, rfl⟩⟩

set_option maxHeartbeats 2000000 in
theorem then0_yes (w : World) (V : List Nat) (gm : Nat) (F : List (List Nat)) (A : List (Option (List (List Nat)))) (room : Nat) (h : Mod w V gm F A room) (hA : A.length ≤ 90) (hV : ∀ k ∈ V, k < w.heap.size)
    (K : Nat) (I N : Int) (ab : Option Addr) (nb cb : Nat) (fl : Bool) (P Z : Int) (hK : K % 4 = 0) (j : Nat) (hI : I = (j : Int)) (hj : j < 256) (hnb : nb ≤ 32) (x : List Nat) (hr : Rd w ab nb x) :
    Calls Tryz.prog 10 #[.pointer (some ⟨gm, 0, none⟩), actV K I N ab nb cb fl P Z] w (ThP w V room 0 (F.set j (newB x)) A) := by
  have hk1 : (K : Int) % 4 = 0 := by omega
  have hk2 : (K : Int).tmod 4 = 0 := by rw [Int.tmod_eq_emod_of_nonneg (by omega)]; omega
  have HM := Lib.hid h
  have HV := Lib.hid hV
  have HRX := Lib.hid hr
  clear h hV hK hr
  subst hI
  obtain ⟨F0, hF0⟩ : ∃ F0, F0 = F.set j (newB x) := ⟨_, rfl⟩
  rw [← hF0]
  have HFE := Lib.hid hF0
  clear hF0
  unfold actV
  go_enter Tryz.func10, Tryz.ntmps10
  go_upto_region 1 with fail
  obtain ⟨w1, hw1⟩ : ∃ w1, w1 = w.alloc (actObj K (j : Int) N ab nb cb fl P Z) := ⟨_, rfl⟩
  obtain ⟨q, hq⟩ : ∃ q, q = w.heap.size := ⟨_, rfl⟩
  change Code.wp _ _ _ _ (w.alloc (actObj K (j : Int) N ab nb cb fl P Z))
  rw [← hw1, ← hq]
  have HB1 : Hid (Below w.heap.size w w1) := Lib.hid (by rw [hw1]; exact Below.alloc0 _ _)
  have HO1 : Hid (w1.heap[q]? = some (actObj K (j : Int) N ab nb cb fl P Z)) := Lib.hid (by rw [hw1, hq]; exact heap_alloc_new _ _)
  have HCo := Lib.hid (copied_any w1 V gm F A room (HM.out.later HB1.out) (by omega))
  clear hw1 hq
  go_wp2_with fail
  refine HCo.out.mono ?_
  rintro e w2 ⟨gx, gg, n, cap, U, rfl, hmo, hb2⟩
  have HB2 := Lib.hid (HB1.out.trans (hb2.mono HB1.out.size))
  have hob2 : w2.heap[q]? = some (actObj K (j : Int) N ab nb cb fl P Z) := (hb2.block q (lt_of_block HO1.out)).trans HO1.out
  have c0 : w2.cell? ⟨q, 0, none⟩ = some (.int .u8 (K : Int)) := by simp [World.cell?, hob2, actObj]
  have HMO := Lib.hid hmo
  have c1 : w2.cell? ⟨q, 1, none⟩ = some (.int .i64 (j : Int)) := by simp [World.cell?, hob2, actObj]
  have c3 : w2.cell? ⟨q, 3, none⟩ = some (.slice ab nb cb) := by simp [World.cell?, hob2, actObj]
  have HGx : Hid (w.heap.size ≤ gx) := Lib.hid (Nat.le_trans HB1.out.size hmo.lo)
  have HOK := Lib.hid HM.out.ok
  have HRX2 : Hid (Rd w2 ab nb x) := Lib.hid (HRX.out.later HB2.out)
  have i0 : ¬ (j : Int) < 0 := by omega
  have i1 : ¬ 255 < (j : Int) := by omega
  have i2 : ¬ (32 : Int) < (nb : Int) := by omega
  have HF0 : Hid (okF (F.set j [])) := Lib.hid (okF_set HOK.out.1 j (.inl rfl))
  have d1 : w2.drew.cell? ⟨q, 1, none⟩ = some (.int .i64 (j : Int)) := c1
  have d3 : w2.drew.cell? ⟨q, 3, none⟩ = some (.slice ab nb cb) := c3
  have dj := mod_lo (w := w2.drew) hmo.obj (j := j) (by rw [HOK.out.1.1]; exact hj)
  have df := mod_frozen (w := w2.drew) hmo.obj j
  have dset := mod_set (w := w2.drew) hmo.obj (j := j) (by rw [HOK.out.1.1]; exact hj) []
  rw [strB_nil] at dset
  have HMO2 : Hid (MoO w1 (put w2.drew gx (modObj (F.set j []) (some ⟨gg, 0, none⟩) n cap room)) V gx (F.set j []) A room gg n cap U) := Lib.hid (hmo.drew.put_ HF0.out)
  have HQX : Hid (q < gx) := Lib.hid (by have h1 := lt_of_block HO1.out; have h2 := hmo.lo; omega)
  clear hmo hob2 HCo
  go_upto_region 6 with fail
  go_region
  obtain ⟨w9, hw3⟩ : ∃ w9, w9 = put w2.drew gx (modObj (F.set j []) (some ⟨gg, 0, none⟩) n cap room) := ⟨_, rfl⟩
  rw [← hw3] at HMO2 ⊢
  have HBW : Hid (Below w.heap.size w w9) := Lib.hid (by rw [hw3]; exact HB2.out.drew.trans (put_below _ HGx.out))
  have HRX3 : Hid (Rd w9 ab nb x) := Lib.hid (HRX.out.later HBW.out)
  have e1 : w9.cell? ⟨q, 1, none⟩ = some (.int .i64 (j : Int)) := by rw [hw3]; exact (put_cell_ne (by have := HQX.out; simp; omega)).trans d1
  have e3 : w9.cell? ⟨q, 3, none⟩ = some (.slice ab nb cb) := by rw [hw3]; exact (put_cell_ne (by have := HQX.out; simp; omega)).trans d3
  clear hw3 c0 c1 c3 d1 d3 dj df dset i0 i1 i2 HRX HRX2
  by_cases hx : nb = 0
  · have hx0 : ¬ (0 : Int) < (nb : Int) := by omega
    have HXN : Hid (x = []) := Lib.hid (List.length_eq_zero_iff.1 (HRX3.out.1.trans hx))
    clear hx
    have HMx : Hid (Mod w9 V gx F0 A room) := Lib.hid (by rw [HFE.out, HXN.out]; exact HMO2.out.mod fun k hk => Nat.lt_of_lt_of_le (HV.out k hk) HB1.out.size)
    obtain ⟨l, hl⟩ : ∃ l, l = (sEnc (F0) (A).length (snapsF 1 (A))).length := ⟨_, rfl⟩
    have HL := Lib.hid hl
    have HBy : Hid (∀ W, Below w9.heap.size w9 W → _) := Lib.hid fun W (hW : Below w9.heap.size w9 W) => mbytes_sl W V gx (F0) (A) room l (HMx.out.later hW) (by first | omega | (simp; omega)) hl
    have HRm : Hid (∀ W, Below w9.heap.size w9 W → W.cell? ⟨gm, 257, none⟩ = some (.int .i64 (room : Int))) := by
      refine Lib.hid fun W hW => ?_
      obtain ⟨a, n', c, U', h1, h2, _⟩ := HM.out
      exact mod_room ((((HBW.out.trans (hW.mono HBW.out.size)).block gm (lt_of_block h1))).trans h1) h2.1
    clear hl
    go_upto_region 19 with fail
    have r1 := HRm.out w9.drew (Below.refl _ _).drew
    go_region_held3 (fun W => W.cell? ⟨gm, 257, none⟩ = some (.int .i64 (room : Int)))
      (first | exact HRm.out _ (Below.refl _ _).drew | exact HRm.out _ ((Below.refl _ _).drew.trans hb3) | go_keep)
      (first | (go_at_call 30; refine (HBy.out _ (Below.refl _ _).drew).mono ?_; rintro e w3 ⟨a3, c3, rfl, hb3⟩))
    have HB3 : Hid (Below w9.heap.size w9 w3) := Lib.hid ((Below.refl _ _).drew.trans hb3)
    clear hb3 r1
    by_cases hr : room < l
    · have hr' : (room : Int) < (l : Int) := by omega
      have HR : Hid (room? room (F0) (A) = false) := Lib.hid (by unfold room?; rw [← HL.out]; simp; omega)
      clear hr
      go_wp2
      go_ret2
      exact ⟨HBW.out.trans (HB3.out.mono HBW.out.size), .inr (.inl ⟨rfl, HR.out, rfl⟩)⟩
    · have hr' : (l : Int) ≤ (room : Int) := by omega
      have HR : Hid (room? room (F0) (A) = true) := Lib.hid (by unfold room?; rw [← HL.out]; simp; omega)
      clear hr
      go_wp2
      go_ret2
      exact ⟨HBW.out.trans (HB3.out.mono HBW.out.size), .inr (.inr ⟨rfl, HR.out, gx, rfl, HGx.out, HMx.out.later HB3.out⟩)⟩

  · have hx0 : (0 : Int) < (nb : Int) := by omega
    go_upto_region 8 with fail
    have HPut := Lib.hid (refPut_any w9.drew (F.set j []) j ab nb cb x HF0.out.1 hj hnb HRX3.out)
    have hse : Hid ((F.set j []).set j (padB x) = F.set j (newB x)) := Lib.hid (by rw [List.set_set]; unfold newB; rw [if_neg (by rw [HRX3.out.1]; exact hx)])
    rw [hse.out] at HPut
    rw [← HFE.out] at HPut
    have HFO : Hid (okF F0) := Lib.hid (by rw [HFE.out]; exact okF_set HOK.out.1 j (newB_ok (by rw [HRX3.out.1]; exact hnb) HRX3.out.2.1))
    clear hse
    have HS : Hid (w9.drew.cell? ⟨q, 1, none⟩ = some (.int .i64 (j : Int)) ∧ w9.drew.cell? ⟨q, 3, none⟩ = some (.slice ab nb cb)) := Lib.hid ⟨e1, e3⟩
    clear e1 e3 hx
    have HMO3 := Lib.hid HMO2.out.drew
    refine wp_region_held_drew (S := fun W => W.cell? ⟨q, 1, none⟩ = some (.int .i64 (j : Int)) ∧ W.cell? ⟨q, 3, none⟩ = some (.slice ab nb cb)) (by kernel_rfl) HS.out (fun _ => ?_)
    refine wpAnyH_take (i := 0) (v := ?vq0) rfl (by kernel_rfl) (by kernel_rfl) (by kernel_rfl) (fun _ _ _ h => h) (Or.inl ⟨by rfl, ?hq0⟩) HS.out ?rq0
    case hq0 => (intro W hW; (try obtain ⟨hw1, hw2⟩ := hW); go_simp; try with_reducible rfl)
    simp only [Act.put, List.getElem_toArray, List.getElem_cons_succ, List.getElem_cons_zero, List.setIfInBounds_toArray, List.set_cons_zero, List.set_cons_succ]
    refine wpAnyH_take (i := 1) (v := ?vq1) rfl (by kernel_rfl) (by kernel_rfl) (by kernel_rfl) (fun _ _ _ h => h) (Or.inl ⟨by rfl, ?hq1⟩) HS.out ?rq1
    case hq1 => (intro W hW; (try obtain ⟨hw1, hw2⟩ := hW); go_simp; try with_reducible rfl)
    simp only [Act.put, List.getElem_toArray, List.getElem_cons_succ, List.getElem_cons_zero, List.setIfInBounds_toArray, List.set_cons_zero, List.set_cons_succ]
    refine wpAnyH_take (i := 2) (v := ?vq2) rfl (by kernel_rfl) (by kernel_rfl) (by kernel_rfl) (fun _ _ _ h => h) (Or.inl ⟨by rfl, ?hq2⟩) HS.out ?rq2
    case hq2 => (intro W hW; (try obtain ⟨hw1, hw2⟩ := hW); go_simp; try with_reducible rfl)
    simp only [Act.put, List.getElem_toArray, List.getElem_cons_succ, List.getElem_cons_zero, List.setIfInBounds_toArray, List.set_cons_zero, List.set_cons_succ]
    refine wpAnyH_take (i := 3) (v := ?vq3) rfl (by kernel_rfl) (by kernel_rfl) (by kernel_rfl) (fun _ _ _ h => h) (Or.inl ⟨by rfl, ?hq3⟩) HS.out ?rq3
    case hq3 => (intro W hW; (try obtain ⟨hw1, hw2⟩ := hW); go_simp; try with_reducible rfl)
    simp only [Act.put, List.getElem_toArray, List.getElem_cons_succ, List.getElem_cons_zero, List.setIfInBounds_toArray, List.set_cons_zero, List.set_cons_succ]
    refine wpAnyH_take (i := 5) (v := ?vq5) rfl (by kernel_rfl) (by kernel_rfl) (by kernel_rfl) (fun _ _ _ h => h) (Or.inl ⟨by rfl, ?hq5⟩) HS.out ?rq5
    case hq5 => (intro W hW; (try obtain ⟨hw1, hw2⟩ := hW); go_simp; try with_reducible rfl)
    simp only [Act.put, List.getElem_toArray, List.getElem_cons_succ, List.getElem_cons_zero, List.setIfInBounds_toArray, List.set_cons_zero, List.set_cons_succ]
    refine wpAnyH_take (i := 6) (v := ?vq6) rfl (by kernel_rfl) (by kernel_rfl) (by kernel_rfl) (fun _ _ _ h => h) (Or.inl ⟨by rfl, ?hq6⟩) HS.out ?rq6
    case hq6 => (intro W hW; (try obtain ⟨hw1, hw2⟩ := hW); go_simp; try with_reducible rfl)
    simp only [Act.put, List.getElem_toArray, List.getElem_cons_succ, List.getElem_cons_zero, List.setIfInBounds_toArray, List.set_cons_zero, List.set_cons_succ]
    refine wpAnyH_take (i := 7) (v := ?vq7) rfl (by kernel_rfl) (by kernel_rfl) (by kernel_rfl) (fun _ _ _ h => h) (Or.inl ⟨by rfl, ?hq7⟩) HS.out ?rq7
    case hq7 => (intro W hW; (try obtain ⟨hw1, hw2⟩ := hW); go_simp; try with_reducible rfl)
    simp only [Act.put, List.getElem_toArray, List.getElem_cons_succ, List.getElem_cons_zero, List.setIfInBounds_toArray, List.set_cons_zero, List.set_cons_succ]
    refine wpAnyH_take (i := 8) (v := ?vq8) rfl (by kernel_rfl) (by kernel_rfl) (by kernel_rfl) (fun _ _ _ h => h) (Or.inl ⟨by rfl, ?hq8⟩) HS.out ?rq8
    case hq8 => (intro W hW; (try obtain ⟨hw1, hw2⟩ := hW); go_simp; try with_reducible rfl)
    simp only [Act.put, List.getElem_toArray, List.getElem_cons_succ, List.getElem_cons_zero, List.setIfInBounds_toArray, List.set_cons_zero, List.set_cons_succ]
    refine wpAnyH_ready (rs := [4]) (by kernel_rfl) (by simp) ?_
    refine AllReadyH.cons rfl (fun K hK => ?_) AllReadyH.nil
    refine ready_val (v := .agg (cS (F.set j [])).toArray) (by rfl) (exec_load_mod (p := .tmp 44) rfl rfl HMO3.out.obj HF0.out.1) ?_
    refine hK.out _ _ HS.out (fun _ => ?_)
    clear hK K
    simp only [Act.put, List.getElem_toArray, List.getElem_cons_succ, List.getElem_cons_zero, List.setIfInBounds_toArray, List.set_cons_zero, List.set_cons_succ]
    refine wpAnyH_ready (rs := [9]) (by kernel_rfl) (by simp) ?_
    refine AllReadyH.cons rfl (fun K hK => ?_) AllReadyH.nil
    refine ready_call (f := 27) (vs := #[.agg (cS (F.set j [])).toArray, .int .i64 (j : Int), .slice ab nb cb]) (by rfl) (by (go_simp; try with_reducible rfl)) ?_
    refine HPut.out.mono ?_
    rintro e w4 ⟨rfl, hb4⟩
    refine ⟨_, rfl, ?_⟩
    have HB4 := Lib.hid hb4
    have HS4 : Hid (w4.cell? ⟨q, 1, none⟩ = some (.int .i64 (j : Int)) ∧ w4.cell? ⟨q, 3, none⟩ = some (.slice ab nb cb)) := Lib.hid ⟨(hb4.cell (p := ⟨q, 1, none⟩) (World.block_lt_of_cell? _ _ HS.out.1)).trans HS.out.1, (hb4.cell (p := ⟨q, 3, none⟩) (World.block_lt_of_cell? _ _ HS.out.2)).trans HS.out.2⟩
    have HMO4 := Lib.hid (HMO3.out.later0 hb4)
    clear hb4 HS
    refine hK.out _ _ HS4.out (fun _ => ?_)
    clear hK K
    simp only [Act.put, List.getElem_toArray, List.getElem_cons_succ, List.getElem_cons_zero, List.setIfInBounds_toArray, List.set_cons_zero, List.set_cons_succ]
    refine wpAnyH_take (i := 10) (v := ?vq10) rfl (by kernel_rfl) (by kernel_rfl) (by kernel_rfl) (fun _ _ _ h => h) (Or.inl ⟨by rfl, ?hq10⟩) HS4.out ?rq10
    case hq10 => (intro W hW; (try obtain ⟨hw1, hw2⟩ := hW); go_simp; try with_reducible rfl)
    simp only [Act.put, List.getElem_toArray, List.getElem_cons_succ, List.getElem_cons_zero, List.setIfInBounds_toArray, List.set_cons_zero, List.set_cons_succ]
    refine wpAnyH_take (i := 11) (v := ?vq11) rfl (by kernel_rfl) (by kernel_rfl) (by kernel_rfl) (fun _ _ _ h => h) (Or.inl ⟨by rfl, ?hq11⟩) HS4.out ?rq11
    case hq11 => (intro W hW; (try obtain ⟨hw1, hw2⟩ := hW); go_simp; try with_reducible rfl)
    simp only [Act.put, List.getElem_toArray, List.getElem_cons_succ, List.getElem_cons_zero, List.setIfInBounds_toArray, List.set_cons_zero, List.set_cons_succ]
    refine wpAnyH_ready (rs := [12]) (by kernel_rfl) (by simp) ?_
    refine AllReadyH.cons rfl (fun K hK => ?_) AllReadyH.nil
    refine ready_skp (w' := put w4 gx (modObj F0 (some ⟨gg, 0, none⟩) n cap room)) (by rfl) (exec_store_mod (p := .tmp 52) (v := .tmp 50) rfl rfl rfl HMO4.out.obj HF0.out.1 HFO.out.1) ?_
    have HMO5 : Hid (MoO w1 (put w4 gx (modObj F0 (some ⟨gg, 0, none⟩) n cap room)) V gx F0 A room gg n cap U) := Lib.hid (HMO4.out.put_ HFO.out)
    obtain ⟨w5, hw5⟩ : ∃ w5, w5 = put w4 gx (modObj F0 (some ⟨gg, 0, none⟩) n cap room) := ⟨_, rfl⟩
    rw [← hw5] at HMO5 ⊢
    have HS5 : Hid (w5.cell? ⟨q, 1, none⟩ = some (.int .i64 (j : Int)) ∧ w5.cell? ⟨q, 3, none⟩ = some (.slice ab nb cb)) := Lib.hid (by rw [hw5]; exact ⟨(put_cell_ne (by have := HQX.out; simp; omega)).trans HS4.out.1, (put_cell_ne (by have := HQX.out; simp; omega)).trans HS4.out.2⟩)
    have HBV : Hid (Below w.heap.size w w5) := Lib.hid (by rw [hw5]; exact (HBW.out.drew.trans (HB4.out.mono HBW.out.drew.size)).trans (put_below _ HGx.out))
    refine hK.out _ _ HS5.out (fun _ => ?_)
    clear hK K
    simp only [Act.put, List.getElem_toArray, List.getElem_cons_succ, List.getElem_cons_zero, List.setIfInBounds_toArray, List.set_cons_zero, List.set_cons_succ]
    refine wpAnyH_done (by kernel_rfl) ?_ _
    have HMx : Hid (Mod w5 V gx F0 A room) := Lib.hid (HMO5.out.mod fun k hk => Nat.lt_of_lt_of_le (HV.out k hk) HB1.out.size)
    replace HBW := HBV
    clear hw5 HMO2 HMO3 HMO4 HMO5 HBV HB4
    obtain ⟨l, hl⟩ : ∃ l, l = (sEnc (F0) (A).length (snapsF 1 (A))).length := ⟨_, rfl⟩
    have HL := Lib.hid hl
    have HBy : Hid (∀ W, Below w5.heap.size w5 W → _) := Lib.hid fun W (hW : Below w5.heap.size w5 W) => mbytes_sl W V gx (F0) (A) room l (HMx.out.later hW) (by first | omega | (simp; omega)) hl
    have HRm : Hid (∀ W, Below w5.heap.size w5 W → W.cell? ⟨gm, 257, none⟩ = some (.int .i64 (room : Int))) := by
      refine Lib.hid fun W hW => ?_
      obtain ⟨a, n', c, U', h1, h2, _⟩ := HM.out
      exact mod_room ((((HBW.out.trans (hW.mono HBW.out.size)).block gm (lt_of_block h1))).trans h1) h2.1
    clear hl
    go_upto_region 19 with fail
    have r1 := HRm.out w5.drew (Below.refl _ _).drew
    go_region_held3 (fun W => W.cell? ⟨gm, 257, none⟩ = some (.int .i64 (room : Int)))
      (first | exact HRm.out _ (Below.refl _ _).drew | exact HRm.out _ ((Below.refl _ _).drew.trans hb3) | go_keep)
      (first | (go_at_call 30; refine (HBy.out _ (Below.refl _ _).drew).mono ?_; rintro e w3 ⟨a3, c3, rfl, hb3⟩))
    have HB3 : Hid (Below w5.heap.size w5 w3) := Lib.hid ((Below.refl _ _).drew.trans hb3)
    clear hb3 r1
    by_cases hr : room < l
    · have hr' : (room : Int) < (l : Int) := by omega
      have HR : Hid (room? room (F0) (A) = false) := Lib.hid (by unfold room?; rw [← HL.out]; simp; omega)
      clear hr
      go_wp2
      go_ret2
      exact ⟨HBW.out.trans (HB3.out.mono HBW.out.size), .inr (.inl ⟨rfl, HR.out, rfl⟩)⟩
    · have hr' : (l : Int) ≤ (room : Int) := by omega
      have HR : Hid (room? room (F0) (A) = true) := Lib.hid (by unfold room?; rw [← HL.out]; simp; omega)
      clear hr
      go_wp2
      go_ret2
      exact ⟨HBW.out.trans (HB3.out.mono HBW.out.size), .inr (.inr ⟨rfl, HR.out, gx, rfl, HGx.out, HMx.out.later HB3.out⟩)⟩

end Go.Proofs.YtaijjogjohbheaaGreat

/- What an act of kind 1 makes of the document's store. -/
namespace Go.Proofs.YtaijjogjohbheaaGreat
open Go.RowKit
set_option maxRecDepth 100000
set_option linter.unusedSimpArgs false

theorem MoO.later1 {w w2 w3 : World} {V : List Nat} {gx : Nat} {F : List (List Nat)} {A : List (Option (List (List Nat)))} {room gg n cap : Nat} {U : List Mu} (h : MoO w w2 V gx F A room gg n cap U) (hb : Below w2.heap.size w2 w3) : MoO w w3 V gx F A room gg n cap U := by
  obtain ⟨h1, h2, h3, h4, h5, h6, h7, h8, h9⟩ := h
  refine ⟨(hb.block gx (lt_of_block h1)).trans h1, h2, ⟨h3.1, ?_⟩, h4, h5, fun g G hg => ?_, h7, h8, h9⟩
  · rcases h3.2 with h | ⟨g', cap', cur, hv, hbs, hg, rest⟩
    · exact .inl h
    · exact .inr ⟨g', cap', cur, hv, hbs, (hb.block g' (lt_of_block hg)).trans hg, rest⟩
  · obtain ⟨k1, k2, k3⟩ := h6 g G hg
    exact ⟨(hb.block g (lt_of_block k1)).trans k1, k2, k3⟩

theorem mod_of {w' : World} {V : List Nat} {B gm : Nat} {F : List (List Nat)} {A : List (Option (List (List Nat)))} {room gg n cap : Nat} {U : List Mu} (h1 : w'.heap[gm]? = some (modObj F (some ⟨gg, 0, none⟩) n cap room)) (h2 : okF F)
    (h3 : w'.ownsRow B 84 1 (.slice (some ⟨gg, 0, none⟩) n cap) n (U.map pQ)) (h4 : U.length = n) (h5 : U.map (fun x => x.map (·.2)) = none :: A) (h6 : ∀ g G, some (g, G) ∈ U → w'.heap[g]? = some (arrObj G) ∧ okF G ∧ g ∉ V) (h7 : gm ∉ V) (hV : ∀ k ∈ V, k < B) : Mod w' V gm F A room := by
  have hlt := World.ownsRow.lt h3 gg rfl
  have hcap : n ≤ cap := by
    rcases h3.2 with ⟨hv, _⟩ | ⟨g, cap', cur, hv, _, _, hc, _⟩
    · cases hv
    · injection hv with _ _ hv; omega
  refine ⟨some ⟨gg, 0, none⟩, n, cap, U, h1, h2, hcap, ⟨h4, fun hn => ⟨gg, 0, rfl, fun j hj => ?_⟩⟩, h5, h6, h7, fun hn b o e hm => ?_⟩
  · have e0 := h3.cells (g := gg) rfl j (pQ (U.getD j none)) (by simp [List.getD, show j < U.length by omega])
    rw [add_plain] at e0
    exact e0
  · injection e with e
    injection e with e1 e2
    subst e1
    have := hV _ hm
    omega

set_option maxHeartbeats 2000000 in
theorem then1_no (w : World) (V : List Nat) (gm : Nat) (F : List (List Nat)) (A : List (Option (List (List Nat)))) (room : Nat) (h : Mod w V gm F A room) (hA : A.length ≤ 90) (hV : ∀ k ∈ V, k < w.heap.size)
    (K : Nat) (I N : Int) (ab : Option Addr) (nb cb : Nat) (fl : Bool) (P Z : Int) (hK : K % 4 = 1) (hc : 32 ≤ (snapsF 1 A).length) :
    Calls Tryz.prog 10 #[.pointer (some ⟨gm, 0, none⟩), actV K I N ab nb cb fl P Z] w (ThP w V room 7 F A) := by
  have hk1 : (K : Int) % 4 = 1 := by omega
  have hk2 : (K : Int).tmod 4 = 1 := by rw [Int.tmod_eq_emod_of_nonneg (by omega)]; omega
  have HM := Lib.hid h
  have HV := Lib.hid hV
  clear h hV hK
  unfold actV
  go_enter Tryz.func10, Tryz.ntmps10
  go_upto_region 1 with fail
  obtain ⟨w1, hw1⟩ : ∃ w1, w1 = w.alloc (actObj K I N ab nb cb fl P Z) := ⟨_, rfl⟩
  obtain ⟨q, hq⟩ : ∃ q, q = w.heap.size := ⟨_, rfl⟩
  change Code.wp _ _ _ _ (w.alloc (actObj K I N ab nb cb fl P Z))
  rw [← hw1, ← hq]
  have HB1 : Hid (Below w.heap.size w w1) := Lib.hid (by rw [hw1]; exact Below.alloc0 _ _)
  have HO1 : Hid (w1.heap[q]? = some (actObj K I N ab nb cb fl P Z)) := Lib.hid (by rw [hw1, hq]; exact heap_alloc_new _ _)
  have HCo := Lib.hid (copied_any w1 V gm F A room (HM.out.later HB1.out) (by omega))
  clear hw1 hq
  go_wp2_with fail
  refine HCo.out.mono ?_
  rintro e w2 ⟨gx, gg, n, cap, U, rfl, hmo, hb2⟩
  have HB2 := Lib.hid (HB1.out.trans (hb2.mono HB1.out.size))
  have hob2 : w2.heap[q]? = some (actObj K I N ab nb cb fl P Z) := (hb2.block q (lt_of_block HO1.out)).trans HO1.out
  have c0 : w2.cell? ⟨q, 0, none⟩ = some (.int .u8 (K : Int)) := by simp [World.cell?, hob2, actObj]
  have HMO := Lib.hid hmo
  have HGx : Hid (w.heap.size ≤ gx) := Lib.hid (Nat.le_trans HB1.out.size hmo.lo)
  have HCn := Lib.hid (mcount_any w2 V gm F A room (HM.out.later HB2.out) (by omega))
  have HOK := Lib.hid HM.out.ok
  obtain ⟨q0, hq0⟩ : ∃ q0, q0 = (snapsF 1 A).length := ⟨_, rfl⟩
  rw [← hq0] at HCn hc
  clear hmo hb2 hob2 HCo hq0
  have hc' : (32 : Int) ≤ (q0 : Int) := by omega
  clear hc
  go_wp2_with fail
  refine HCn.out.mono ?_
  rintro e w3 ⟨rfl, rfl⟩
  go_wp2
  go_ret2
  exact ⟨HB2.out, .inl ⟨by omega, rfl⟩⟩

set_option maxHeartbeats 2000000 in
theorem then1_yes (w : World) (V : List Nat) (gm : Nat) (F : List (List Nat)) (A : List (Option (List (List Nat)))) (room : Nat) (h : Mod w V gm F A room) (hA : A.length ≤ 90) (hV : ∀ k ∈ V, k < w.heap.size)
    (K : Nat) (I N : Int) (ab : Option Addr) (nb cb : Nat) (fl : Bool) (P Z : Int) (hK : K % 4 = 1) (hc : (snapsF 1 A).length < 32) :
    Calls Tryz.prog 10 #[.pointer (some ⟨gm, 0, none⟩), actV K I N ab nb cb fl P Z] w (ThP w V room 0 F (A ++ [some F])) := by
  obtain ⟨i0, hi0, hz0, hz1, hz2⟩ := info_parts info_imgp
  have hk1 : (K : Int) % 4 = 1 := by omega
  have hk2 : (K : Int).tmod 4 = 1 := by rw [Int.tmod_eq_emod_of_nonneg (by omega)]; omega
  have HM := Lib.hid h
  have HV := Lib.hid hV
  clear h hV hK
  unfold actV
  go_enter Tryz.func10, Tryz.ntmps10
  go_upto_region 1 with fail
  obtain ⟨w1, hw1⟩ : ∃ w1, w1 = w.alloc (actObj K I N ab nb cb fl P Z) := ⟨_, rfl⟩
  obtain ⟨q, hq⟩ : ∃ q, q = w.heap.size := ⟨_, rfl⟩
  change Code.wp _ _ _ _ (w.alloc (actObj K I N ab nb cb fl P Z))
  rw [← hw1, ← hq]
  have HB1 : Hid (Below w.heap.size w w1) := Lib.hid (by rw [hw1]; exact Below.alloc0 _ _)
  have HO1 : Hid (w1.heap[q]? = some (actObj K I N ab nb cb fl P Z)) := Lib.hid (by rw [hw1, hq]; exact heap_alloc_new _ _)
  have HCo := Lib.hid (copied_any w1 V gm F A room (HM.out.later HB1.out) (by omega))
  clear hw1 hq
  go_wp2_with fail
  refine HCo.out.mono ?_
  rintro e w2 ⟨gx, gg, n, cap, U, rfl, hmo, hb2⟩
  have HB2 := Lib.hid (HB1.out.trans (hb2.mono HB1.out.size))
  have hob2 : w2.heap[q]? = some (actObj K I N ab nb cb fl P Z) := (hb2.block q (lt_of_block HO1.out)).trans HO1.out
  have c0 : w2.cell? ⟨q, 0, none⟩ = some (.int .u8 (K : Int)) := by simp [World.cell?, hob2, actObj]
  have HMO := Lib.hid hmo
  have HGx : Hid (w.heap.size ≤ gx) := Lib.hid (Nat.le_trans HB1.out.size hmo.lo)
  have HCn := Lib.hid (mcount_any w2 V gm F A room (HM.out.later HB2.out) (by omega))
  have HOK := Lib.hid HM.out.ok
  obtain ⟨q0, hq0⟩ : ∃ q0, q0 = (snapsF 1 A).length := ⟨_, rfl⟩
  rw [← hq0] at HCn hc
  clear hmo hb2 hob2 HCo hq0
  have hc' : (q0 : Int) < 32 := by omega
  clear hc
  go_wp2_with fail
  refine HCn.out.mono ?_
  rintro e w3 ⟨rfl, rfl⟩
  obtain ⟨a9, n9, c9, U9, hm1, hm2, _⟩ := HM.out.later HB2.out
  have HM1 := Lib.hid hm1
  obtain ⟨g7, hg7⟩ : ∃ g7, g7 = w3.heap.size := ⟨_, rfl⟩
  have HG7 := Lib.hid hg7
  have hn9 : n ≤ 100 := by
    have h1 := congrArg List.length HMO.out.lst
    rw [List.length_map, HMO.out.len, List.length_cons] at h1
    omega
  have HLt := Lib.hid (World.ownsRow.lt HMO.out.row gg rfl)
  clear hm1 hm2
  go_upto_region 13 with (first
    | (refine wpList_load_mod rfl (.tmp 60) rfl rfl HM1.out HOK.out.1.1 ?_)
    | (refine wpList_store_img rfl (.tmp 7) (.tmp 61) rfl w3.heap.size (List.replicate 256 []) F rfl rfl (heap_alloc_last _ _) List.length_replicate HOK.out.1.1 ?_; intro w5 H5))
  have HB5 : Hid (Below w3.heap.size w3 w5) := (by rw [H5.out]; exact Lib.hid ((Below.alloc0 _ _).trans (put_below _ (Nat.le_refl _))))
  have HA5 : Hid (w5.heap[g7]? = some (arrObj F)) := (by rw [H5.out, hg7]; exact Lib.hid (put_same (heap_alloc_last _ _)))
  have HMO5 := Lib.hid (HMO.out.later1 HB5.out)
  have s4 := mod_row HMO5.out.obj HMO5.out.ok.1
  have HS5 : Hid (w5.heap.size = g7 + 1) := (by rw [H5.out, hg7]; exact Lib.hid (by simp [put]))
  rw [← hg7]
  clear H5 hg7 c0
  go_wp2_with (at_builtin; refine wpList_append_own_at _ rfl (.tmp 66) (.tmp 67) 35 rfl w1.heap.size 84 i0 _ 1 8 Tryz.underlying35 hi0 hz0 hz1 hz2 rfl (by omega) (.slice (some ⟨gg, 0, none⟩) n cap) n (U.map pQ) rfl (HMO5.out.row.alloc _) ⟨w5.heap.size, 0, none⟩ 1 1 [.pointer (some ⟨g7, 0, none⟩)] rfl ?hlen (World.news_of_block (cs := #[.pointer (some ⟨g7, 0, none⟩)]) (t := 84) (fr := (0, 0)) (heap_alloc_new w5 _)) ?one ?h63 ?hby ?hbase ?next)
  case hlen => rfl
  case one => exact (by simp [Value.oneCell'])
  case h63 => unfold maxLen; omega
  case hby => omega
  case hbase => have := HLt.out; have := HB5.out.size; simp; omega
  case next =>
    intro v' w' hown hgr _ hat
    have hqn := HG7.out
    have hs5 := HS5.out
    have hlt := HLt.out
    have hlo := HMO.out.lo
    have hgx : gx < w3.heap.size := lt_of_block HMO.out.obj
    rcases hown.2 with ⟨_, h0⟩ | ⟨g9, cap9, cur9, hv9, hb9, hg9, rest9⟩
    · omega
    have hne : g9 ≠ gx := by
      rcases hat with h1 | h1
      · rw [hv9] at h1
        simp [Value.ownBlock] at h1
        have := HMO.out.ne
        omega
      · rw [hv9] at h1
        simp [Value.ownBlock] at h1
        omega
    subst hv9
    have hk : ∀ k, k < w5.heap.size → gg ≠ k → w'.heap[k]? = w5.heap[k]? := fun k hk hne => (hgr.block k (by simp; omega) (by intro e; injection e with e; exact hne e.symm)).trans (heap_alloc_old w5 _ hk)
    have ho8 : w'.heap[gx]? = some (modObj F (some ⟨gg, 0, none⟩) n cap room) := (hk gx (by omega) (by have := HMO.out.ne; omega)).trans HMO5.out.obj
    have x256 := mod_row ho8 HMO5.out.ok.1
    have f256 := mod_frozen ho8 256
    have hlow := HMO.out.low
    have HFIN : Hid (Mod (put w' gx (modObj F (some ⟨g9, 0, none⟩) (n + 1) cap9 room)) V gx F (A ++ [some F]) room ∧ Below w.heap.size w (put w' gx (modObj F (some ⟨g9, 0, none⟩) (n + 1) cap9 room))) := by
      refine Lib.hid ⟨mod_of (B := w1.heap.size) (U := U ++ [some (g7, F)]) (put_same ho8) HOK.out.1 ?_ (by simp [HMO.out.len]) (by rw [List.map_append, HMO.out.lst]; rfl) ?_ ?_ (fun k hk => Nat.lt_of_lt_of_le (HV.out k hk) HB1.out.size), ?_⟩
      · refine ⟨by simp [HMO.out.len], .inr ⟨g9, cap9, cur9, rfl, hb9, (put_other hne).trans hg9, ?_⟩⟩
        rw [List.map_append]
        exact rest9
      · intro g G hg
        rcases List.mem_append.1 hg with hg | hg
        · obtain ⟨k1, k2, k3⟩ := HMO5.out.ims g G hg
          have h1 := hlow g G hg
          exact ⟨(put_other (by omega)).trans ((hk g (by omega) (by omega)).trans k1), k2, k3⟩
        · simp only [List.mem_singleton, Option.some.injEq, Prod.mk.injEq] at hg
          obtain ⟨rfl, rfl⟩ := hg
          refine ⟨(put_other (by omega)).trans ((hk g (by omega) (by omega)).trans HA5.out), HOK.out.1, fun hm => ?_⟩
          have := HV.out _ hm
          have := HB2.out.size
          omega
      · intro hm
        have := HV.out _ hm
        have := HB1.out.size
        omega
      · have hb : Below w1.heap.size w5 w' := ((Below.refl _ _).alloc (by have := HB5.out.size; omega) _).grown hgr (by have := HB5.out.size; simp; omega) (fun k hk => by simp [Value.ownBlock] at hk; omega)
        exact ((HB2.out.trans (HB5.out.mono HB2.out.size)).trans (hb.mono HB1.out.size)).trans (put_below _ HGx.out)
    have HO8 := Lib.hid ho8
    clear hown hgr hat hqn hs5 hlt hlo hgx hb9 hg9 rest9 hne hk ho8 hlow
    go_upto_region 19 with fail
    rw [mod_setRow HO8.out HOK.out.1.1]
    obtain ⟨w6, hw6⟩ : ∃ w6, w6 = put w' gx (modObj F (some ⟨g9, 0, none⟩) (n + 1) cap9 room) := ⟨_, rfl⟩
    rw [← hw6] at HFIN ⊢
    have HMx : Hid (Mod w6 V gx F (A ++ [some F]) room) := Lib.hid HFIN.out.1
    have HBW : Hid (Below w.heap.size w w6) := Lib.hid HFIN.out.2
    obtain ⟨l, hl⟩ : ∃ l, l = (sEnc (F) (A ++ [some F]).length (snapsF 1 (A ++ [some F]))).length := ⟨_, rfl⟩
    have HL := Lib.hid hl
    have HBy : Hid (∀ W, Below w6.heap.size w6 W → _) := Lib.hid fun W (hW : Below w6.heap.size w6 W) => mbytes_sl W V gx (F) (A ++ [some F]) room l (HMx.out.later hW) (by first | omega | (simp; omega)) hl
    have HRm : Hid (∀ W, Below w6.heap.size w6 W → W.cell? ⟨gm, 257, none⟩ = some (.int .i64 (room : Int))) := by
      refine Lib.hid fun W hW => ?_
      obtain ⟨a, n', c, U', h1, h2, _⟩ := HM.out
      exact mod_room ((((HBW.out.trans (hW.mono HBW.out.size)).block gm (lt_of_block h1))).trans h1) h2.1
    clear hl hw6 s4 x256 f256
    have r1 := HRm.out w6.drew (Below.refl _ _).drew
    go_region_held3 (fun W => W.cell? ⟨gm, 257, none⟩ = some (.int .i64 (room : Int)))
      (first | exact HRm.out _ (Below.refl _ _).drew | exact HRm.out _ ((Below.refl _ _).drew.trans hb3) | go_keep)
      (first | (go_at_call 30; refine (HBy.out _ (Below.refl _ _).drew).mono ?_; rintro e w3 ⟨a3, c3, rfl, hb3⟩))
    have HB3 : Hid (Below w6.heap.size w6 w3) := Lib.hid ((Below.refl _ _).drew.trans hb3)
    clear hb3 r1
    by_cases hr : room < l
    · have hr' : (room : Int) < (l : Int) := by omega
      have HR : Hid (room? room (F) (A ++ [some F]) = false) := Lib.hid (by unfold room?; rw [← HL.out]; simp; omega)
      clear hr
      go_wp2
      go_ret2
      exact ⟨HBW.out.trans (HB3.out.mono HBW.out.size), .inr (.inl ⟨rfl, HR.out, rfl⟩)⟩
    · have hr' : (l : Int) ≤ (room : Int) := by omega
      have HR : Hid (room? room (F) (A ++ [some F]) = true) := Lib.hid (by unfold room?; rw [← HL.out]; simp; omega)
      clear hr
      go_wp2
      go_ret2
      exact ⟨HBW.out.trans (HB3.out.mono HBW.out.size), .inr (.inr ⟨rfl, HR.out, gx, rfl, HGx.out, HMx.out.later HB3.out⟩)⟩

end Go.Proofs.YtaijjogjohbheaaGreat

/- What an act of kind 2 makes of the document's store. -/
namespace Go.Proofs.YtaijjogjohbheaaGreat
open Go.RowKit
set_option maxRecDepth 100000
set_option linter.unusedSimpArgs false

theorem elem_set {w : World} {base g n cap j : Nat} {U : List Mu} (h : w.ownsRow base 84 1 (.slice (some ⟨g, 0, none⟩) n cap) n (U.map pQ)) (hj : j < n) :
    (w.setCell ⟨g, j, none⟩ (.pointer none)).ownsRow base 84 1 (.slice (some ⟨g, 0, none⟩) n cap) n ((U.set j none).map pQ) ∧ w.cell? ⟨g, j, none⟩ = some (pQ (U.getD j none)) ∧ w.frozen? ⟨g, j, none⟩ = false := by
  have hl : (U.map pQ).length = n * 1 := h.1
  rw [List.length_map] at hl
  have e0 := h.cells (g := g) rfl j (pQ (U.getD j none)) (by simp [List.getD, show j < U.length by omega])
  rw [add_plain] at e0
  rcases h.2 with ⟨hv, _⟩ | ⟨g', cap', cur, hv, hb, hg, hnc, hcm, hcs, ht⟩
  · cases hv
  injection hv with e1 e2 e3
  injection e1 with e1
  injection e1 with e1
  subst e1
  subst e3
  refine ⟨⟨by simp; omega, .inr ⟨_, cap, cur.setIfInBounds j (.pointer none), rfl, hb, ?_, hnc, hcm, by simpa using hcs, ?_⟩⟩, by simpa using e0, by simp [World.frozen?, hg]⟩
  · rw [heap_setCell_same w _ j _ _ _ hg]
  · rw [Array.toList_setIfInBounds, List.map_set, ← ht]
    rw [List.take_set]
    rfl

theorem MoO.later {w w2 w3 : World} {V : List Nat} {gx : Nat} {F : List (List Nat)} {A : List (Option (List (List Nat)))} {room gg n cap : Nat} {U : List Mu} (h : MoO w w2 V gx F A room gg n cap U) (hb : Below w2.heap.size w2 w3) : MoO w w3 V gx F A room gg n cap U := by
  obtain ⟨h1, h2, h3, h4, h5, h6, h7, h8, h9⟩ := h
  refine ⟨(hb.block gx (lt_of_block h1)).trans h1, h2, ⟨h3.1, ?_⟩, h4, h5, fun g G hg => ?_, h7, h8, h9⟩
  · rcases h3.2 with h | ⟨g', cap', cur, hv, hbs, hg, rest⟩
    · exact .inl h
    · exact .inr ⟨g', cap', cur, hv, hbs, (hb.block g' (lt_of_block hg)).trans hg, rest⟩
  · obtain ⟨k1, k2, k3⟩ := h6 g G hg
    exact ⟨(hb.block g (lt_of_block k1)).trans k1, k2, k3⟩

theorem MoO.cut {w w2 : World} {V : List Nat} {gx : Nat} {F : List (List Nat)} {A : List (Option (List (List Nat)))} {room gg n cap j : Nat} {U : List Mu} (h : MoO w w2 V gx F A room gg n cap U) (hj : 1 ≤ j) (hjn : j < n) :
    MoO w (w2.setCell ⟨gg, j, none⟩ (.pointer none)) V gx F (A.set (j - 1) none) room gg n cap (U.set j none) := by
  obtain ⟨h1, h2, h3, h4, h5, h6, h7, h8, h9⟩ := h
  have hlt := World.ownsRow.lt h3 gg rfl
  have hsub : ∀ g G, some (g, G) ∈ U.set j none → some (g, G) ∈ U := fun g G hg => by
    rcases List.mem_or_eq_of_mem_set hg with hg | hg
    · exact hg
    · cases hg
  refine ⟨(Below.heap_setCell _ _ _ gx (by simp; omega)).trans h1, h2, (elem_set h3 hjn).1, by simpa using h4, ?_, fun g G hg => ?_, h7, h8, fun g G hg => h9 g G (hsub g G hg)⟩
  · rw [List.map_set, h5]
    obtain ⟨i, rfl⟩ : ∃ i, j = i + 1 := ⟨j - 1, by omega⟩
    simp
  · obtain ⟨k1, k2, k3⟩ := h6 g G (hsub g G hg)
    exact ⟨(Below.heap_setCell _ _ _ g (by have := h9 g G (hsub g G hg); simp; omega)).trans k1, k2, k3⟩

set_option maxHeartbeats 2000000 in
theorem then2_none (w : World) (V : List Nat) (gm : Nat) (F : List (List Nat)) (A : List (Option (List (List Nat)))) (room : Nat) (h : Mod w V gm F A room) (hA : A.length ≤ 90) (hV : ∀ k ∈ V, k < w.heap.size)
    (K : Nat) (I N : Int) (ab : Option Addr) (nb cb : Nat) (fl : Bool) (P Z : Int) (hK : K % 4 = 2) (hN : lkM F A N = none) :
    Calls Tryz.prog 10 #[.pointer (some ⟨gm, 0, none⟩), actV K I N ab nb cb fl P Z] w (ThP w V room 6 F A) := by
  have hk1 : (K : Int) % 4 = 2 := by omega
  have hk2 : (K : Int).tmod 4 = 2 := by rw [Int.tmod_eq_emod_of_nonneg (by omega)]; omega
  have HM := Lib.hid h
  have HV := Lib.hid hV
  clear h hV hK
  unfold actV
  go_enter Tryz.func10, Tryz.ntmps10
  go_upto_region 1 with fail
  obtain ⟨w1, hw1⟩ : ∃ w1, w1 = w.alloc (actObj K I N ab nb cb fl P Z) := ⟨_, rfl⟩
  obtain ⟨q, hq⟩ : ∃ q, q = w.heap.size := ⟨_, rfl⟩
  change Code.wp _ _ _ _ (w.alloc (actObj K I N ab nb cb fl P Z))
  rw [← hw1, ← hq]
  have HB1 : Hid (Below w.heap.size w w1) := Lib.hid (by rw [hw1]; exact Below.alloc0 _ _)
  have HO1 : Hid (w1.heap[q]? = some (actObj K I N ab nb cb fl P Z)) := Lib.hid (by rw [hw1, hq]; exact heap_alloc_new _ _)
  have HCo := Lib.hid (copied_any w1 V gm F A room (HM.out.later HB1.out) (by omega))
  clear hw1 hq
  go_wp2_with fail
  refine HCo.out.mono ?_
  rintro e w2 ⟨gx, gg, n, cap, U, rfl, hmo, hb2⟩
  have HB2 := Lib.hid (HB1.out.trans (hb2.mono HB1.out.size))
  have hob2 : w2.heap[q]? = some (actObj K I N ab nb cb fl P Z) := (hb2.block q (lt_of_block HO1.out)).trans HO1.out
  have c0 : w2.cell? ⟨q, 0, none⟩ = some (.int .u8 (K : Int)) := by simp [World.cell?, hob2, actObj]
  have HMO := Lib.hid hmo
  have c2 : w2.cell? ⟨q, 2, none⟩ = some (.int .i64 N) := by simp [World.cell?, hob2, actObj]
  have HX2 := Lib.hid hob2
  have HGx : Hid (w.heap.size ≤ gx) := Lib.hid (Nat.le_trans HB1.out.size hmo.lo)
  have HIm := Lib.hid (mimage_any w2 V gm F A room N (HM.out.later HB2.out) (by omega))
  have HOK := Lib.hid HM.out.ok
  have c2f : ∀ W, Below w2.heap.size w2 W → W.cell? ⟨q, 2, none⟩ = some (.int .i64 N) := fun W hW => (hW.cell (p := ⟨q, 2, none⟩) (lt_of_block hob2)).trans c2
  have HC2 := Lib.hid c2f
  clear hmo hb2 hob2 HCo c2f
  rw [hN] at HIm
  unfold imgAns imgV at HIm
  simp only [Option.getD_none, Option.isSome_none] at HIm
  obtain ⟨Y, hY⟩ : ∃ Y : List (List Nat), Y = List.replicate 256 [] := ⟨_, rfl⟩
  have HYl : Hid (Y.length = 256) := Lib.hid (by rw [hY]; exact List.length_replicate)
  rw [← hY] at HIm
  clear hY
  go_wp2_with fail
  refine HIm.out.mono ?_
  rintro e w3 ⟨rfl, hb3⟩
  have HB3 := Lib.hid hb3
  clear hb3
  go_wp2_with (refine wpList_store_img rfl (.tmp 8) (.tmp 78) rfl w3.heap.size (List.replicate 256 []) Y rfl rfl (heap_alloc_last _ _) List.length_replicate HYl.out ?_; intro w5 H5)
  go_ret2
  refine ⟨HB2.out.trans ((HB3.out.mono HB2.out.size).trans ?_), .inl ⟨by omega, rfl⟩⟩
  rw [H5.out]
  exact ((Below.alloc0 _ _).trans (put_below _ (Nat.le_refl _))).mono (by have := HB2.out.size; have := HB3.out.size; omega)

set_option maxHeartbeats 2000000 in
theorem then2_zero (w : World) (V : List Nat) (gm : Nat) (F : List (List Nat)) (A : List (Option (List (List Nat)))) (room : Nat) (h : Mod w V gm F A room) (hA : A.length ≤ 90) (hV : ∀ k ∈ V, k < w.heap.size)
    (K : Nat) (I N : Int) (ab : Option Addr) (nb cb : Nat) (fl : Bool) (P Z : Int) (hK : K % 4 = 2) (hN : N = 0) :
    Calls Tryz.prog 10 #[.pointer (some ⟨gm, 0, none⟩), actV K I N ab nb cb fl P Z] w (ThP w V room 6 F A) := by
  have hk1 : (K : Int) % 4 = 2 := by omega
  have hk2 : (K : Int).tmod 4 = 2 := by rw [Int.tmod_eq_emod_of_nonneg (by omega)]; omega
  have HM := Lib.hid h
  have HV := Lib.hid hV
  have HNh := Lib.hid hN
  clear h hV hK hN
  unfold actV
  go_enter Tryz.func10, Tryz.ntmps10
  go_upto_region 1 with fail
  obtain ⟨w1, hw1⟩ : ∃ w1, w1 = w.alloc (actObj K I N ab nb cb fl P Z) := ⟨_, rfl⟩
  obtain ⟨q, hq⟩ : ∃ q, q = w.heap.size := ⟨_, rfl⟩
  change Code.wp _ _ _ _ (w.alloc (actObj K I N ab nb cb fl P Z))
  rw [← hw1, ← hq]
  have HB1 : Hid (Below w.heap.size w w1) := Lib.hid (by rw [hw1]; exact Below.alloc0 _ _)
  have HO1 : Hid (w1.heap[q]? = some (actObj K I N ab nb cb fl P Z)) := Lib.hid (by rw [hw1, hq]; exact heap_alloc_new _ _)
  have HCo := Lib.hid (copied_any w1 V gm F A room (HM.out.later HB1.out) (by omega))
  clear hw1 hq
  go_wp2_with fail
  refine HCo.out.mono ?_
  rintro e w2 ⟨gx, gg, n, cap, U, rfl, hmo, hb2⟩
  have HB2 := Lib.hid (HB1.out.trans (hb2.mono HB1.out.size))
  have hob2 : w2.heap[q]? = some (actObj K I N ab nb cb fl P Z) := (hb2.block q (lt_of_block HO1.out)).trans HO1.out
  have c0 : w2.cell? ⟨q, 0, none⟩ = some (.int .u8 (K : Int)) := by simp [World.cell?, hob2, actObj]
  have HMO := Lib.hid hmo
  have c2 : w2.cell? ⟨q, 2, none⟩ = some (.int .i64 N) := by simp [World.cell?, hob2, actObj]
  have HX2 := Lib.hid hob2
  have HGx : Hid (w.heap.size ≤ gx) := Lib.hid (Nat.le_trans HB1.out.size hmo.lo)
  have HIm := Lib.hid (mimage_any w2 V gm F A room N (HM.out.later HB2.out) (by omega))
  have HOK := Lib.hid HM.out.ok
  have c2f : ∀ W, Below w2.heap.size w2 W → W.cell? ⟨q, 2, none⟩ = some (.int .i64 N) := fun W hW => (hW.cell (p := ⟨q, 2, none⟩) (lt_of_block hob2)).trans c2
  have HC2 := Lib.hid c2f
  clear hmo hb2 hob2 HCo c2f
  have e : lkM F A N = some F := by rw [HNh.out]; simp [lkM]
  have hz : (N == 0) = true := by rw [HNh.out]; rfl
  rw [e] at HIm
  unfold imgAns imgV at HIm
  simp only [Option.getD_some, Option.isSome_some] at HIm
  go_wp2_with fail
  refine HIm.out.mono ?_
  rintro e w3 ⟨rfl, hb3⟩
  have HB3 := Lib.hid hb3
  clear hb3 e
  go_wp2_with (refine wpList_store_img rfl (.tmp 8) (.tmp 78) rfl w3.heap.size (List.replicate 256 []) F rfl rfl (heap_alloc_last _ _) List.length_replicate HOK.out.1.1 ?_; intro w5 H5; have HB5 : Hid (Below w2.heap.size w2 w5) := (by rw [H5.out]; exact Lib.hid (HB3.out.trans (((Below.alloc0 _ _).trans (put_below _ (Nat.le_refl _))).mono HB3.out.size))); have x2 := HC2.out w5 HB5.out)
  go_ret2
  exact ⟨HB2.out.trans (HB5.out.mono HB2.out.size), .inl ⟨by omega, rfl⟩⟩

set_option maxHeartbeats 2000000 in
theorem then2_yes (w : World) (V : List Nat) (gm : Nat) (F : List (List Nat)) (A : List (Option (List (List Nat)))) (room : Nat) (h : Mod w V gm F A room) (hA : A.length ≤ 90) (hV : ∀ k ∈ V, k < w.heap.size)
    (K : Nat) (I N : Int) (ab : Option Addr) (nb cb : Nat) (fl : Bool) (P Z : Int) (hK : K % 4 = 2) (j : Nat) (G : List (List Nat)) (hj : N = (j : Int)) (hj1 : 1 ≤ j) (hN : A.getD (j - 1) none = some G) :
    Calls Tryz.prog 10 #[.pointer (some ⟨gm, 0, none⟩), actV K I N ab nb cb fl P Z] w (ThP w V room 0 F (A.set (j - 1) none)) := by
  have hk1 : (K : Int) % 4 = 2 := by omega
  have hk2 : (K : Int).tmod 4 = 2 := by rw [Int.tmod_eq_emod_of_nonneg (by omega)]; omega
  have HM := Lib.hid h
  have HV := Lib.hid hV
  have HNh := Lib.hid hj
  clear h hV hK hj
  unfold actV
  go_enter Tryz.func10, Tryz.ntmps10
  go_upto_region 1 with fail
  obtain ⟨w1, hw1⟩ : ∃ w1, w1 = w.alloc (actObj K I N ab nb cb fl P Z) := ⟨_, rfl⟩
  obtain ⟨q, hq⟩ : ∃ q, q = w.heap.size := ⟨_, rfl⟩
  change Code.wp _ _ _ _ (w.alloc (actObj K I N ab nb cb fl P Z))
  rw [← hw1, ← hq]
  have HB1 : Hid (Below w.heap.size w w1) := Lib.hid (by rw [hw1]; exact Below.alloc0 _ _)
  have HO1 : Hid (w1.heap[q]? = some (actObj K I N ab nb cb fl P Z)) := Lib.hid (by rw [hw1, hq]; exact heap_alloc_new _ _)
  have HCo := Lib.hid (copied_any w1 V gm F A room (HM.out.later HB1.out) (by omega))
  clear hw1 hq
  go_wp2_with fail
  refine HCo.out.mono ?_
  rintro e w2 ⟨gx, gg, n, cap, U, rfl, hmo, hb2⟩
  have HB2 := Lib.hid (HB1.out.trans (hb2.mono HB1.out.size))
  have hob2 : w2.heap[q]? = some (actObj K I N ab nb cb fl P Z) := (hb2.block q (lt_of_block HO1.out)).trans HO1.out
  have c0 : w2.cell? ⟨q, 0, none⟩ = some (.int .u8 (K : Int)) := by simp [World.cell?, hob2, actObj]
  have HMO := Lib.hid hmo
  have c2 : w2.cell? ⟨q, 2, none⟩ = some (.int .i64 N) := by simp [World.cell?, hob2, actObj]
  have HX2 := Lib.hid hob2
  have HGx : Hid (w.heap.size ≤ gx) := Lib.hid (Nat.le_trans HB1.out.size hmo.lo)
  have HIm := Lib.hid (mimage_any w2 V gm F A room N (HM.out.later HB2.out) (by omega))
  have HOK := Lib.hid HM.out.ok
  have c2f : ∀ W, Below w2.heap.size w2 W → W.cell? ⟨q, 2, none⟩ = some (.int .i64 N) := fun W hW => (hW.cell (p := ⟨q, 2, none⟩) (lt_of_block hob2)).trans c2
  have HC2 := Lib.hid c2f
  clear hmo hb2 hob2 HCo c2f
  have e : lkM F A N = some G := by
    rw [HNh.out]
    unfold lkM
    rw [if_neg (by omega), if_neg (by omega), Int.toNat_natCast]
    obtain ⟨i, rfl⟩ : ∃ i, j = i + 1 := ⟨j - 1, by omega⟩
    exact hN
  have HGl : Hid (G.length = 256) := by
    refine Lib.hid (HOK.out.2 G ?_).1
    have hlt : j - 1 < A.length := by
      rcases Nat.lt_or_ge (j - 1) A.length with h | h
      · exact h
      · rw [List.getD, List.getElem?_eq_none h] at hN; cases hN
    have : A.getD (j - 1) none = A[j - 1] := by simp [List.getD, hlt]
    rw [this] at hN
    rw [← hN]
    exact List.getElem_mem hlt
  have hjn : j < n := by
    have h1 := congrArg List.length HMO.out.lst
    rw [List.length_map, HMO.out.len, List.length_cons] at h1
    rcases Nat.lt_or_ge (j - 1) A.length with h | h
    · omega
    · rw [List.getD, List.getElem?_eq_none h] at hN; cases hN
  rw [e] at HIm
  unfold imgAns imgV at HIm
  simp only [Option.getD_some, Option.isSome_some] at HIm
  have hj0 : (N == 0) = false := by rw [HNh.out]; simp; omega
  clear hN e
  go_wp2_with fail
  refine HIm.out.mono ?_
  rintro e w3 ⟨rfl, hb3⟩
  have HB3 := Lib.hid hb3
  clear hb3
  go_upto_region 18 with (refine wpList_store_img rfl (.tmp 8) (.tmp 78) rfl w3.heap.size (List.replicate 256 []) G rfl rfl (heap_alloc_last _ _) List.length_replicate HGl.out ?_; intro w5 H5; have HB5 : Hid (Below w2.heap.size w2 w5) := (by rw [H5.out]; exact Lib.hid (HB3.out.trans (((Below.alloc0 _ _).trans (put_below _ (Nat.le_refl _))).mono HB3.out.size))); have x2 := HC2.out w5 HB5.out)
  have hNj := HNh.out
  subst hNj
  have hmo5 : MoO w1 w5.drew V gx F A room gg n cap U := HMO.out.later (HB5.out.drew)
  obtain ⟨s1, s2, s3⟩ := elem_set hmo5.row hjn
  have s4 := mod_row hmo5.obj hmo5.ok.1
  have y2 : w5.drew.cell? ⟨q, 2, none⟩ = some (.int .i64 (j : Int)) := x2
  have hcut := hmo5.cut hj1 hjn
  have HMC := Lib.hid hcut
  have HGG : Hid (w1.heap.size ≤ gg) := Lib.hid (World.ownsRow.lt hmo5.row gg rfl).1
  clear hmo5 s1 hcut
  go_region
  obtain ⟨w6, hw6⟩ : ∃ w6, w6 = (w5.setCell ⟨gg, j, none⟩ (.pointer none)).drew := ⟨_, rfl⟩
  rw [← hw6]
  replace hw6 : w6 = w5.drew.setCell ⟨gg, j, none⟩ (.pointer none) := hw6
  have HMx : Hid (Mod w6 V gx F (A.set (j - 1) none) room) := Lib.hid (by rw [hw6]; exact HMC.out.mod fun k hk => Nat.lt_of_lt_of_le (HV.out k hk) HB1.out.size)
  have HBW : Hid (Below w.heap.size w w6) := by
    have h1 : Below w.heap.size w w5.drew := (HB2.out.trans (HB5.out.mono HB2.out.size)).drew
    refine Lib.hid ?_
    rw [hw6]
    have h2 := HGG.out
    have h3 := HB1.out.size
    exact ⟨h1.os, h1.tape, h1.output, by have := h1.size; simpa [World.setCell] using this, fun k hk => (Below.heap_setCell _ _ _ k (by simp; omega)).trans (h1.block k hk)⟩
  obtain ⟨l, hl⟩ : ∃ l, l = (sEnc (F) (A.set (j - 1) none).length (snapsF 1 (A.set (j - 1) none))).length := ⟨_, rfl⟩
  have HL := Lib.hid hl
  have HBy : Hid (∀ W, Below w6.heap.size w6 W → _) := Lib.hid fun W (hW : Below w6.heap.size w6 W) => mbytes_sl W V gx (F) (A.set (j - 1) none) room l (HMx.out.later hW) (by first | omega | (simp; omega)) hl
  have HRm : Hid (∀ W, Below w6.heap.size w6 W → W.cell? ⟨gm, 257, none⟩ = some (.int .i64 (room : Int))) := by
    refine Lib.hid fun W hW => ?_
    obtain ⟨a, n', c, U', h1, h2, _⟩ := HM.out
    exact mod_room ((((HBW.out.trans (hW.mono HBW.out.size)).block gm (lt_of_block h1))).trans h1) h2.1
  clear hl hw6 s2 s3 s4 y2 x2
  go_upto_region 19 with fail
  have r1 := HRm.out w6.drew (Below.refl _ _).drew
  go_region_held3 (fun W => W.cell? ⟨gm, 257, none⟩ = some (.int .i64 (room : Int)))
    (first | exact HRm.out _ (Below.refl _ _).drew | exact HRm.out _ ((Below.refl _ _).drew.trans hb3) | go_keep)
    (first | (go_at_call 30; refine (HBy.out _ (Below.refl _ _).drew).mono ?_; rintro e w3 ⟨a3, c3, rfl, hb3⟩))
  have HB3 : Hid (Below w6.heap.size w6 w3) := Lib.hid ((Below.refl _ _).drew.trans hb3)
  clear hb3 r1
  by_cases hr : room < l
  · have hr' : (room : Int) < (l : Int) := by omega
    have HR : Hid (room? room (F) (A.set (j - 1) none) = false) := Lib.hid (by unfold room?; rw [← HL.out]; simp; omega)
    clear hr
    go_wp2
    go_ret2
    exact ⟨HBW.out.trans (HB3.out.mono HBW.out.size), .inr (.inl ⟨rfl, HR.out, rfl⟩)⟩
  · have hr' : (l : Int) ≤ (room : Int) := by omega
    have HR : Hid (room? room (F) (A.set (j - 1) none) = true) := Lib.hid (by unfold room?; rw [← HL.out]; simp; omega)
    clear hr
    go_wp2
    go_ret2
    exact ⟨HBW.out.trans (HB3.out.mono HBW.out.size), .inr (.inr ⟨rfl, HR.out, gx, rfl, HGx.out, HMx.out.later HB3.out⟩)⟩

end Go.Proofs.YtaijjogjohbheaaGreat

/- What an act makes of the document's store, whatever its kind. -/
namespace Go.Proofs.YtaijjogjohbheaaGreat
open Go.RowKit
set_option maxRecDepth 100000
set_option linter.unusedSimpArgs false

/-- The error ahead of the room, and the store as it would be. -/
def thR (k : Nat) (I N : Int) (x : List Nat) (F : List (List Nat)) (A : List (Option (List (List Nat)))) : Nat × List (List Nat) × List (Option (List (List Nat))) :=
  if k = 0 then (if I < 0 ∨ 255 < I ∨ 32 < x.length then (1, F, A) else (0, F.set I.toNat (newB x), A))
  else if k = 1 then (if 32 ≤ (snapsF 1 A).length then (7, F, A) else (0, F, A ++ [some F]))
  else if k = 2 then (if N = 0 ∨ lkM F A N = none then (6, F, A) else (0, F, A.set (N.toNat - 1) none))
  else (0, F, A)

theorem then_any (w : World) (V : List Nat) (gm : Nat) (F : List (List Nat)) (A : List (Option (List (List Nat)))) (room : Nat) (h : Mod w V gm F A room) (hA : A.length ≤ 90) (hV : ∀ k ∈ V, k < w.heap.size)
    (K : Nat) (I N : Int) (ab : Option Addr) (nb cb : Nat) (fl : Bool) (P Z : Int) (x : List Nat) (hr : Rd w ab nb x) :
    Calls Tryz.prog 10 #[.pointer (some ⟨gm, 0, none⟩), actV K I N ab nb cb fl P Z] w (ThP w V room (thR (K % 4) I N x F A).1 (thR (K % 4) I N x F A).2.1 (thR (K % 4) I N x F A).2.2) := by
  have hxl := hr.1
  have h4 : K % 4 = 0 ∨ K % 4 = 1 ∨ K % 4 = 2 ∨ K % 4 = 3 := by omega
  rcases h4 with hk | hk | hk | hk
  · rw [hk]
    by_cases hc : I < 0 ∨ 255 < I ∨ 32 < nb
    · rw [show thR 0 I N x F A = (1, F, A) by unfold thR; rw [if_pos rfl, if_pos (by rw [hxl]; exact hc)]]
      exact then0_no w V gm F A room h hA hV K I N ab nb cb fl P Z hk hc
    · rw [show thR 0 I N x F A = (0, F.set I.toNat (newB x), A) by unfold thR; rw [if_pos rfl, if_neg (by rw [hxl]; exact hc)]]
      exact then0_yes w V gm F A room h hA hV K I N ab nb cb fl P Z hk I.toNat (by omega) (by omega) (by omega) x hr
  · rw [hk]
    by_cases hc : 32 ≤ (snapsF 1 A).length
    · rw [show thR 1 I N x F A = (7, F, A) by unfold thR; rw [if_neg (by omega), if_pos rfl, if_pos hc]]
      exact then1_no w V gm F A room h hA hV K I N ab nb cb fl P Z hk hc
    · rw [show thR 1 I N x F A = (0, F, A ++ [some F]) by unfold thR; rw [if_neg (by omega), if_pos rfl, if_neg hc]]
      exact then1_yes w V gm F A room h hA hV K I N ab nb cb fl P Z hk (by omega)
  · rw [hk]
    by_cases hc : N = 0
    · rw [show thR 2 I N x F A = (6, F, A) by unfold thR; rw [if_neg (by omega), if_neg (by omega), if_pos rfl, if_pos (.inl hc)]]
      exact then2_zero w V gm F A room h hA hV K I N ab nb cb fl P Z hk hc
    · cases hN : lkM F A N with
      | none =>
        rw [show thR 2 I N x F A = (6, F, A) by unfold thR; rw [if_neg (by omega), if_neg (by omega), if_pos rfl, if_pos (.inr hN)]]
        exact then2_none w V gm F A room h hA hV K I N ab nb cb fl P Z hk hN
      | some G =>
        rw [show thR 2 I N x F A = (0, F, A.set (N.toNat - 1) none) by unfold thR; rw [if_neg (by omega), if_neg (by omega), if_pos rfl, if_neg (by rw [hN]; simp [hc])]]
        have h1 : 1 ≤ N := by
          rcases Int.lt_or_le N 1 with h | h
          · unfold lkM at hN; rw [if_neg hc, if_pos h] at hN; cases hN
          · exact h
        refine then2_yes w V gm F A room h hA hV K I N ab nb cb fl P Z hk N.toNat G (by omega) (by omega) ?_
        unfold lkM at hN
        rw [if_neg hc, if_neg (by omega)] at hN
        obtain ⟨i, hi⟩ : ∃ i, N.toNat = i + 1 := ⟨N.toNat - 1, by omega⟩
        rw [hi] at hN ⊢
        exact hN
  · rw [hk]
    rw [show thR 3 I N x F A = (0, F, A) by unfold thR; rw [if_neg (by omega), if_neg (by omega), if_neg (by omega)]]
    exact then3_any w V gm F A room h hA hV K I N ab nb cb fl P Z hk

end Go.Proofs.YtaijjogjohbheaaGreat

/- The contract of the statement's own runs. -/
namespace Go.Proofs.YtaijjogjohbheaaGreat
open Go.RowKit
set_option maxRecDepth 100000
set_option linter.unusedSimpArgs false

set_option maxHeartbeats 1000000 in
set_option maxRecDepth 100000 in
theorem snapRuns_any (a : Option Addr) (n c : Nat) (L : List Rn) (w : World) (h : RdR w a n L) (hn : n ≤ 1000) :
    Calls Tryz.prog 37 #[.slice a n c] w fun e w' => ∃ v, e = .returned v ∧ OwnR w' w.heap.size 127 v L ∧ Below w.heap.size w w' := by
  obtain ⟨i0, hi0, hz0, hz1, hz2⟩ := info_parts info_ref0
  have HR := Lib.hid h
  clear h
  go_enter Tryz.func37, Tryz.ntmps37
  go_wp2
  go_loopg [3, 8] n (fun k s i wr => ∃ (j : Nat) (sv : Value), sv = s ∧ k = n - j ∧ j ≤ n ∧ i = .int .i64 (j : Int) ∧ Hid (OwnR wr w.heap.size 127 sv (L.take j)) ∧ Hid (Below w.heap.size w wr))
  case atStart => exact ⟨0, _, rfl, rfl, Nat.zero_le _, rfl, Lib.hid (by simpa using OwnR.nil _ _ _), Lib.hid (Below.refl _ _)⟩
  case round =>
    obtain ⟨j, sv, rfl, hk, hj, rfl, HO, HB⟩ := hrel
    have HK := Lib.hid hk
    clear hk
    by_cases hlt : j < n
    · obtain ⟨b, o, r, rfl, hre, hbl, e0, e1⟩ := HR.out.at_ HB.out hlt
      have hjl : j < L.length := by have := HR.out.1; omega
      have hst := takeR_succ hjl hre
      obtain ⟨x, y⟩ := r
      simp only at e0 e1
      have HST : Hid (L.take (j + 1) = L.take j ++ [⟨x, y⟩]) := Lib.hid hst
      obtain ⟨A, hA⟩ : ∃ A, A = L.take j := ⟨_, rfl⟩
      rw [← hA] at HO HST
      have hAl : A.length ≤ 1000 := by rw [hA, List.length_take]; omega
      have hbr : w.heap.size ≤ wr.heap.size := HB.out.size
      clear hst hre hjl hA
      go_wp2_with (at_builtin; have _t := hlt; refine wpList_append_own_at _ rfl (.tmp 12) (.tmp 18) 91 rfl w.heap.size 127 i0 _ 2 16 Tryz.underlying91 hi0 hz0 hz1 hz2 rfl (by omega) sv A.length (cR A) rfl (HO.out.kept ((Below.alloc0 _ _).alloc (by simp) _)) ⟨wr.heap.size + 1, 0, none⟩ 1 1 (cR [⟨x, y⟩]) rfl ?hlen (World.news_of_block (cs := #[.int .i64 x, .int .i64 y]) (t := 127) (fr := (0, 0)) (heap_alloc2 wr _ _)) ?one ?h63 ?hby ?hbase ?next)
      case hlen => rfl
      case one => exact cR_one _
      case h63 => unfold maxLen; omega
      case hby => omega
      case hbase => simp; omega
      case next =>
        intro v' w' hown hg _ _
        have HO3 : Hid (OwnR w' w.heap.size 127 v' (A ++ [⟨x, y⟩])) := Lib.hid (OwnR.of_append rfl hown)
        have HB3 : Hid (Below w.heap.size w w') := Lib.hid (((HB.out.alloc hbr _).alloc (by simp; omega) _).grown hg (by simp; omega) (fun k hk => (World.ownsRow.lt HO.out k hk).1))
        clear hown hg
        go_wp2
        go_roundg (n - (j + 1))
        case measure => have := HK.out; omega
        case rel => exact ⟨j + 1, v', rfl, rfl, by omega, by go_num, Lib.hid (by rw [HST.out]; exact HO3.out), HB3⟩
    · obtain rfl : j = n := by omega
      have h1 := HO.out
      rw [List.take_of_length_le (by have := HR.out.1; omega)] at h1
      have HR2 := Lib.hid h1
      clear h1
      go_wp2
      go_ret
      exact ⟨_, rfl, HR2.out, HB.out⟩

end Go.Proofs.YtaijjogjohbheaaGreat

/- The contract of the document's Diff of images, over any world. -/
namespace Go.Proofs.YtaijjogjohbheaaGreat
open Go.RowKit
set_option maxRecDepth 100000
set_option linter.unusedSimpArgs false

theorem hasF_diff {F G : List (List Nat)} {k : Nat} (hk : k < 256) : hasF (diffF F G) k = (decide (F.getD k [] ≠ []) && !decide (F.getD k [] = G.getD k [])) := by
  have e : (diffF F G).getD k [] = if G.getD k [] = F.getD k [] then [] else F.getD k [] := by
    simp only [diffF, List.getD, List.getElem?_map, List.getElem?_range hk, Option.map_some, Option.getD_some]
  unfold hasF
  rw [e]
  by_cases h : G.getD k [] = F.getD k []
  · rw [if_pos h]; simp only [List.getD] at h ⊢; simp [h]
  · rw [if_neg h]
    have h2 : ¬ F.getD k [] = G.getD k [] := fun e => h e.symm
    simp only [List.getD] at h2 ⊢
    simp [h2]

theorem hasF_gone {F G : List (List Nat)} {k : Nat} (hk : k < 256) : hasF (goneF F G) k = (!decide (F.getD k [] ≠ []) && decide (G.getD k [] ≠ [])) := by
  have e : (goneF F G).getD k [] = if F.getD k [] = [] then G.getD k [] else [] := by
    simp only [goneF, List.getD, List.getElem?_map, List.getElem?_range hk, Option.map_some, Option.getD_some]
  unfold hasF
  rw [e]
  by_cases h : F.getD k [] = []
  · rw [if_pos h]; simp only [List.getD] at h ⊢; simp [h]
  · rw [if_neg h]; simp only [List.getD] at h ⊢; simp [h]

theorem Bl.other' {W : World} {g g' i : Nat} {n : Nat} {Q : Nat → Bool} {v : Value} (h : Bl W g n Q) (hne : g ≠ g') : Bl (W.setCell ⟨g', i, none⟩ v) g n Q := (Below.heap_setCell W _ v g hne).trans h

/-- What the loop of Diff keeps. -/
structure DiffI (w : World) (F G : List (List Nat)) (g3 k : Nat) (wr : World) : Prop where
  fst : wr.heap[g3]? = some (arrObj F)
  snd : wr.heap[g3 + 1]? = some (arrObj G)
  put : Bl wr (g3 + 2) 256 (upB (hasF (diffF F G)) k)
  gone : Bl wr (g3 + 3) 256 (upB (hasF (goneF F G)) k)
  size : wr.heap.size = g3 + 4
  low : Below g3 w wr

theorem DiffI.step {w wr : World} {F G : List (List Nat)} {g3 k : Nat} (h : DiffI w F G g3 k wr) {A B : Bool} (hA : A = hasF (diffF F G) k) (hB : B = hasF (goneF F G) k) :
    DiffI w F G g3 (k + 1) ((wr.setCell ⟨g3 + 2, k, none⟩ (.bool A)).setCell ⟨g3 + 3, k, none⟩ (.bool B)) := by
  have h1 : Below g3 w ((wr.setCell ⟨g3 + 2, k, none⟩ (.bool A)).setCell ⟨g3 + 3, k, none⟩ (.bool B)) := Below.trans (Below.trans h.low (below_set (show g3 ≤ g3 + 2 by omega) _ _)) (below_set (show g3 ≤ g3 + 3 by omega) _ _)
  refine ⟨?_, ?_, ?_, ?_, ?_, h1⟩
  · exact (Below.heap_setCell _ _ _ g3 (by simp)).trans ((Below.heap_setCell _ _ _ g3 (by simp)).trans h.fst)
  · exact (Below.heap_setCell _ _ _ (g3 + 1) (by simp)).trans ((Below.heap_setCell _ _ _ (g3 + 1) (by simp)).trans h.snd)
  · exact ((h.put.set k A).other' (by omega)).same (by rw [hA]; exact upB_succ _ _)
  · exact ((h.gone.other' (g' := g3 + 2) (by omega)).set k B).same (by rw [hB]; exact upB_succ _ _)
  · have := h.size
    simpa using this

theorem DiffI.drew {w wr : World} {F G : List (List Nat)} {g3 k : Nat} (h : DiffI w F G g3 k wr) : DiffI w F G g3 k wr.drew :=
  ⟨h.fst, h.snd, h.put, h.gone, h.size, h.low.drew⟩

set_option maxHeartbeats 4000000 in
set_option maxRecDepth 100000 in
theorem refDiff_any (w : World) (F G : List (List Nat)) (hF : okF F) (hG : okF G) :
    Calls Tryz.prog 35 #[.agg (cS F).toArray, .agg (cS G).toArray] w fun e w' => ∃ v u M N, e = .returned (.tuple #[v, u]) ∧ OwnR w' w.heap.size 127 v M ∧ SetF (diffF F G) M ∧ OwnR w' w.heap.size 127 u N ∧ SetF (goneF F G) N ∧ Below w.heap.size w w' := by
  have HOk := Lib.hid (And.intro hF hG)
  obtain ⟨g3, hg3⟩ : ∃ g3, g3 = w.heap.size := ⟨_, rfl⟩
  clear hF hG
  go_enter Tryz.func35, Tryz.ntmps35
  go_upto_region 1 with fail
  change Code.wp _ _ _ _ ((w.alloc (arrObj F)).alloc (arrObj G))
  obtain ⟨w2, h2⟩ : ∃ w2, w2 = (w.alloc (arrObj F)).alloc (arrObj G) := ⟨_, rfl⟩
  rw [← h2, ← hg3]
  have HB2 : Hid (Below g3 w w2) := Lib.hid (by rw [h2, hg3]; exact (Below.alloc0 _ _).alloc (by simp) _)
  have HS2 : Hid (w2.heap.size = g3 + 2) := Lib.hid (by rw [h2, hg3]; simp)
  have HA2 : Hid (w2.heap[g3]? = some (arrObj F)) := Lib.hid (by rw [h2, hg3]; exact (heap_alloc_old _ _ (by simp)).trans (heap_alloc_last _ _))
  have HC2 : Hid (w2.heap[g3 + 1]? = some (arrObj G)) := Lib.hid (by
    rw [h2, hg3]
    exact heap_alloc2 w _ _)
  have HG := Lib.hid hg3
  clear h2 hg3
  have hmk := run_mk256 w2
  have hs2 := HS2.out
  rw [hs2] at hmk
  clear hs2
  obtain ⟨w4, h4⟩ : ∃ w4, w4 = w2.alloc (.cells (bcells 256 fun _ => false) 4) := ⟨_, rfl⟩
  rw [← h4] at hmk
  have HS4 : Hid (w4.heap.size = g3 + 3) := Lib.hid (by rw [h4]; simp [HS2.out])
  have hmk2 := run_mk256 w4
  have hs4 := HS4.out
  rw [hs4] at hmk2
  clear hs4
  obtain ⟨w5, h5⟩ : ∃ w5, w5 = w4.alloc (.cells (bcells 256 fun _ => false) 4) := ⟨_, rfl⟩
  rw [← h5] at hmk2
  have HB4 : Hid (Below w2.heap.size w2 w4) := Lib.hid (by rw [h4]; exact Below.alloc0 w2 _)
  have HB5 : Hid (Below w4.heap.size w4 w5) := Lib.hid (by rw [h5]; exact Below.alloc0 w4 _)
  have HI5 : Hid (DiffI w F G g3 0 w5) := Lib.hid (by
    refine ⟨?_, ?_, ?_, ?_, ?_, ?_⟩
    · exact (HB5.out.block g3 (by rw [HS4.out]; omega)).trans ((HB4.out.block g3 (by rw [HS2.out]; omega)).trans HA2.out)
    · exact (HB5.out.block (g3 + 1) (by rw [HS4.out]; omega)).trans ((HB4.out.block (g3 + 1) (by rw [HS2.out]; omega)).trans HC2.out)
    · have := bl_new w2 256 (fun _ => false)
      rw [← h4, HS2.out] at this
      exact (this.later HB5.out).same fun j _ => by simp [upB]
    · have := bl_new w4 256 (fun _ => false)
      rw [← h5, HS4.out] at this
      exact this.same fun j _ => by simp [upB]
    · rw [h5]; simp [HS4.out]
    · exact (HB2.out.trans (HB4.out.mono (by rw [HS2.out]; omega))).trans (HB5.out.mono (by rw [HS4.out]; omega)))
  clear h4 h5
  go_wp2
  clear hmk hmk2
  go_loopg [8] 256 (fun gk i wr => ∃ k : Nat, gk = 256 - k ∧ k ≤ 256 ∧ i = .int .i64 (k : Int) ∧ Hid (DiffI w F G g3 k wr))
  case atStart => exact ⟨0, rfl, by omega, rfl, HI5⟩
  case round =>
    obtain ⟨k, hgk, hk, rfl, HI⟩ := hrel
    have HGK := Lib.hid hgk
    clear hgk
    by_cases hlt : k < 256
    · have hlt' : (k : Int) < 256 := by omega
      obtain ⟨A, hA⟩ : ∃ A, A = hasF (diffF F G) k := ⟨_, rfl⟩
      obtain ⟨B, hB⟩ : ∃ B, B = hasF (goneF F G) k := ⟨_, rfl⟩
      have HStep := Lib.hid (fun W (h : DiffI w F G g3 k W) => h.step hA hB)
      have hA2 : A = (decide (F.getD k [] ≠ []) && !decide (F.getD k [] = G.getD k [])) := hA.trans (hasF_diff hlt)
      have hB2 : B = (!decide (F.getD k [] ≠ []) && decide (G.getD k [] ≠ [])) := hB.trans (hasF_gone hlt)
      have hbF : ∀ x ∈ F.getD k [], x < 256 := HOk.out.1.byte _ (getD_memF (by rw [HOk.out.1.1]; exact hlt))
      have hbG : ∀ x ∈ G.getD k [], x < 256 := HOk.out.2.byte _ (getD_memF (by rw [HOk.out.2.1]; exact hlt))
      have hc1 := arr_cell (w := wr) (j := k) HI.out.fst (by rw [HOk.out.1.1]; exact hlt)
      have hc2 := arr_cell (w := wr) (j := k) HI.out.snd (by rw [HOk.out.2.1]; exact hlt)
      have hq1 := HI.out.put.at_ hlt
      have hf1 := HI.out.put.frozen k
      have hq2 := HI.out.gone.at_ hlt
      have hf2 := HI.out.gone.frozen k
      clear hA hB
      obtain ⟨lF, hlF⟩ : ∃ l, l = F.getD k [] := ⟨_, rfl⟩
      obtain ⟨lG, hlG⟩ : ∃ l, l = G.getD k [] := ⟨_, rfl⟩
      rw [← hlF] at hc1 hA2 hB2 hbF
      rw [← hlG] at hc2 hA2 hB2 hbG
      have hn1 := strB_neq lF
      have hn2 := strB_neq lG
      have hn3 := strB_same hbF hbG
      obtain ⟨P, hP⟩ : ∃ P, P = decide (lF ≠ []) := ⟨_, rfl⟩
      rw [← hP] at hn1 hA2 hB2
      generalize decide (lG ≠ []) = U at hn2 hB2
      generalize decide (lF = lG) = V at hn3 hA2
      generalize strB lF = sF at hc1 hn1 hn3
      generalize strB lG = sG at hc2 hn2 hn3
      clear hlF hlG hbF hbG hP
      cases P with
      | false =>
        simp only [Bool.false_and, Bool.not_false, Bool.true_and] at hA2 hB2 hn1
        subst hA2
        subst hB2
        go_upto_region 6 with fail
        go_region
        all_goals
          go_wp2
          go_roundg (256 - (k + 1))
          case measure => have := HGK.out; omega
          case rel => exact ⟨k + 1, rfl, by omega, by go_num, Lib.hid (HStep.out _ HI.out).drew⟩
      | true =>
        simp only [Bool.true_and, Bool.not_true, Bool.false_and] at hA2 hB2 hn1
        subst hA2
        subst hB2
        go_upto_region 6 with fail
        go_region
        all_goals
          go_wp2
          go_roundg (256 - (k + 1))
          case measure => have := HGK.out; omega
          case rel => exact ⟨k + 1, rfl, by omega, by go_num, Lib.hid (HStep.out _ HI.out).drew⟩
    · obtain rfl : k = 256 := by omega
      have HP : Hid (Bl wr (g3 + 2) 256 (hasF (diffF F G))) := Lib.hid (HI.out.put.same fun j hj => by simp [upB, hj])
      have HQ : Hid (Bl wr (g3 + 3) 256 (hasF (goneF F G))) := Lib.hid (HI.out.gone.same fun j hj => by simp [upB, hj])
      go_wp2_with fail
      refine (refRuns256_any _ _ _ HP.out).mono ?_
      rintro e w6 ⟨v, M, rfl, ho, hu, hb⟩
      have HO := Lib.hid ho
      have HU := Lib.hid (SetF.of_up (diffF_len F G) hu)
      have HB6 := Lib.hid hb
      clear ho hu hb
      go_wp2_with fail
      refine (refRuns256_any _ _ _ (HQ.out.later HB6.out)).mono ?_
      rintro e w7 ⟨v7, N, rfl, ho, hu, hb⟩
      have HO7 := Lib.hid ho
      have HU7 := Lib.hid (SetF.of_up (goneF_len F G) hu)
      have HB7 := Lib.hid hb
      clear ho hu hb
      go_wp2
      go_ret2
      have hs := HI.out.size
      have hb67 := HB6.out.trans (HB7.out.mono HB6.out.size)
      refine ⟨_, _, M, N, rfl, (HO.out.kept HB7.out).mono (by rw [hs, HG.out]; omega), HU.out, HO7.out.mono (by have := HB6.out.size; rw [hs, HG.out] at this; omega), HU7.out, ?_⟩
      rw [← HG.out]
      exact HI.out.low.trans (hb67.mono (by rw [hs]; omega))

end Go.Proofs.YtaijjogjohbheaaGreat
