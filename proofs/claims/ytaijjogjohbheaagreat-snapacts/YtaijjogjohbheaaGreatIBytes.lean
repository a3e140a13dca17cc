/- The contracts of an image's Blocks, Bytes and Digest, over any world. -/
import Derived.Test.YtaijjogjohbheaaGreatGOwnVarToStillIn
import Derived.Test.YtaijjogjohbheaaGreatEBytes
import Derived.Test.YtaijjogjohbheaaGreatENums
import Derived.Test.YtaijjogjohbheaaGreatGRdTToVBytesL
namespace Go.Proofs.YtaijjogjohbheaaGreat
open Go.RowKit Go.Shelf
set_option linter.unusedSimpArgs false
attribute [local go_sem] Oper.semAt_some

theorem canon_len {a hi : Int} {M : List Rn} (h : Canon a M) (ht : ∀ r ∈ M, r.t ≤ hi) (ha : a ≤ hi) : 2 * (M.length : Int) ≤ hi - a := by
  induction M generalizing a with
  | nil => simp; omega
  | cons r M ih =>
    have h1 := h.1
    have h2 := h.2.1
    have h3 := ht r (by simp)
    have := ih h.2.2 (fun q hq => ht q (by simp [hq])) h3
    simp only [List.length_cons]
    omega

theorem SetF.pos {F : List (List Nat)} {M : List Rn} (h : SetF F M) (hF : F.length = 256) : Pos M := by
  obtain ⟨a, ha⟩ := h.set
  cases M with
  | nil => trivial
  | cons r M =>
    have := (h.ends hF r (by simp)).1
    exact ⟨by omega, ha.2.1, ha.2.2⟩

theorem SetF.len {F : List (List Nat)} {M : List Rn} (h : SetF F M) (hF : F.length = 256) : M.length ≤ 128 := by
  have := canon_len (h.pos hF) (fun r hr => (h.ends hF r hr).2.2) (by omega)
  omega

theorem blocks_any (w : World) (g b q : Nat) (F : List (List Nat)) (h : Img w g b q F) :
    Calls Tryz.prog 65 #[.pointer (some ⟨g, 0, none⟩)] w fun e w' => ∃ v M, e = .returned v ∧ OwnR w' w.heap.size 67 v M ∧ SetF F M ∧ Below w.heap.size w w' := by
  have HA := Lib.hid (all_any w g b q F h)
  have HC := Lib.hid (setOf_any w b q F h.ok h.map)
  clear h
  go_enter Tryz.func65, Tryz.ntmps65
  go_wp2_with fail
  refine HA.out.mono ?_
  rintro e w2 ⟨rfl, rfl⟩
  go_wp2_with fail
  refine HC.out.mono ?_
  rintro e w1 ⟨v, M, rfl, h1, h2, h3⟩
  have HR := Lib.hid (And.intro h1 (And.intro h2 h3))
  clear h1 h2 h3
  go_wp2
  go_ret
  exact ⟨v, M, rfl, HR.out⟩

/-- The bytes of an image, without their length. -/
def bytesF (F : List (List Nat)) (M : List Rn) : List Nat := (setNums M).flatMap vEnc ++ (numsR M).flatMap (fAt F)

theorem enter_bytes (args : Array Value) (w : World) (R : Ending → World → Prop) (c : Code) (hb : Tryz.f90.body = some c)
    (h : c.wp Tryz.prog (bodyPostM Fence.wide 3 Tryz.prog Tryz.f90 R) { tmps := args ++ Array.replicate (Tryz.f90.ntmps - args.size) undef, defers := [] } w) : Calls Tryz.prog 90 args w R :=
  (callsIn_wide (n := 3)).1 (callsIn_of_wp_marks Tryz.func90 hb trivial (wpIn_wide.2 h) rfl)

theorem numsR_lt {F : List (List Nat)} {M : List Rn} (h : SetF F M) (hF : F.length = 256) : (numsR M).length ≤ 256 := by
  refine whole_len hF ((numsR_sorted (h.pos hF)).imp (fun {a b} hab => by omega)) fun x hx => (h.mem x).1 (mem_numsR.1 hx)

theorem flat_len {F : List (List Nat)} (hF : okF F) (pre : List Int) : (pre.flatMap (fAt F)).length ≤ 32 * pre.length := by
  induction pre with
  | nil => simp
  | cons x r ih =>
    rw [List.flatMap_cons, List.length_append, List.length_cons]
    rcases hF.at_ x with h | h
    · rw [h, List.length_nil]; omega
    · rw [h.1]; omega

theorem flat_byte {F : List (List Nat)} (hF : okF F) (pre : List Int) : ∀ y ∈ pre.flatMap (fAt F), y < 256 := by
  intro y hy
  simp only [List.mem_flatMap] at hy
  obtain ⟨x, _, hx⟩ := hy
  rcases hF.at_ x with h | h
  · rw [h] at hx; cases hx
  · exact h.2 y hx

theorem wpListIn_store_blk {F0 : Fence} {n0 : Nat} {w : World} {ops : Array Oper} {rest : List Oper} {o : Oper} {a : Act} {Q : Exit → Act → World → Prop} (hg0 : o.guard = none) (p v : Operand) (hop : o.op = Op.store 135 p v)
    (g : Nat) (T : TypeId) (l l' : List Nat) (hp : a.eval p = .pointer (some ⟨g, 0, none⟩)) (hv : a.eval v = .agg (cB l').toArray) (hg : w.heap[g]? = some (rowObj T l)) (hl : l.length = 32) (hl' : l'.length = 32)
    (h : ∀ w', Hid (w' = put w g (rowObj T l')) → wpListIn F0 n0 Tryz.prog ops Q rest (a.put o.dst undef) w') : wpListIn F0 n0 Tryz.prog ops Q (o :: rest) a w :=
  wpListIn_skp hg0 (by rw [hop]; intro c e; cases e) (by rw [hop]; intro c e; cases e) _ (by simp only [execOp, hop, hp, hv, Sem.run_bind, run_store_blk hg hl hl', Result.andThen, Sem.run_pure]) (h _ (Lib.hid rfl))

theorem numsGo_le (L : List Rn) : ∀ p : Int, 0 ≤ p → (∀ r ∈ L, 0 ≤ r.f ∧ r.f < r.t ∧ r.t ≤ 256) → ∀ y ∈ numsGo p L, y ≤ 256 := by
  induction L with
  | nil => intro p _ _ y hy; simp [numsGo] at hy
  | cons r L ih =>
    intro p hp h y hy
    have hr := h r (by simp)
    simp only [numsGo, List.mem_cons] at hy
    rcases hy with rfl | rfl | hy
    · omega
    · omega
    · exact ih r.t (by omega) (fun q hq => h q (by simp [hq])) y hy

theorem setNums_len {F : List (List Nat)} {M : List Rn} (h : SetF F M) (hF : F.length = 256) : ((setNums M).flatMap vEnc).length ≤ 2570 := by
  have h1 := h.len hF
  have h2 := encs_len (setNums M) (by
    intro y hy
    simp only [setNums, List.mem_cons] at hy
    rcases hy with rfl | hy
    · omega
    · have := numsGo_le M 0 (by omega) (h.ends hF) y hy
      omega)
  have h4 : (setNums M).length = 1 + 2 * M.length := by simp [setNums, numsGo_length]; omega
  omega

/-- What the loop of Bytes keeps. -/
structure IByt (w2 : World) (g4 : Nat) (F : List (List Nat)) (B0 : List Nat) (pre : List Int) (W : World) : Prop where
  var : VarR W g4 40 w2.heap.size 5 1 (B0 ++ pre.flatMap (fAt F)).length (cB (B0 ++ pre.flatMap (fAt F)))
  row : ∀ k, RowAt g4 40 W k → k ≠ g4
  bel : Below w2.heap.size w2 W

set_option maxHeartbeats 4000000 in
set_option maxRecDepth 100000 in
theorem imgBytes_any (w : World) (g b q : Nat) (F : List (List Nat)) (h : Img w g b q F) :
    Calls Tryz.prog 90 #[.pointer (some ⟨g, 0, none⟩)] w fun e w' => ∃ v M, e = .returned v ∧ SetF F M ∧ Own w' w.heap.size v (tEnc (bytesF F M)) ∧ Below w.heap.size w w' := by
  have hmf : ∀ (fn : Fn) (first cap : Array Value) (w : World), (Instr.makeFunc fn first cap).run Tryz.prog w = .ok (.func fn first cap) w := fun _ _ _ _ => rfl
  obtain ⟨i5, hi5, hz50, hz51, hz52⟩ := info_parts info5
  have HI := Lib.hid h
  have hlt := h.lt
  obtain ⟨g1, hg1⟩ : ∃ g1, g1 = w.heap.size := ⟨_, rfl⟩
  obtain ⟨w1, hw1⟩ : ∃ w1, w1 = w.alloc (.cells #[.pointer (some ⟨g, 0, none⟩)] 55) := ⟨_, rfl⟩
  have HB1 : Hid (Below g1 w w1) := Lib.hid (by rw [hw1, hg1]; exact Below.alloc0 _ _)
  have HS1 : Hid (w1.heap.size = g1 + 1) := Lib.hid (by rw [hw1, hg1]; simp)
  have HC1 : Hid (w1.heap[g1]? = some (.cells #[.pointer (some ⟨g, 0, none⟩)] 55 (0, 0))) := Lib.hid (by rw [hw1, hg1]; exact heap_alloc_last _ _)
  have HI1 := Lib.hid (h.later (by rw [← hg1]; exact HB1.out))
  have HBl := Lib.hid (blocks_any w1 g b q F HI1.out)
  have hc1 : w1.cell? ⟨g1, 0, none⟩ = some (.pointer (some ⟨g, 0, none⟩)) := by rw [cell_of_row w1 g1 0 _ _ _ HC1.out]; rfl
  have HG := Lib.hid hg1
  have HGl : Hid (g < g1) := Lib.hid (by rw [hg1]; exact hlt)
  have hw1' : w.alloc (.cells #[.pointer (some ⟨g, 0, none⟩)] 55) = w1 := hw1.symm
  have hg1' : w.heap.size = g1 := hg1.symm
  clear h hlt hw1 hg1
  refine enter_bytes _ w _ _ rfl ?_
  simp only [Tryz.ntmps90, List.size_toArray, List.length_cons, List.length_nil, Nat.reduceAdd, Nat.reduceSub, Array.replicate_succ, Array.replicate_zero, List.push_toArray, List.append_toArray, List.nil_append, List.cons_append]
  go_wp2_with fail
  refine HBl.out.mono ?_
  rintro e w2 ⟨v2, M, rfl, ho2, hsf, hb2⟩
  obtain ⟨sa, sc, rfl, hr2, _, _⟩ := ho2.rd
  have HSF := Lib.hid hsf
  have HB2 := Lib.hid hb2
  have HR2 := Lib.hid hr2
  have HMl := Lib.hid (hsf.len HI.out.ok.1)
  obtain ⟨ml, hml⟩ : ∃ ml, ml = M.length := ⟨_, rfl⟩
  rw [← hml] at HR2
  have HML := Lib.hid hml
  have HSB := Lib.hid (setBytes_any sa ml sc M w2 HR2.out (by rw [hml]; have := HMl.out; omega) (hsf.pos HI.out.ok.1) (hsf.ok HI.out.ok.1))
  have HOkM := Lib.hid (hsf.ok HI.out.ok.1)
  rw [← hml]
  clear ho2 hsf hb2 hr2 hml hw1' hc1
  go_wp2_with fail
  refine HSB.out.mono ?_
  rintro e w3 ⟨v3, rfl, ho3, hb3⟩
  obtain ⟨B0, hB0⟩ : ∃ B0, B0 = (setNums M).flatMap vEnc := ⟨_, rfl⟩
  rw [← hB0] at ho3
  obtain ⟨va, vc, rfl, hr3, hvc, hlo3⟩ := ho3.lies
  have HO3 := Lib.hid ho3
  have HB3 := Lib.hid hb3
  have HB0 := Lib.hid hB0
  obtain ⟨bl, hbl⟩ : ∃ bl, bl = B0.length := ⟨_, rfl⟩
  rw [← hbl] at HO3 ⊢
  have HBL := Lib.hid hbl
  clear ho3 hb3 hr3 hvc hlo3 hB0 hbl
  obtain ⟨g4, hg4⟩ : ∃ g4, g4 = w3.heap.size := ⟨_, rfl⟩
  go_wp2_with fail
  rw [← hg4]
  obtain ⟨w4, hw4⟩ : ∃ w4, w4 = w3.alloc (.cells #[.slice va bl vc] 40) := ⟨_, rfl⟩
  rw [← hw4]
  have HV4 : Hid (w4.heap[g4]? = some (.cells #[.slice va bl vc] 40 (0, 0))) := Lib.hid (by rw [hw4, hg4]; exact heap_alloc_last _ _)
  have HB4 : Hid (Below w2.heap.size w2 w4) := Lib.hid (by rw [hw4]; exact HB3.out.trans ((Below.alloc0 _ _).mono HB3.out.size))
  have HS4 : Hid (w4.heap.size = g4 + 1) := Lib.hid (by rw [hw4, hg4]; simp)
  have HO4 : Hid (Own w4 w2.heap.size (.slice va bl vc) B0) := Lib.hid (by rw [hw4]; exact HO3.out.alloc _)
  have HG4 : Hid (w2.heap.size ≤ g4) := Lib.hid (by rw [hg4]; exact HB3.out.size)
  have HRow0 : Hid (∀ k, RowAt g4 40 w4 k → k ≠ g4) := Lib.hid (by
    rintro k ⟨u, hu, hk⟩
    rw [var_inj HV4.out hu] at hk
    have h1 := HO3.out.2
    rw [← HBL.out] at h1
    obtain ⟨_, cs, h2⟩ := owns_block h1 hk
    have := (Array.getElem?_eq_some_iff.1 h2).1
    omega)
  have HB0l : Hid (B0.length ≤ 2570) := Lib.hid (by rw [HB0.out]; exact setNums_len HSF.out HI.out.ok.1)
  clear hw4 hg4 hmf hg1' HO3 HBl HSB
  refine (wpIn_wide (n := 3)).1 ?_
  generalize hact : (Act.mk _ []) = act
  have HImg : Hid (∀ W, Below w2.heap.size w2 W → Img W g b q F) := Lib.hid fun W hW => (HI1.out.later HB2.out).later hW
  have HCg1 : Hid (∀ W, Below w2.heap.size w2 W → W.cell? ⟨g1, 0, none⟩ = some (.pointer (some ⟨g, 0, none⟩))) := Lib.hid fun W hW => by
    have h1 : g1 < w1.heap.size := by rw [HS1.out]; omega
    rw [cell_of_row W g1 0 _ _ _ ((hW.block g1 (Nat.lt_of_lt_of_le h1 HB2.out.size)).trans ((HB2.out.block g1 h1).trans HC1.out))]; rfl
  refine range_allR sa ml sc M (by have := HMl.out; have := HML.out; omega) HOkM.out (by rw [← hact]; rfl) rfl (RowAt g4 40) (IByt w2 g4 F B0) (fun _ _ _ => False)
    (fun W W' k hb hr => hr.back (hb.block g4 (by rw [HS4.out]; omega)))
    (fun pre W k h hr => (h.var.cells hr).2)
    (fun pre W W' h hb hr => ⟨h.var.same (hb.block g4 (by rw [HS4.out]; omega)) hr, fun k hk => h.row k (hk.back (hb.block g4 (by rw [HS4.out]; omega))), h.bel.trans (hb.mono (by rw [HS4.out]; have := HG4.out; omega))⟩)
    (fun _ _ _ _ h _ => h) (fun pre W h => HR2.out.later h.bel)
    ⟨⟨_, HV4.out, by have := HO4.out.2; simpa [← HBL.out] using this⟩, HRow0.out, HB4.out⟩
    (fun x => { tmps := (act.tmps.setIfInBounds 13 (.int .i64 x)).setIfInBounds 5 (.int .i64 x), defers := [] }) ?assign ?body ?done ?stop
  case stop => intro D c pre W _ _ h _; exact h.elim
  case assign =>
    intro l x W K hK
    subst hact
    simp only [List.setIfInBounds_toArray, List.set_cons_succ, List.set_cons_zero] at hK
    gi_wp2
    exact hK
  case body =>
    intro l pre x W hI hsz hpre
    subst hact
    simp only [List.setIfInBounds_toArray, List.set_cons_succ, List.set_cons_zero]
    obtain ⟨v, hv, ho⟩ := hI.var
    have hxm : x ∈ numsR M := hpre.subset (by simp)
    have hfx : fAt F x ≠ [] := (HSF.out.mem x).1 (mem_numsR.1 hxm)
    have hx := fAt_in HI.out.ok.1 hfx
    have hwf : (Lit.int .i64 x).wf = true := WalkArith.wf_i64 (by omega)
    have HIW := Lib.hid (HImg.out W hI.bel)
    have HAll := Lib.hid (all_any W g b q F HIW.out)
    obtain ⟨lb, hlb, hle, _, hrun⟩ := HIW.out.map.look x hwf
    have hle2 := hle hfx
    have d1 := HCg1.out W hI.bel
    have HLb := Lib.hid hlb
    have HLe := Lib.hid hle2
    obtain ⟨L0, hL0⟩ : ∃ L0, L0 = (B0 ++ pre.flatMap (fAt F)).length := ⟨_, rfl⟩
    rw [← hL0] at ho
    have HL0 := Lib.hid hL0
    have HV := Lib.hid (And.intro hv ho)
    have HIh := Lib.hid hI
    have HSz := Lib.hid hsz
    have HPl : Hid (pre.length ≤ 256) := Lib.hid (by
      have h1 := hpre.length_le
      have h2 := numsR_lt HSF.out HI.out.ok.1
      simp at h1
      omega)
    clear hv ho hI hsz hpre hxm hfx hwf hlb hle hle2 hx hL0
    obtain ⟨gx, hgx⟩ : ∃ gx, gx = W.heap.size := ⟨_, rfl⟩
    gi_wp2_with fail
    refine ⟨trivial, (CallsIn.inRound l (callsIn_wide.2 HAll.out)).mono ?_⟩
    rintro e w5 ⟨rfl, rfl⟩
    gi_wp2_with (refine wpListIn_store_blk rfl (.tmp 6) (.tmp 17) rfl _ 135 (List.replicate 32 0) lb rfl rfl (heap_alloc_last _ _) List.length_replicate HLb.out.1 ?_; intro w6 H6)
    rw [← hgx]
    have HX6 : Hid (w6.heap[gx]? = some (rowObj 135 lb)) := Lib.hid (by rw [H6.out, hgx]; exact put_same (heap_alloc_last _ _))
    have HB6 : Hid (Below w5.heap.size w5 w6) := Lib.hid (by rw [H6.out]; exact (Below.alloc0 _ _).trans (put_below _ (Nat.le_refl _)))
    have HGx := Lib.hid hgx
    clear H6 hgx hrun d1
    refine wpIn_region_still_tail 2 (by kernel_rfl) (by kernel_rfl) (by kernel_rfl) ?_
    simp only [List.take_succ_cons, List.take_zero, List.drop_succ_cons, List.drop_zero]
    change wpStill _ _ w6.drew _ _ _
    obtain ⟨w7, h7⟩ : ∃ w7, w7 = w6.drew := ⟨_, rfl⟩
    have HB7 : Hid (Below w5.heap.size w5 w7) := by rw [h7]; exact Lib.hid HB6.out.drew
    have HX7 : Hid (w7.heap[gx]? = some (rowObj 135 lb)) := by rw [h7]; exact HX6
    have hlt4 : g4 < w5.heap.size := by have := HSz.out; have := HS4.out; omega
    have hv7 : w7.heap[g4]? = some (.cells #[v] 40 (0, 0)) := (HB7.out.block g4 hlt4).trans HV.out.1
    have d7 : w7.cell? ⟨g4, 0, none⟩ = some v := by rw [cell_of_row w7 g4 0 _ _ _ hv7]; rfl
    have hs7 := arrB_all gx
    have HO7 := Lib.hid (owns_same HV.out.2 (W' := w7) (fun k hk => HB7.out.block k (by obtain ⟨_, cs, h2⟩ := owns_block HV.out.2 hk; exact (Array.getElem?_eq_some_iff.1 h2).1)))
    rw [← h7]
    have H7 := Lib.hid h7
    clear h7 hv7
    repeat still_step
    refine wpStill_nil ?_
    change wpListIn _ _ _ _ _ _ _ w6.drew
    rw [← H7.out]
    clear d7 hs7
    have hpl := HPl.out
    have hb0 := HB0l.out
    have hfl := flat_len HI.out.ok pre
    have hlen : L0 ≤ 20000 := by rw [HL0.out, List.length_append]; omega
    have HLen := Lib.hid hlen
    have hw7s : w5.heap.size ≤ w7.heap.size := HB7.out.size
    have HSz2 : Hid (w2.heap.size ≤ w7.heap.size) := Lib.hid (by have := HSz.out; have := HS4.out; have := HG4.out; omega)
    clear hpl hb0 hfl hlen
    refine wpListIn_append_own_at _ rfl (.tmp 18) (.tmp 19) 40 rfl w2.heap.size 5 i5 _ 1 1 Tryz.underlying40 hi5 hz50 hz51 hz52 rfl (by omega) v L0 (cB (B0 ++ pre.flatMap (fAt F))) rfl HO7.out ⟨gx, 0, none⟩ 32 32 (cB lb) rfl (by rw [cB_length, HLb.out.1]) (rd_cells (rd_blk HX7.out HLb.out)) (cB_one _) (by have := HLen.out; unfold maxLen; omega) (by have := HLen.out; omega) HSz2.out ?_
    intro v' w8 hown8 hgr8 _ hat8
    obtain ⟨sa8, sc8, rfl⟩ := owns_shape hown8
    obtain ⟨p1, p2, p3, p4, p5, hcv, hfv⟩ := var_appended2 (lo := w2.heap.size) (B := w4.heap.size) HV.out.1 HG4.out (by rw [HS4.out]; omega) HB7.out (fun k hk => ⟨(owns_block HV.out.2 hk).1, HIh.out.row k ⟨v, HV.out.1, hk⟩⟩) hown8 hgr8 hat8
    have HAp := Lib.hid (And.intro p1 (And.intro p2 (And.intro p3 p5)))
    clear hown8 hgr8 hat8 p1 p2 p3 p4 p5
    gi_wp2
    obtain ⟨p1, p2, p3, p5⟩ := HAp.out
    have e : B0 ++ (pre ++ [x]).flatMap (fAt F) = (B0 ++ pre.flatMap (fAt F)) ++ lb := by
      rw [List.flatMap_append, HLe.out]
      simp
    refine ⟨p2, ⟨?_, ?_, HIh.out.bel.trans p3⟩⟩
    · rw [e, cB_append, List.length_append, HLb.out.1, ← HL0.out]
      exact p1
    · exact fun k hk => (p5 k hk).2
  case done =>
    intro D W hD hI hdef
    subst hact
    obtain ⟨v, hv, ho⟩ := hI.var
    have hfl := flat_len HI.out.ok (numsR M)
    have hnl := numsR_lt HSF.out HI.out.ok.1
    have hb0 := HB0l.out
    have hBF : B0 ++ (numsR M).flatMap (fAt F) = bytesF F M := by rw [HB0.out]; rfl
    rw [hBF] at ho
    have hXl : (bytesF F M).length ≤ 20000 := by rw [← hBF, List.length_append]; omega
    have hXb : ∀ y ∈ bytesF F M, y < 256 := by
      intro y hy
      rw [← hBF] at hy
      rcases List.mem_append.1 hy with hy | hy
      · exact HO4.out.1 y hy
      · exact flat_byte HI.out.ok (numsR M) y hy
    obtain ⟨X, hX⟩ : ∃ X, X = bytesF F M := ⟨_, rfl⟩
    rw [← hX] at ho hXl hXb
    have hox : Own W w2.heap.size v X := ⟨hXb, ho⟩
    obtain ⟨xa, xc, rfl, hrx, _⟩ := hox.sl
    have d1 : W.cell? ⟨g4, 0, none⟩ = some (.slice xa X.length xc) := by rw [cell_of_row W g4 0 _ _ _ hv]; rfl
    obtain ⟨xl, hxl⟩ : ∃ xl, xl = X.length := ⟨_, rfl⟩
    rw [← hxl] at d1 hrx hXl
    have hRT : RdT (W.alloc (.cells #[.slice xa xl xc] 40)) (some ⟨W.heap.size, 0, none⟩) 1 [X] := by
      refine ⟨rfl, fun _ => ⟨_, _, rfl, fun j hj => ?_⟩⟩
      obtain rfl : j = 0 := by omega
      refine ⟨xa, xc, ?_, ?_⟩
      · rw [Nat.add_zero, cell_of_row _ _ 0 _ _ _ (heap_alloc_last W _)]
        show some (Value.slice xa xl xc) = some (Value.slice xa X.length xc)
        rw [hxl]
      · show Rd _ xa X.length X
        rw [← hxl]
        exact hrx.later (Below.alloc0 _ _)
    have HBP := Lib.hid (bytesPutL_any none 0 0 [] (some ⟨W.heap.size, 0, none⟩) 1 1 [X] _ ⟨rfl, by simp, by simp⟩ hRT (by omega) (by omega) (by intro t ht; simp only [List.mem_singleton] at ht; subst ht; omega))
    have HX := Lib.hid hX
    have HBW : Hid (Below g1 w W) := Lib.hid ((HB1.out.trans (HB2.out.mono (by rw [HS1.out]; omega))).trans (hI.bel.mono (by have := HB2.out.size; have := HS1.out; omega)))
    have HD := Lib.hid (And.intro hD hdef)
    have HDl : Hid (D < W.heap.size) := Lib.hid (Array.getElem?_eq_some_iff.1 hdef).1
    clear hv ho hfl hnl hb0 hBF hXl hXb hX hox hrx hxl hRT hI hD hdef
    go_wp2_with fail
    refine HBP.out.mono ?_
    rintro e w5 ⟨v5, rfl, ho5, hb5⟩
    have H5 := Lib.hid (And.intro ho5 hb5)
    clear ho5 hb5
    go_wp2
    have hd5 : w5.heap[D]? = some (.deferred (some [])) := (H5.out.2.block D (by have := HDl.out; simp; omega)).trans ((Below.heap_alloc _ _ _ HDl.out).trans HD.out.2)
    refine ⟨by simp, .inl ⟨_, _, rfl, run_takeDeferred hd5, ?_⟩⟩
    refine ⟨v5, by simp [results, Tryz.results90, go_sem], v5, M, rfl, HSF.out, ?_, ?_⟩
    · have h6 := H5.out.1
      rw [List.nil_append, List.flatMap_cons, List.flatMap_nil, List.append_nil, HX.out] at h6
      refine ⟨h6.1, ?_⟩
      have h7 := h6.2
      refine owns_same ⟨h7.1, ?_⟩ fun k hk => World.putObj_heap_other (by have h9 := (owns_block h7 hk).1; simp at h9; have := HDl.out; omega)
      rcases h7.2 with h8 | ⟨g', cap, cur, hv', hb', r⟩
      · exact .inl h8
      · exact .inr ⟨g', cap, cur, hv', by have := HBW.out.size; simp at hb'; omega, r⟩
    · rw [← HG.out]
      refine ((HBW.out.trans ((Below.alloc0 W _).mono (by have := HBW.out.size; have := HG.out; omega))).trans (H5.out.2.mono (by have := HBW.out.size; have := HG.out; simp; omega))).trans (below_put (by have := HD.out.1; have := HS4.out; have := HG4.out; have := HB2.out.size; have := HS1.out; omega) _ _)

end Go.Proofs.YtaijjogjohbheaaGreat
