/- Of no image: the contracts of image's all, Blocks and Diff where the base is none, over any world. -/
import Derived.Test.YtaijldcfoaeogaaGIDelToIDiff
namespace Go.Proofs.Ytaijldcfoaeogaa
open Go.RowKit Go.Shelf
set_option linter.unusedSimpArgs false
attribute [local go_sem] Oper.semAt_some

theorem all_nil (w : World) : Calls Try.prog 21 #[.pointer none] w fun e w' => e = .returned (.map none) ∧ w' = w := by
  go_enter Try.func21, Try.ntmps21
  go_wp2
  go_ret
  exact ⟨rfl, rfl⟩

theorem look_nil (w : World) (i : Int) : (Instr.lookup 73 (.map none) (.int .i64 i) true).run Try.prog w = .ok (.tuple #[.agg (cB (List.replicate 32 0)).toArray, .bool false]) w := by
  have hz := zero_blk w
  have hck : ∀ (n : Nat) (e : Bool), (Instr.checkKey e (n + 1) 3 (.int .i64 i)).run Try.prog w = .ok () w := fun n e => by
    unfold Instr.checkKey
    simp [run_underlying Try.underlying3]
  have hfk : (Instr.findKey 3 (.int .i64 i) []).run Try.prog w = .ok none w := by
    unfold Instr.findKey
    simp [run_underlying Try.underlying3, Instr.findNow]
  have h1 := hck 9999 true
  unfold Instr.lookup
  simp [run_underlying Try.underlying73, h1, hfk, hz]

set_option maxRecDepth 100000 in
theorem delFn_nil (w : World) (gt : Nat) (x : Int) (l : List Nat) (hgt : w.heap[gt]? = some (.cells #[.map none] 73 (0, 0))) :
    Calls Try.prog 25 #[.int .i64 x, .agg (cB l).toArray, .pointer (some ⟨gt, 0, none⟩)] w fun e w' => e = .returned (.bool false) ∧ Below w.heap.size w w' := by
  have hglt : gt < w.heap.size := lt_of_block hgt
  have hz : okB (List.replicate 32 0) := ⟨List.length_replicate, fun x hx => by rw [List.eq_of_mem_replicate hx]; omega⟩
  go_enter Try.func25, Try.ntmps25
  go_upto_region 1 with fail
  change Code.wp _ _ _ _ (w.alloc (rowObj 78 l))
  obtain ⟨w2, h2⟩ : ∃ w2, w2 = w.alloc (rowObj 78 l) := ⟨_, rfl⟩
  rw [← h2]
  have HB2 : Hid (Below w.heap.size w w2) := Lib.hid (by rw [h2]; exact Below.alloc0 _ _)
  have hgt2 : w2.cell? ⟨gt, 0, none⟩ = some (.map none) := by
    simp [World.cell?, (HB2.out.block gt hglt).trans hgt]
  have hlook := look_nil w2 x
  have HZ := Lib.hid hz
  clear h2 hgt hz
  go_upto_region 2 with (refine wpList_store_blk rfl (.tmp 6) (.tmp 12) rfl _ 78 (List.replicate 32 0) (List.replicate 32 0) rfl rfl (heap_alloc_last _ _) List.length_replicate HZ.out.1 ?_; intro w3 H3)
  have HG3 : Hid (w2.grownBy w3 none) := Lib.hid (by rw [H3.out]; exact grown_new _ _ _)
  have HB3 : Hid (Below w.heap.size w w3) := Lib.hid (HB2.out.grown HG3.out HB2.out.size (fun k hk => by cases hk))
  clear H3 hlook hgt2
  go_wp2
  go_ret
  exact ⟨rfl, HB3.out⟩

theorem diffF_holes {F : List (List Nat)} (hF : F.length = 256) : diffF F holes = F := F_ext (diffF_len _ _) hF fun x => by
  rw [fAt_diffF hF holes_ok.1, fAt_holes]
  split
  · rename_i h; exact h
  · rfl

set_option maxHeartbeats 2000000 in
set_option maxRecDepth 100000 in
theorem delete_nil (w : World) (b n gt : Nat) (F : List (List Nat)) (hF : okF F) (h1 : Mp w b n F) (hgt : w.heap[gt]? = some (.cells #[.map none] 73 (0, 0))) (hbg : b ≠ gt) :
    Calls Try.prog 24 #[.map (some b), .func (.func 25) #[] #[.pointer (some ⟨gt, 0, none⟩)]] w fun e w' => e = .returned (.tuple #[]) ∧ Mp w' b n F ∧ Save [b] w w' := by
  have eg : ∀ args w, (callFunc 25 args).run Try.prog w = .ok (.enter 25 args) w := enters_of Try.func25 (by kernel_rfl) rfl
  obtain ⟨D, hD, hA⟩ := h1
  have HD := Lib.hid (And.intro hD hA)
  have HM := Lib.hid hgt
  have HOk := Lib.hid hF
  have HLt := Lib.hid (And.intro hD.lt (lt_of_block hgt))
  obtain ⟨r, hr⟩ : ∃ r, r = w.heap.size := ⟨_, rfl⟩
  clear hD hA hgt hF
  go_enter Try.func24, Try.ntmps24
  go_wp2_with (at_range; refine wpList_range_own _ rfl _ 73 rfl 3 78 keyedInt Try.underlying73 _ b n D rfl HD.out.1 ?_; intro w0 hrg0 hg0 hs0)
  go_frame
  rw [← hr] at hrg0 ⊢
  have HR := Lib.hid hr
  have H0 := Lib.hid (And.intro hrg0 hg0)
  clear hr hrg0 hg0 hs0
  go_loopw [4] (fun _ wr => ∃ (left : Lit → Bool) (cnt : Nat) (E : DataW (List Nat)) (K : List (List Nat)), Hid (wr.ranges Try.prog 3 blkR b r n E left cnt) ∧ Hid (Agr E K) ∧ Hid (K.length = 256) ∧ Hid (∀ x : Int, fAt K x = fAt F x) ∧ Hid (Save [b] w wr)) (fun _ wr => wr.rangeLeft b r)
  case atStart =>
    refine ⟨_, _, D, F, Lib.hid H0.out.1, Lib.hid HD.out.2, Lib.hid HOk.out.1, Lib.hid (fun x => rfl), Lib.hid ((Save.refl [b] w).grown H0.out.2 (by simp))⟩
  case round =>
    obtain ⟨left, cnt, E, K, HRg, HE, HKl, HK, HS⟩ := hrel
    go_wp2_with (at_next; refine wpList_next_img rfl _ rfl b r n E K HE.out left cnt rfl HRg.out ?_ ?_)
    · intro hc0 hl0
      have HL0 := Lib.hid hl0
      clear hc0 hl0
      go_wp2
      go_end0
      have hKD : K = F := F_ext HKl.out HOk.out.1 fun x => HK.out x
      refine ⟨rfl, ⟨E, HRg.out.owns, by rw [← hKD]; exact HE.out⟩, HS.out⟩
    · intro x l w1 cnt1 hwx hokl hlF hlx hat hrg1 hlt hg1 hs1 hen
      have hfx : fAt K x = fAt F x := HK.out x
      have HX := Lib.hid (And.intro hwx (And.intro hokl (hlF.trans hfx)))
      have H1 := Lib.hid (And.intro hrg1 (And.intro hlt hg1))
      have HS1 : Hid (Save [b] w w1) := Lib.hid (HS.out.grown hg1 (by intro k e; injection e with e; left; rw [← e, HR.out]; exact Nat.le_refl _))
      clear hokl hat hrg1 hlt hg1 hlF hlx hs1 hfx
      obtain ⟨g5, hg5⟩ : ∃ g5, g5 = w1.heap.size := ⟨_, rfl⟩
      go_upto_region 3 with (refine wpList_store_blk rfl (.tmp 5) (.tmp 12) rfl _ 78 (List.replicate 32 0) l rfl rfl (heap_alloc_last _ _) List.length_replicate HX.out.2.1.1 ?_; intro w3 H3)
      rw [← hg5]
      have HB3 : Hid (w3.heap[g5]? = some (rowObj 78 l)) := Lib.hid (by rw [H3.out, hg5]; exact put_same (heap_alloc_last _ _))
      have HG3 : Hid (w1.grownBy w3 none) := Lib.hid (by rw [H3.out]; exact grown_new _ _ _)
      have HK3 := Lib.hid ((H1.out.1).kept HG3.out (by simp) (by simp))
      have HS3 : Hid (Save [b] w w3) := Lib.hid (HS1.out.grown HG3.out (by simp))
      have HCc := Lib.hid ((HS3.out.block gt HLt.out.2 (by simp; exact fun e => hbg e.symm)).trans HM.out)
      have HW := Lib.hid hwx
      clear H3 hg5 hen hwx
      have HCall := Lib.hid (delFn_nil w3 gt x l HCc.out)
      go_wp2_with (first
        | (refine wpList_load_blk rfl (.tmp 5) rfl g5 78 l rfl HB3.out HX.out.2.1.1 ?_)
        | fail)
      refine HCall.out.mono ?_
      rintro e w4 ⟨rfl, hb4⟩
      have HG4 : Hid (w3.grownBy w4 none) := Lib.hid ⟨hb4.os, hb4.tape, hb4.output, hb4.size, fun k hk _ => hb4.block k hk⟩
      have HK4 := Lib.hid (HK3.out.kept HG4.out (by simp) (by simp))
      have HS4 : Hid (Save [b] w w4) := Lib.hid (HS3.out.grown HG4.out (by simp))
      clear hb4
      go_wp2
      go_roundw
      case rel => exact ⟨_, cnt1, E, K, HK4, HE, HKl, HK, HS4⟩
      case measure => rw [HK4.out.left_eq, HRg.out.left_eq]; exact H1.out.2.1

theorem keys1_nil (w : World) (l cb : Nat) (hc : w.cell? ⟨cb, 0, none⟩ = some (.map none)) :
    Calls Try.prog 61 #[.func (.yield l) #[] #[], .pointer (some ⟨cb, 0, none⟩)] w fun e w' => (∃ v, e = .returned v) ∧ Below w.heap.size w w' := by
  have hrg := run_range_nilMap (P := Try.prog) w 73 3 78 Try.underlying73
  have hnx : ∀ ty, (Instr.next (.pointer (some ⟨w.heap.size, 0, none⟩)) false ty).run Try.prog (w.alloc (.mapIter none 0 #[] 0)) = _ := fun ty => run_next_nilMap _ ty 0 0 #[]
  go_enter Try.func61, Try.ntmps61
  go_wp2
  refine wp_loop_rounds 1 ?_
  rw [rounds_succ]
  go_wp2
  go_end0
  exact ⟨⟨_, rfl⟩, Below.alloc0 _ _⟩

theorem range_keysN {g : Operand} {ps : Array Tmp} {assign body : Code} {Q : Exit → Act → World → Prop} {a : Act} {w : World} (cb : Nat)
    (hg : a.eval g = .func (.func 61) #[] #[.pointer (some ⟨cb, 0, none⟩)]) (hc : w.heap[cb]? = some (.cells #[.map none] 73 (0, 0)))
    (hdone : ∀ (D : Nat) (W : World), w.heap.size ≤ D → Below w.heap.size w W → W.heap[D]? = some (.deferred (some [])) → Q .normal { a with defers := { target := .collected D, args := #[] } :: a.defers } W) :
    (Code.rangeFunc g ps assign body).wpIn Fence.wide 3 Try.prog Q a w := by
  refine wpIn_rangeFunc ?_
  intro fn hfn
  obtain ⟨B, hB⟩ : ∃ B, B = w.heap.size := ⟨_, rfl⟩
  rw [← hB] at hdone
  obtain ⟨rec, hrec⟩ : ∃ rec : LoopState → Option Code → Loop, rec = fun st pe => { state := st, pending := pe, fn, tmps := a.tmps, params := ps, assign, body, defers := B } := ⟨_, rfl⟩
  obtain ⟨W1, hW1⟩ : ∃ W1, W1 = (w.alloc (.deferred (some []))).alloc (.loop (rec .ready none)) := ⟨_, rfl⟩
  have e1 : W1.heap[B + 1]? = some (.loop (rec .ready none)) := by
    have := World.alloc_heap_new (w.alloc (.deferred (some []))) (.loop (rec .ready none))
    rw [World.size_alloc, ← hB, ← hW1] at this
    exact this
  have e0 : W1.heap[B]? = some (.deferred (some [])) := by
    rw [hW1, hB]
    exact (Below.heap_alloc _ _ _ (by simp)).trans (World.alloc_heap_new w _)
  have hb1 : Below w.heap.size w W1 := by rw [hW1]; exact ((Below.refl _ w).alloc (Nat.le_refl _) _).alloc (by simp) _
  refine ⟨B + 1, [{ target := .collected B, args := #[] }], W1, { target := .fn (.func 61) #[.pointer (some ⟨cb, 0, none⟩)], args := #[.func (.yield (B + 1)) #[] #[]] }, W1, 61, #[.func (.yield (B + 1)) #[] #[], .pointer (some ⟨cb, 0, none⟩)], W1, ?_, ?_, ?_, ?_, fun _ => by omega, ?_⟩
  · rw [hW1, hrec, hB]; exact run_enterLoop_outer _ _ _ _ _
  · simp only [resolve, hg]
    simp [go_sem]
  · intro f' _; trivial
  · have eg : ∀ args w, (callFunc 61 args).run Try.prog w = .ok (.enter 61 args) w := enters_of Try.func61 (by kernel_rfl) rfl
    simp [invoke, go_sem, eg]
  · have lt_of : ∀ {W : World} {o : Obj}, W.heap[B + 1]? = some o → B + 1 < W.heap.size := fun h => (Array.getElem?_eq_some_iff.1 h).1
    have hcell : W1.cell? ⟨cb, 0, none⟩ = some (.map none) := by
      have e := (hb1.block cb (lt_of_block hc)).trans hc
      simp [World.cell?, e]
    refine (callsIn_wide.2 (keys1_nil W1 (B + 1) cb hcell)).mono ?_
    rintro e W2 ⟨⟨v, rfl⟩, hb2⟩
    have hl2 := (hb2.block (B + 1) (lt_of e1)).trans e1
    have hd2 := (hb2.block B (by have := lt_of e1; omega)).trans e0
    have hr := run_endLoop (P := Try.prog) hl2 (by rw [hrec]; simp)
    refine ⟨none, _, by rw [hrec] at hr; exact hr, hdone B _ (Nat.le_refl _) ?_ ((World.putObj_heap_other (by omega)).trans hd2)⟩
    have hsz := lt_of e1
    exact (by rw [hB]; exact hb1.trans ((hb2.mono (by omega)).trans (below_put (by omega) _ _)))

theorem keysOf_nil (w : World) : Calls Try.prog 43 #[.map none] w fun e w' => e = .returned (.func (.func 61) #[] #[.pointer (some ⟨w.heap.size, 0, none⟩)]) ∧ w' = w.alloc (.cells #[.map none] 73) := by
  have hmf : ∀ (fn : Fn) (first cap : Array Value) (w : World), (Instr.makeFunc fn first cap).run Try.prog w = .ok (.func fn first cap) w := fun _ _ _ _ => rfl
  go_enter Try.func43, Try.ntmps43
  go_wp2
  go_ret
  exact ⟨rfl, rfl⟩

set_option maxHeartbeats 2000000 in
set_option maxRecDepth 100000 in
theorem setOf_nil (w : World) :
    Calls Try.prog 26 #[.map none] w fun e w' => ∃ v M, e = .returned v ∧ OwnR w' w.heap.size 52 v M ∧ SetF holes M ∧ Below w.heap.size w w' := by
  obtain ⟨gl, hgl⟩ : ∃ gl, gl = w.heap.size := ⟨_, rfl⟩
  obtain ⟨w2, hw2⟩ : ∃ w2, w2 = (w.alloc (.cells #[.slice none 0 0] 58)).alloc (.cells #[.map none] 73) := ⟨_, rfl⟩
  have HK := Lib.hid (keysOf_nil (w.alloc (.cells #[.slice none 0 0] 58)))
  rw [World.size_alloc, ← hgl, ← hw2] at HK
  have HB2 : Hid (Below gl w w2) := Lib.hid (by rw [hw2, hgl]; exact ((Below.refl _ _).alloc (Nat.le_refl _) _).alloc (by simp) _)
  have HS2 : Hid (w2.heap.size = gl + 1 + 1) := Lib.hid (by rw [hw2, hgl]; simp)
  have HL2 : Hid (w2.heap[gl]? = some (.cells #[.slice none 0 0] 58 (0, 0))) := Lib.hid (by rw [hw2, hgl]; exact (Below.heap_alloc _ _ _ (by simp)).trans (heap_alloc_last _ _))
  have HC2 : Hid (w2.heap[gl + 1]? = some (.cells #[.map none] 73 (0, 0))) := Lib.hid (by rw [hw2, hgl]; exact heap_alloc2 _ _ _)
  have HG := Lib.hid hgl
  clear hw2 hgl
  refine enter_setOf _ w _ _ rfl ?_
  simp only [Try.ntmps26, List.size_toArray, List.length_cons, List.length_nil, Nat.reduceAdd, Nat.reduceSub, Array.replicate_succ, Array.replicate_zero, List.push_toArray, List.append_toArray, List.nil_append, List.cons_append]
  go_wp2_with fail
  refine HK.out.mono ?_
  rintro e w3 ⟨rfl, rfl⟩
  clear HK
  go_wp2_with fail
  rw [← HG.out]
  refine (wpIn_wide (n := 3)).1 ?_
  generalize hact : (Act.mk _ []) = act
  refine range_keysN (gl + 1) (by rw [← hact]; rfl) HC2.out ?_
  intro D W hD hb hdef
  subst hact
  have d1 : W.cell? ⟨gl, 0, none⟩ = some (.slice none 0 0) := by rw [cell_of_row W gl 0 _ _ _ ((hb.block gl (by rw [HS2.out]; omega)).trans HL2.out)]; rfl
  have HOf := Lib.hid (of_any none 0 0 [] W (RdR.nil _ _) (by omega) (fun r hr => by cases hr))
  have HBW : Hid (Below gl w W) := Lib.hid (HB2.out.trans (hb.mono (by rw [HS2.out]; omega)))
  have HD := Lib.hid (And.intro hD hdef)
  have HDl : Hid (D < W.heap.size) := Lib.hid (Array.getElem?_eq_some_iff.1 hdef).1
  clear hD hdef hb
  go_wp2_with fail
  refine HOf.out.mono ?_
  rintro e w5 ⟨v5, M, rfl, ho5, hs5, hm5, _, hb5⟩
  have H5 := Lib.hid (And.intro ho5 (And.intro hs5 (And.intro hm5 hb5)))
  clear ho5 hs5 hm5 hb5
  go_wp2
  have hd5 : w5.heap[D]? = some (.deferred (some [])) := (H5.out.2.2.2.block D HDl.out).trans HD.out.2
  refine ⟨by simp, .inl ⟨_, _, rfl, run_takeDeferred hd5, ?_⟩⟩
  refine ⟨v5, by simp [results, Try.results26, go_sem], v5, M, rfl, ?_, ⟨H5.out.2.1, fun z => ?_⟩, ?_⟩
  · refine owns_same (OwnR.mono H5.out.1 (by have := HBW.out.size; omega)) fun k hk => World.putObj_heap_other (by have := (owns_block H5.out.1 hk).1; have := HDl.out; omega)
  · rw [H5.out.2.2.1 z, fAt_holes]
    simp [inR]
  · rw [← HG.out]
    exact (HBW.out.trans (H5.out.2.2.2.mono (by have := HBW.out.size; have := HG.out; omega))).trans (below_put (by have := HD.out.1; have := HS2.out; omega) _ _)

theorem blocks_nil (w : World) :
    Calls Try.prog 27 #[.pointer none] w fun e w' => ∃ v M, e = .returned v ∧ OwnR w' w.heap.size 52 v M ∧ SetF holes M ∧ Below w.heap.size w w' := by
  have HA := Lib.hid (all_nil w)
  have HC := Lib.hid (setOf_nil w)
  go_enter Try.func27, Try.ntmps27
  go_wp2_with fail
  refine HA.out.mono ?_
  rintro e w2 ⟨rfl, rfl⟩
  go_wp2_with fail
  refine HC.out.mono ?_
  rintro e w1 ⟨v, M, rfl, h1, h2, h3⟩
  have HR := Lib.hid (And.intro h1 (And.intro h2 h3))
  clear h1 h2 h3
  go_wp2
  go_ret
  exact ⟨v, M, rfl, HR.out⟩

set_option maxHeartbeats 2000000 in
set_option maxRecDepth 100000 in
theorem diff_nil (w : World) (g b n : Nat) (F : List (List Nat)) (h1 : Img w g b n F) (hn : n < 100000) :
    Calls Try.prog 13 #[.pointer (some ⟨g, 0, none⟩), .pointer none] w fun e w' => ∃ v u M N, e = .returned (.tuple #[v, u]) ∧ OwnR w' w.heap.size 52 v M ∧ SetF (diffF F holes) M ∧ OwnR w' w.heap.size 52 u N ∧ SetF (goneF F holes) N ∧ Below w.heap.size w w' := by
  have H1 := Lib.hid h1
  have HOk := Lib.hid (And.intro h1.ok holes_ok)
  have HA := Lib.hid (all_nil w)
  clear h1
  obtain ⟨g6, hg6⟩ : ∃ g6, g6 = w.heap.size := ⟨_, rfl⟩
  have HG6 := Lib.hid hg6
  go_enter Try.func13, Try.ntmps13
  go_wp2_with fail
  refine HA.out.mono ?_
  rintro e w2 ⟨rfl, hw2⟩
  have hw2 := hw2.symm
  subst hw2
  go_wp2_with fail
  obtain ⟨w3, hw3⟩ : ∃ w3, w3 = w.alloc (.cells #[.map none] 73) := ⟨_, rfl⟩
  rw [← hw3, ← hg6]
  clear hg6
  have HX3 : Hid (w3.heap[g6]? = some (.cells #[.map none] 73 (0, 0))) := Lib.hid (by
    rw [hw3, HG6.out]
    exact heap_alloc_last _ _)
  have HB3 : Hid (Below w.heap.size w w3) := Lib.hid (by rw [hw3]; exact Below.alloc0 _ _)
  clear hw3
  have HC := Lib.hid (imgClone_any w3 g b n F (H1.out.later HB3.out) hn)
  refine HC.out.mono ?_
  rintro e w4 ⟨gc, bc, rfl, hgc, hbc, him, hb4⟩
  have HI4 := Lib.hid him
  have HB4 := Lib.hid (And.intro hb4 (And.intro hgc hbc))
  have hcell := him.cell
  clear him hb4 hgc hbc
  have HL6 : Hid (g6 < w3.heap.size) := Lib.hid (lt_of_block HX3.out)
  have HX4 : Hid (w4.heap[g6]? = some (.cells #[.map none] 73 (0, 0))) := Lib.hid ((HB4.out.1.block g6 HL6.out).trans HX3.out)
  have HD := Lib.hid (delete_nil w4 bc n g6 F HOk.out.1 HI4.out.map HX4.out (by have := HB4.out.2.2; have := HL6.out; omega))
  go_wp2_with fail
  refine HD.out.mono ?_
  rintro e w5 ⟨rfl, hm5, hs5⟩
  have HM5 := Lib.hid hm5
  have HB5 : Hid (Below w3.heap.size w3 w5) := Lib.hid (by
    have hb := HB4.out.1
    refine ⟨hs5.os.trans hb.os, hs5.tape.trans hb.tape, hs5.output.trans hb.output, Nat.le_trans hb.size hs5.size, fun k hk => ?_⟩
    exact (hs5.block k (Nat.lt_of_lt_of_le hk hb.size) (by have := HB4.out.2.2; simp; omega)).trans (hb.block k hk))
  clear hm5 hs5 hcell
  have HBw5 : Hid (Below w.heap.size w w5) := Lib.hid (HB3.out.trans (HB5.out.mono HB3.out.size))
  have HI5 := Lib.hid (H1.out.later HBw5.out)
  go_wp2_with fail
  refine (setOf_any w5 bc n F HOk.out.1 HM5.out).mono ?_
  rintro e w6 ⟨v6, M, rfl, ho6, hM6, hb6⟩
  have HO6 := Lib.hid ho6
  have HM6 := Lib.hid hM6
  have HB6 := Lib.hid hb6
  clear ho6 hM6 hb6
  go_wp2_with fail
  refine (blocks_nil w6).mono ?_
  rintro e w7 ⟨v7, N1, rfl, ho7, hN1, hb7⟩
  have HO7 := Lib.hid ho7
  have HN1 := Lib.hid hN1
  have HB7 := Lib.hid hb7
  clear ho7 hN1 hb7
  go_wp2_with fail
  refine (blocks_any w7 g b n F ((HI5.out.later HB6.out).later HB7.out)).mono ?_
  rintro e w8 ⟨v8, N2, rfl, ho8, hN2, hb8⟩
  have HO8 := Lib.hid ho8
  have HN2 := Lib.hid hN2
  have HB8 := Lib.hid hb8
  clear ho8 hN2 hb8
  obtain ⟨a7, c7, hv7, hr7, hc7, hl7⟩ := (HO7.out.kept HB8.out).rd
  obtain ⟨a8, c8, hv8, hr8, hc8, hl8⟩ := HO8.out.rd
  subst hv7
  subst hv8
  have HR7 := Lib.hid hr7
  have HR8 := Lib.hid hr8
  clear hr7 hc7 hl7 hr8 hc8 hl8
  have HLen := Lib.hid (And.intro (HN1.out.len HOk.out.2.1) (HN2.out.len HOk.out.1.1))
  have hb9 : Below w8.heap.size w8 (w8.alloc (.cells #[.slice a8 N2.length c8] 59)) := Below.alloc0 _ _
  have HB9 := Lib.hid hb9
  have HS9 := Lib.hid (rds_one HR8.out hb9)
  clear hb9
  go_wp2_with fail
  refine (minus_any a7 N1.length c7 N1 _ 1 1 [N2] _ (HR7.out.later HB9.out) HS9.out (by have := HLen.out; omega) (by omega) (by intro N hN; simp at hN; subst hN; have := HLen.out; omega) (HN1.out.ok HOk.out.2.1) (by intro N hN; simp at hN; subst hN; exact HN2.out.ok HOk.out.1.1) HN1.out.set).mono ?_
  rintro e w10 ⟨v10, K, rfl, ho10, hK, hKm, hb10⟩
  have HK : Hid (SetF (goneF F holes) K) := Lib.hid ⟨hK, fun z => by
    rw [hKm z, HN1.out.mem, fAt_goneF HOk.out.1.1 HOk.out.2.1]
    have : (∃ N ∈ [N2], inR N z) ↔ fAt F z ≠ [] := by simp [HN2.out.mem]
    rw [this]
    by_cases h : fAt F z = [] <;> simp [h]⟩
  have HO10 := Lib.hid ho10
  have HB10 := Lib.hid hb10
  clear ho10 hK hKm hb10
  go_wp2
  go_ret2
  have hb78 := (HB7.out.trans (HB8.out.mono HB7.out.size))
  have hb79 := hb78.trans (HB9.out.mono hb78.size)
  have hb710 := hb79.trans (HB10.out.mono hb79.size)
  have hsz : w.heap.size ≤ w6.heap.size := Nat.le_trans HBw5.out.size HB6.out.size
  have hMd : SetF (diffF F holes) M := by rw [diffF_holes HOk.out.1.1]; exact HM6.out
  refine ⟨_, _, M, K, rfl, (HO6.out.kept hb710).mono HBw5.out.size, hMd, HO10.out.mono (Nat.le_trans hsz hb79.size), HK.out, ?_⟩
  exact (HBw5.out.trans (HB6.out.mono HBw5.out.size)).trans (hb710.mono hsz)

end Go.Proofs.Ytaijldcfoaeogaa
