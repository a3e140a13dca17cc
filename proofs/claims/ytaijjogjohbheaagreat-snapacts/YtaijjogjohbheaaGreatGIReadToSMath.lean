/- The contract of image's Read, over any world. -/
import Derived.Test.YtaijjogjohbheaaGreatIRdMath
import Derived.Test.YtaijjogjohbheaaGreatGVRdrBytesToVRdrBytesHi
import Derived.Test.YtaijjogjohbheaaGreatGESortToEHas
import Derived.Deep.RegionHeld3
import Derived.Shelf.RegionOpen
namespace Go.Proofs.YtaijjogjohbheaaGreat
open Go.RowKit Go.Shelf
set_option linter.unusedSimpArgs false
attribute [local go_sem] Oper.semAt_some

/-- What comes of bytes: the error, the image. -/
def imgRd (l : List Nat) : Nat × List (List Nat) :=
  if (rByt 0 l 9216).2.1 ≠ 0 then ((rByt 0 l 9216).2.1, holes)
  else if (rdSet 0 (rByt 0 l 9216).1 256).1 ≠ 0 then ((rdSet 0 (rByt 0 l 9216).1 256).1, holes)
  else if (rdSet 0 (rByt 0 l 9216).1 256).2.2.2.length ≠ 32 * (numsR (rdSet 0 (rByt 0 l 9216).1 256).2.1).length then (3, holes)
  else (0, fillN (numsR (rdSet 0 (rByt 0 l 9216).1 256).2.1) (rdSet 0 (rByt 0 l 9216).1 256).2.2.2 holes)

theorem imgRd_err {l b l1 : List Nat} {E : Nat} (h : rByt 0 l 9216 = (b, E, l1)) (hE : E ≠ 0) : imgRd l = (E, holes) := by
  simp only [imgRd, h]
  rw [if_pos hE]

theorem imgRd_set {l b l1 : List Nat} {E : Nat} {M : List Rn} {e : Nat} {rest : List Nat} (h : rByt 0 l 9216 = (b, 0, l1)) (hs : rdSet 0 b 256 = (E, M, e, rest)) (hE : E ≠ 0) : imgRd l = (E, holes) := by
  simp only [imgRd, h, hs]
  rw [if_neg (by simp), if_pos hE]

theorem imgRd_form {l b l1 : List Nat} {M : List Rn} {e : Nat} {rest : List Nat} (h : rByt 0 l 9216 = (b, 0, l1)) (hs : rdSet 0 b 256 = (0, M, e, rest)) (hl : rest.length ≠ 32 * (numsR M).length) : imgRd l = (3, holes) := by
  simp only [imgRd, h, hs]
  rw [if_neg (by simp), if_neg (by simp), if_pos hl]

theorem imgRd_ok {l b l1 : List Nat} {M : List Rn} {e : Nat} {rest : List Nat} (h : rByt 0 l 9216 = (b, 0, l1)) (hs : rdSet 0 b 256 = (0, M, e, rest)) (hl : rest.length = 32 * (numsR M).length) : imgRd l = (0, fillN (numsR M) rest holes) := by
  simp only [imgRd, h, hs]
  rw [if_neg (by simp), if_neg (by simp), if_neg (by omega)]

/-- What Read leaves. -/
def RdPost (g : Nat) (w : World) (p : Nat × List (List Nat)) (e : Ending) (w' : World) : Prop :=
  Save [g] w w' ∧ ((p.1 ≠ 0 ∧ e = .returned (.tuple #[.pointer none, .int .i64 (p.1 : Int)])) ∨
    (p.1 = 0 ∧ ∃ g' b' q, q ≤ 300 ∧ w.heap.size ≤ g' ∧ w.heap.size ≤ b' ∧ e = .returned (.tuple #[.pointer (some ⟨g', 0, none⟩), .int .i64 0]) ∧ Img w' g' b' q p.2))

theorem enter_read (args : Array Value) (w : World) (R : Ending → World → Prop) (c : Code) (hb : Tryz.f47.body = some c)
    (h : c.wp Tryz.prog (bodyPostM Fence.wide 3 Tryz.prog Tryz.f47 R) { tmps := args ++ Array.replicate (Tryz.f47.ntmps - args.size) undef, defers := [] } w) : Calls Tryz.prog 47 args w R :=
  (callsIn_wide (n := 3)).1 (callsIn_of_wp_marks Tryz.func47 hb trivial (wpIn_wide.2 h) rfl)

theorem save_grown {w w' : World} {g : Nat} (h : w.grownBy w' (some g)) : Save [g] w w' := ⟨h.os, h.tape, h.output, h.size, fun k hk hx => h.block k hk (by intro e; injection e with e; exact hx (by simp [e]))⟩

theorem rdSet_err_nil {l : List Nat} {m E : Nat} {M : List Rn} {e : Nat} {rest : List Nat} (_ : rdSet 0 l m = (E, M, e, rest)) (hE : E ≠ 0) : ((E : Int) != 0) = true := by
  simp only [bne_iff_ne, ne_eq]
  omega

theorem rByt_len (E : Nat) (l : List Nat) (most : Nat) : (rByt E l most).1.length ≤ most := by
  unfold rByt
  split
  · simp
  · split
    · simp
    · simp only [List.length_take]
      have := rNum_le E l most
      omega

theorem Pos.len {M : List Rn} (h : Pos M) (ht : ∀ r ∈ M, r.t ≤ ((256 : Nat) : Int)) : M.length ≤ 128 := by
  have := canon_len (a := -1) (hi := 256) h (fun r hr => ht r hr) (by omega)
  omega

theorem canon_f {a : Int} {M : List Rn} (h : Canon a M) : ∀ r ∈ M, a < r.f ∧ r.f < r.t := by
  induction M generalizing a with
  | nil => intro r hr; cases hr
  | cons q M ih =>
    intro r hr
    rcases List.mem_cons.1 hr with rfl | hr
    · exact ⟨h.1, h.2.1⟩
    · have := ih h.2.2 r hr
      have := h.1
      have := h.2.1
      omega

theorem Pos.ok {M : List Rn} (h : Pos M) (ht : ∀ r ∈ M, r.t ≤ ((256 : Nat) : Int)) : ∀ r ∈ M, r.ok := fun r hr => by
  have h1 := canon_f h r hr
  have h2 := ht r hr
  exact ⟨by omega, by omega, by omega, by omega⟩

theorem Pos.nums {M : List Rn} (h : Pos M) (ht : ∀ r ∈ M, r.t ≤ ((256 : Nat) : Int)) : ∀ x ∈ numsR M, 0 ≤ x ∧ x < 256 := fun x hx => by
  obtain ⟨r, hr, h1, h2⟩ := mem_numsR.1 hx
  have := canon_f h r hr
  have := ht r hr
  omega

theorem Pos.numsLen {M : List Rn} (h : Pos M) (ht : ∀ r ∈ M, r.t ≤ ((256 : Nat) : Int)) : (numsR M).length ≤ 256 := by
  have := List.Nodup.length_le_of_subset (l₂ := (List.range 256).map fun k : Nat => (k : Int)) ((numsR_sorted h).imp (fun {a b} hab => by omega)) (fun x hx => by
    have := h.nums ht x hx
    simp only [List.mem_map, List.mem_range]
    exact ⟨x.toNat, by omega, by omega⟩)
  simpa using this

/-- A block out of the midst of a row. -/
theorem run_load_blk_at {w : World} {b o : Nat} {l : List Nat} (hr : Rd w (some ⟨b, o, none⟩) 32 l) :
    (Instr.loadAt 135 (.pointer (some ⟨b, o, none⟩))).run Tryz.prog w = .ok (.agg (cB l).toArray) w := by
  simp only [Instr.loadAt, Instr.sureAddr, Sem.run_bind, Sem.run_pure, Result.andThen]
  have h := run_loadCells_list (P := Tryz.prog) w ⟨b, o, none⟩ (cB l) (rd_cells hr)
  rw [cB_length, hr.1] at h
  simp only [loadVar, Tryz.isAgg135, Tryz.sizeOf135, Sem.run_bind, Result.andThen, if_true, h, Sem.run_pure]

theorem wpStill_load_blk_at {w : World} {ops : Array Oper} {rest : List Oper} {o : Oper} {a : Act} {Q : Act → Prop} (hw : Region.wanted o (yielded ops a.tmps) = true) (p : Operand) (hop : o.op = Op.load 135 p)
    (b off : Nat) (l : List Nat) (hp : a.eval p = .pointer (some ⟨b, off, none⟩)) (hr : Rd w (some ⟨b, off, none⟩) 32 l)
    (h : wpStill Tryz.prog ops w Q rest (a.put o.dst (.agg (cB l).toArray))) : wpStill Tryz.prog ops w Q (o :: rest) a :=
  wpStill_val hw _ (by simp only [execOp, hop, hp, Sem.run_bind, run_load_blk_at hr, Result.andThen, Sem.run_pure]) h

theorem run_arrayAt (a : Option Addr) (c : Nat) (W : World) : (Instr.arrayAt 135 (.slice a 32 c)).run Tryz.prog W = .ok (.pointer a) W := by
  simp [Instr.arrayAt, run_underlying Tryz.underlying135, Result.andThen]

/-- What the loop of Read keeps. -/
structure IRdI (w1 w4 : World) (gi bi g8 g9 nl : Nat) (rest : List Nat) (pre : List Int) (W : World) : Prop where
  img : Img W gi bi pre.length (fillN pre rest holes)
  lft : ∃ la lc, W.heap[g8]? = some (.cells #[.slice la (nl - 32 * pre.length) lc] 40 (0, 0)) ∧ nl - 32 * pre.length ≤ lc ∧ ∀ W', Below w1.heap.size w1 W' → Rd W' la (nl - 32 * pre.length) (rest.drop (32 * pre.length))
  ptr : W.heap[g9]? = some (.cells #[.pointer (some ⟨gi, 0, none⟩)] 55 (0, 0))
  bel : Below w4.heap.size w4 W

set_option maxHeartbeats 4000000 in
set_option maxRecDepth 100000 in
theorem imgReadHi_any (w : World) (g B : Nat) (l : List Nat) (h : RdrHi w 150 g 0 l B) (hB : B ≤ w.heap.size) (hlb : ∀ y ∈ l, y < 256) :
    Calls Tryz.prog 47 #[.pointer (some ⟨g, 0, none⟩)] w fun e w' => RdPost g w (imgRd l) e w' ∧ RdrHi w' 150 g (rByt 0 l 9216).2.1 (rByt 0 l 9216).2.2 B := by
  have hmf : ∀ (fn : Fn) (first cap : Array Value) (w : World), (Instr.makeFunc fn first cap).run Tryz.prog w = .ok (.func fn first cap) w := fun _ _ _ _ => rfl
  have hgl : g < w.heap.size := by obtain ⟨a, n, c, hg, _⟩ := h; exact lt_of_block hg
  have HBy := Lib.hid (bytesHi_any w g 0 l 9216 9216 B (.inl rfl) (by omega) h)
  obtain ⟨⟨bb, E1, l1⟩, hrb⟩ : ∃ p, p = rByt 0 l 9216 := ⟨_, rfl⟩
  rw [← hrb] at HBy
  dsimp only at HBy
  have HRB := Lib.hid hrb.symm
  have HGl := Lib.hid hgl
  have HLb := Lib.hid hlb
  obtain ⟨PR, hPR⟩ : ∃ PR, PR = imgRd l := ⟨_, rfl⟩
  rw [← hPR, ← hrb]
  dsimp only
  have HPR := Lib.hid hPR
  clear h hrb hgl hlb hPR
  refine enter_read _ w _ _ rfl ?_
  simp only [Tryz.ntmps47, List.size_toArray, List.length_cons, List.length_nil, Nat.reduceAdd, Nat.reduceSub, Array.replicate_succ, Array.replicate_zero, List.push_toArray, List.append_toArray, List.nil_append, List.cons_append]
  go_wp2_with fail
  refine HBy.out.mono ?_
  rintro e w1 ⟨a, n, c, rfl, hnc, hr1, hrd1, hg1⟩
  have HR1 := Lib.hid hr1
  have HF := Lib.hid (failed_any w1 g E1 l1 hrd1.rdr)
  have HS1 := Lib.hid (save_grown hg1)
  have HNc := Lib.hid hnc
  have HRd1 : Hid (∀ W, Below w1.heap.size w1 W → RdrHi W 150 g E1 l1 B) := Lib.hid fun W hW => hrd1.below (hW.mono (Nat.le_trans hB (save_grown hg1).size))
  clear hr1 hrd1 hg1 hnc HBy
  go_wp2_with fail
  refine HF.out.mono ?_
  rintro e w2 ⟨rfl, rfl⟩
  clear HF
  by_cases hE1 : E1 = 0
  · subst hE1
    have HBb : Hid (∀ y ∈ bb, y < 256) := Lib.hid HR1.out.2.1
    have HNl : Hid (bb.length = n) := Lib.hid HR1.out.1
    have hn : n ≤ 9216 := by
      have h1 := rByt_len 0 l 9216
      rw [HRB.out, HNl.out] at h1
      exact h1
    have HOp := Lib.hid (open_any a n c bb w1 HR1.out (by omega))
    go_wp2_with fail
    refine HOp.out.mono ?_
    rintro e w3 ⟨g2, rfl, hg2, hrd3, hb3⟩
    have HRe := Lib.hid (read_any w3 g2 0 bb 256 256 (by omega) (by omega) hrd3)
    obtain ⟨⟨E2, M, e2, rest⟩, hrs⟩ : ∃ p, p = rdSet 0 bb 256 := ⟨_, rfl⟩
    rw [← hrs] at HRe
    dsimp only at HRe
    have HRs := Lib.hid hrs.symm
    have HB3 := Lib.hid hb3
    have HG2 := Lib.hid hg2
    clear hg2 hrd3 hb3 hrs HOp
    go_wp2_with fail
    refine HRe.out.mono ?_
    rintro e w4 ⟨v4, rfl, ho4, _, hg4⟩
    have HO4 := Lib.hid ho4
    have HB14 : Hid (Below w1.heap.size w1 w4) := Lib.hid (HB3.out.grown hg4 HB3.out.size (fun k hk => by injection hk with hk; have := HG2.out; omega))
    have HS14 : Hid (Save [g] w w4) := Lib.hid (HS1.out.trans (Save.of_below HB14.out [g]))
    have HS4 : Hid (w.heap.size ≤ w1.heap.size ∧ w1.heap.size ≤ w3.heap.size) := Lib.hid ⟨HS1.out.size, HB3.out.size⟩
    clear ho4 hg4 HRe
    by_cases hE2 : E2 = 0
    · subst hE2
      obtain ⟨hbb, hpos, hte, hrb⟩ := rdSet_back HBb.out HRs.out
      have HPos := Lib.hid hpos
      have HTe := Lib.hid hte
      have HBB := Lib.hid hbb
      have HRb := Lib.hid hrb
      obtain ⟨sa, sc, rfl, hr4, _, _⟩ := HO4.out.rd
      obtain ⟨ml, hml⟩ : ∃ ml, ml = M.length := ⟨_, rfl⟩
      rw [← hml] at hr4 ⊢
      have hml2 : ml ≤ 128 := by rw [hml]; exact hpos.len hte
      have HOk := Lib.hid (hpos.ok hte)
      have HSB := Lib.hid (setBytes_any sa ml sc M w4 hr4 (by omega) hpos (hpos.ok hte))
      have HR4 := Lib.hid hr4
      obtain ⟨kb, hkb⟩ : ∃ kb, kb = ((setNums M).flatMap vEnc).length := ⟨_, rfl⟩
      have hkn : kb ≤ n := by
        have h1 := congrArg List.length hbb
        rw [HNl.out, List.length_append] at h1
        omega
      have hsl := slice_from a n c kb .i64 hkn
      have HKb := Lib.hid hkb
      clear hbb hpos hte hrb hr4 hml hkb
      go_wp2_with fail
      refine HSB.out.mono ?_
      rintro e w5 ⟨v5, rfl, ho5, hb5⟩
      obtain ⟨va, vc, rfl, _, _⟩ := ho5.sl
      rw [← HKb.out]
      have HB5 := Lib.hid hb5
      clear ho5 hb5 HSB
      obtain ⟨g8, hg8⟩ : ∃ g8, g8 = w5.heap.size := ⟨_, rfl⟩
      go_upto_region 9 with fail
      rw [← hg8]
      obtain ⟨la, hla⟩ : ∃ la, la = cutA a c kb := ⟨_, rfl⟩
      obtain ⟨nl, hnl⟩ : ∃ nl, nl = n - kb := ⟨_, rfl⟩
      obtain ⟨lc, hlc⟩ : ∃ lc, lc = c - kb := ⟨_, rfl⟩
      rw [← hla, ← hnl, ← hlc]
      obtain ⟨w6, hw6⟩ : ∃ w6, w6 = w5.alloc (.cells #[.slice la nl lc] 40) := ⟨_, rfl⟩
      rw [← hw6]
      have HB16 : Hid (Below w1.heap.size w1 w6) := Lib.hid (by rw [hw6]; exact (HB14.out.trans (HB5.out.mono HB14.out.size)).trans ((Below.alloc0 _ _).mono (by have := HB14.out.size; have := HB5.out.size; omega)))
      have HB46 : Hid (Below w4.heap.size w4 w6) := Lib.hid (by rw [hw6]; exact HB5.out.trans ((Below.alloc0 _ _).mono HB5.out.size))
      have HV6 : Hid (w6.heap[g8]? = some (.cells #[.slice la nl lc] 40 (0, 0))) := Lib.hid (by rw [hw6, hg8]; exact heap_alloc_last _ _)
      have HS6 : Hid (w6.heap.size = g8 + 1) := Lib.hid (by rw [hw6, hg8]; simp)
      have HLr : Hid (∀ W, Below w1.heap.size w1 W → Rd W la nl rest) := Lib.hid (fun W hW => by
        have h1 := (HR1.out.later hW).cut hkn HNc.out
        rw [← hla, ← hnl] at h1
        have h2 : bb.drop kb = rest := by rw [HBB.out, HKb.out, List.drop_append_of_le_length (Nat.le_refl _), List.drop_length, List.nil_append]
        rw [h2] at h1
        exact h1)
      have HLc : Hid (nl ≤ lc) := Lib.hid (by have := HNc.out; omega)
      have HG8 : Hid (w4.heap.size ≤ g8) := Lib.hid (by rw [hg8]; exact HB5.out.size)
      have hcs : sumLen M = ((numsR M).length : Int) := sumLen_nums M
      obtain ⟨cn, hcn⟩ : ∃ cn, cn = (numsR M).length := ⟨_, rfl⟩
      rw [← hcn] at hcs
      have HCn := Lib.hid hcn
      have hcn2 : cn ≤ 256 := by rw [hcn]; exact HPos.out.numsLen HTe.out
      have HLen : Hid (∀ W, Below w6.heap.size w6 W → Calls Tryz.prog 79 #[.slice sa ml sc] W fun e w' => e = .returned (.int .i64 (cn : Int)) ∧ Below W.heap.size W w') := Lib.hid (fun W hW => by
        have h1 := setLen_any sa ml sc M W ((HR4.out.later HB46.out).later hW) (by omega) HOk.out
        rw [hcs] at h1
        exact h1)
      have HKP : Hid (∀ W, Below w6.heap.size w6 W → W.cell? ⟨g8, 0, none⟩ = some (.slice la nl lc)) := Lib.hid (fun W hW => by rw [cell_of_row W g8 0 _ _ _ ((hW.block g8 (by rw [HS6.out]; omega)).trans HV6.out)]; rfl)
      obtain ⟨p32, hp32⟩ : ∃ p32, p32 = cn * 32 := ⟨_, rfl⟩
      have hmul : IntKind.i64.wrap ((cn : Int) * 32) = (p32 : Int) := by rw [IntWalk.i64_in _ (by omega), hp32]; simp
      have HP32 := Lib.hid hp32
      have HRL : Hid (rest.length = nl) := Lib.hid (HLr.out w6 HB16.out).1
      have k6 := HKP.out w6 (Below.refl _ _)
      clear hw6 hg8 hla hnl hlc hcs hcn hp32 hsl
      refine wp_region_noPanic ?_
      by_cases hq : nl = p32
      · have hq' : ((nl : Int) != (p32 : Int)) = false := by simp [hq]
        have HQ := Lib.hid hq
        clear hq
        go_region_held3 (fun W => W.cell? ⟨g8, 0, none⟩ = some (.slice la nl lc))
          (first | exact k6 | exact HKP.out _ (Below.refl _ _).drew | exact HKP.out _ ((Below.refl _ _).drew.trans hb7) | go_keep)
          (first | (go_at_call 79; refine (HLen.out _ (by first | exact (Below.refl _ _).drew | exact Below.refl _ _)).mono ?_; rintro e w7 ⟨rfl, hb7⟩))
        refine NoPanic.normal ?_
        have HB7 : Hid (Below w6.heap.size w6 w7) := Lib.hid ((Below.refl _ _).drew.trans hb7)
        have HNw := Lib.hid (imgNew_any w7)
        clear k6 hb7 hmul hq'
        go_wp2_with fail
        refine HNw.out.mono ?_
        rintro e w8 ⟨gi, bi, rfl, hgi, hbi, himg, hb8⟩
        have HI8 := Lib.hid himg
        have HGi := Lib.hid (And.intro hgi hbi)
        have HB8 := Lib.hid hb8
        clear hgi hbi himg hb8 HNw
        obtain ⟨g9, hg9⟩ : ∃ g9, g9 = w8.heap.size := ⟨_, rfl⟩
        go_wp2_with fail
        rw [← hg9]
        obtain ⟨w9, hw9⟩ : ∃ w9, w9 = w8.alloc (.cells #[.pointer (some ⟨gi, 0, none⟩)] 55) := ⟨_, rfl⟩
        rw [← hw9]
        have HB79 : Hid (Below w7.heap.size w7 w9) := Lib.hid (by rw [hw9]; exact HB8.out.trans ((Below.alloc0 _ _).mono HB8.out.size))
        have HB69 : Hid (Below w6.heap.size w6 w9) := Lib.hid (HB7.out.trans (HB79.out.mono HB7.out.size))
        have HB19 : Hid (Below w1.heap.size w1 w9) := Lib.hid (HB16.out.trans (HB69.out.mono HB16.out.size))
        have HP9 : Hid (w9.heap[g9]? = some (.cells #[.pointer (some ⟨gi, 0, none⟩)] 55 (0, 0))) := Lib.hid (by rw [hw9, hg9]; exact heap_alloc_last _ _)
        have HI9 : Hid (Img w9 gi bi 0 holes) := Lib.hid (by rw [hw9]; exact HI8.out.later (Below.alloc0 _ _))
        have HS9 : Hid (w9.heap.size = g9 + 1) := Lib.hid (by rw [hw9, hg9]; simp)
        have HV9 : Hid (w9.heap[g8]? = some (.cells #[.slice la nl lc] 40 (0, 0))) := Lib.hid ((HB69.out.block g8 (by rw [HS6.out]; omega)).trans HV6.out)
        have HR9 := Lib.hid ((HR4.out.later HB46.out).later HB69.out)
        have HNE : Hid (g8 < w7.heap.size ∧ w7.heap.size ≤ gi ∧ w7.heap.size ≤ bi ∧ gi < g9 ∧ bi < g9 ∧ gi ≠ bi ∧ w1.heap.size ≤ w7.heap.size ∧ w1.heap.size ≤ g8) := Lib.hid ⟨by have := HB7.out.size; have := HS6.out; omega, HGi.out.1, HGi.out.2, by rw [hg9]; exact HI8.out.lt, by rw [hg9]; exact HI8.out.map.lt, HI8.out.ne, by have := HB16.out.size; have := HB7.out.size; omega, by have := HG8.out; have := HB14.out.size; omega⟩
        clear hw9 hg9 HI8 HB8 HGi
        refine (wpIn_wide (n := 3)).1 ?_
        generalize hact : (Act.mk _ []) = act
        have HB49 : Hid (Below w4.heap.size w4 w9) := Lib.hid (HB46.out.trans (HB69.out.mono HB46.out.size))
        have HS49 : Hid (w4.heap.size ≤ w9.heap.size ∧ w1.heap.size ≤ w4.heap.size) := Lib.hid ⟨HB49.out.size, HB14.out.size⟩
        refine range_all sa ml sc M (by omega) HOk.out (by rw [← hact]; rfl) rfl (IRdI w1 w4 gi bi g8 g9 nl rest) (fun _ _ _ => False)
          (fun pre W W' h hb => ?hI) (fun _ _ _ _ h _ => h) (fun pre W h => HR4.out.later h.bel)
          ⟨HI9.out, ⟨la, lc, by simpa using HV9.out, by simpa using HLc.out, by simpa using HLr.out⟩, HP9.out, HB49.out⟩
          (fun x => { tmps := (act.tmps.setIfInBounds 41 (.int .i64 x)).setIfInBounds 10 (.int .i64 x), defers := [] }) ?assign ?body ?done ?stop
        case stop => intro D c pre W _ _ h _; exact h.elim
        case hI =>
          obtain ⟨n1, n2, n3, n4, n5, n6, n7, n8⟩ := HNE.out
          have hs9 := HS9.out
          obtain ⟨la', lc', q1, q2, q3⟩ := h.lft
          have hb' : ∀ k, k < g9 + 1 → W'.heap[k]? = W.heap[k]? := fun k hk => hb.block k (by omega)
          exact ⟨⟨(hb' gi (by omega)).trans h.img.blk, h.img.map.kept (hb' bi (by omega)), h.img.ok⟩, ⟨la', lc', (hb' g8 (by omega)).trans q1, q2, q3⟩, (hb' g9 (by omega)).trans h.ptr, h.bel.trans (hb.mono HS49.out.1)⟩
        case assign =>
          intro l x W K hK
          subst hact
          simp only [List.setIfInBounds_toArray, List.set_cons_succ, List.set_cons_zero] at hK
          gi_wp2
          exact hK
        case body =>
          as_aux_lemma =>
          intro lr pre x W hI hsz hpre
          subst hact
          simp only [List.setIfInBounds_toArray, List.set_cons_succ, List.set_cons_zero]
          have hpl : pre.length + 1 ≤ cn := by
            have h1 := hpre.length_le
            rw [← HCn.out] at h1
            simpa using h1
          have hx := HPos.out.nums HTe.out x (hpre.subset (by simp))
          obtain ⟨lx, lcx, q1, q2, q3⟩ := hI.lft
          have HRW := Lib.hid (q3 W (HB14.out.trans (hI.bel.mono HS49.out.2)))
          obtain ⟨m, hm⟩ : ∃ m, m = nl - 32 * pre.length := ⟨_, rfl⟩
          rw [← hm] at q1 q2 q3 HRW
          have hm32 : 32 ≤ m := by have := HQ.out; have := HP32.out; omega
          obtain ⟨lb, lo, rfl, _⟩ := HRW.out.2.2 (by omega)
          have d9 : W.cell? ⟨g9, 0, none⟩ = some (.pointer (some ⟨gi, 0, none⟩)) := by rw [cell_of_row W g9 0 _ _ _ hI.ptr]; rfl
          have d8 : W.cell? ⟨g8, 0, none⟩ = some (.slice (some ⟨lb, lo, none⟩) m lcx) := by rw [cell_of_row W g8 0 _ _ _ q1]; rfl
          have dg := hI.img.cell
          have hs32 : ∀ W' : World, (Instr.slice 40 (.slice (some ⟨lb, lo, none⟩) m lcx) none (some (.int .i64 32)) none).run Tryz.prog W' = .ok (.slice (some ⟨lb, lo, none⟩) 32 lcx) W' := fun W' => slice_to (some ⟨lb, lo, none⟩) m lcx 32 .i64 (by omega) W'
          have hf32 : ∀ W' : World, (Instr.slice 40 (.slice (some ⟨lb, lo, none⟩) m lcx) (some (.int .i64 32)) none none).run Tryz.prog W' = .ok (.slice (cutA (some ⟨lb, lo, none⟩) lcx 32) (m - 32) (lcx - 32)) W' := fun W' => slice_from (some ⟨lb, lo, none⟩) m lcx 32 .i64 (by omega) W'
          have harr := run_arrayAt (some ⟨lb, lo, none⟩) lcx
          obtain ⟨bl, hbl⟩ : ∃ bl, bl = (rest.drop (32 * pre.length)).take 32 := ⟨_, rfl⟩
          have HRb32 : Hid (Rd W (some ⟨lb, lo, none⟩) 32 bl) := Lib.hid (by rw [hbl]; exact HRW.out.first hm32)
          have HOkB : Hid (okB bl) := Lib.hid ⟨HRb32.out.1, HRb32.out.2.1⟩
          have HI := Lib.hid hI
          have HBl := Lib.hid hbl
          have HQ3 := Lib.hid (And.intro q1 (And.intro q2 q3))
          have HM := Lib.hid hm
          have HSz := Lib.hid hsz
          have HX := Lib.hid hx
          have hkey : keyOf Tryz.prog 3 (.int .i64 x) = some (.int .i64 x) := Maps.keyOf_int_mk Tryz.underlying3 (WalkArith.wf_i64 (by omega))
          have HKey := Lib.hid hkey
          have HPl := Lib.hid hpl
          clear hI hsz hpre hx q1 q2 q3 hm hbl hkey hpl
          gi_wp2_with fail
          refine wpIn_region_still_tail 9 (by kernel_rfl) (by kernel_rfl) (by kernel_rfl) ?_
          simp only [List.take_succ_cons, List.take_zero, List.drop_succ_cons, List.drop_zero]
          change wpStill _ _ W.drew _ _ _
          obtain ⟨w10, h10⟩ : ∃ w10, w10 = W.drew := ⟨_, rfl⟩
          have e9 : w10.cell? ⟨g9, 0, none⟩ = some (.pointer (some ⟨gi, 0, none⟩)) := by rw [h10]; exact d9
          have e8 : w10.cell? ⟨g8, 0, none⟩ = some (.slice (some ⟨lb, lo, none⟩) m lcx) := by rw [h10]; exact d8
          have eg : w10.cell? ⟨gi, 0, none⟩ = some (.map (some bi)) := by rw [h10]; exact dg
          have HR10 : Hid (Rd w10 (some ⟨lb, lo, none⟩) 32 bl) := by rw [h10]; exact HRb32
          have HI10 : Hid (Img w10 gi bi pre.length (fillN pre rest holes)) := by rw [h10]; exact Lib.hid HI.out.img.drew
          have HB10 : Hid (Below W.heap.size W w10) := by rw [h10]; exact Lib.hid (Below.refl _ _).drew
          rw [← h10]
          have H10 := Lib.hid h10
          clear h10 d9 d8 dg
          repeat still_step
          refine wpStill_load_blk_at rfl (.tmp 49) rfl lb lo bl rfl HR10.out ?_
          refine wpStill_nil ?_
          change wpListIn _ _ _ _ _ _ _ W.drew
          rw [← H10.out]
          obtain ⟨Dm, hown, hA⟩ := HI10.out.map
          have HIM := Lib.hid hown.isMap
          refine wpListIn_mapUpdate_own _ rfl _ _ _ 121 rfl 3 135 keyedInt Tryz.underlying121 blkR bi pre.length Dm rfl hown (by have := HPl.out; unfold maxLen; omega) _ _ _ rfl rfl HKey.out _ [] (blkR_mk HOkB.out) ?_
          intro w11 hown11 hgr11
          have HO11 := Lib.hid (And.intro hown11 (And.intro hgr11 hA))
          have hne := HNE.out
          have hv11 : w11.heap[g8]? = some (.cells #[.slice (some ⟨lb, lo, none⟩) m lcx] 40 (0, 0)) := (hgr11.block g8 (by have := HB10.out.size; have := HSz.out; have := HS9.out; omega) (by intro e; injection e with e; omega)).trans ((HB10.out.block g8 (by have := HSz.out; have := HS9.out; omega)).trans HQ3.out.1)
          have d8 : w11.cell? ⟨g8, 0, none⟩ = some (.slice (some ⟨lb, lo, none⟩) m lcx) := by rw [cell_of_row w11 g8 0 _ _ _ hv11]; rfl
          have f8 : w11.frozen? ⟨g8, 0, none⟩ = false := by simp [World.frozen?, hv11]
          have HV11 := Lib.hid hv11
          clear hown11 hgr11 hown hA e9 e8 eg hs32 harr hv11 hne
          gi_wp2
          obtain ⟨n1, n2, n3, n4, n5, n6, n7, n8⟩ := HNE.out
          obtain ⟨hown11, hgr11, hA⟩ := HO11.out
          obtain ⟨q1, q2, q3⟩ := HQ3.out
          have hs9 := HS9.out
          have hsz := HSz.out
          have hx := HX.out
          obtain ⟨W2, hW2⟩ : ∃ W2, W2 = w11.setCell ⟨g8, 0, none⟩ (.slice (cutA (some ⟨lb, lo, none⟩) lcx 32) (m - 32) (lcx - 32)) := ⟨_, rfl⟩
          rw [← hW2]
          have hoth : ∀ k, k ≠ g8 → k ≠ bi → k < W.heap.size → W2.heap[k]? = W.heap[k]? := fun k h1 h2 h3 => by
            rw [hW2, Below.heap_setCell _ _ _ k h1]
            exact (hgr11.block k (Nat.lt_of_lt_of_le h3 HB10.out.size) (by intro e; injection e with e; exact h2 e)).trans (HB10.out.block k h3)
          have hsz2 : W.heap.size ≤ W2.heap.size := by
            have h1 := HB10.out.size
            have h2 := hgr11.size
            rw [hW2]
            simp only [World.setCell, Array.size_modify]
            omega
          have hg8 : W2.heap[g8]? = some (.cells #[.slice (cutA (some ⟨lb, lo, none⟩) lcx 32) (m - 32) (lcx - 32)] 40 (0, 0)) := by
            rw [hW2, heap_setCell_same w11 g8 0 _ _ _ HV11.out]
            rfl
          have hmap : W2.heap[bi]? = w11.heap[bi]? := by rw [hW2, Below.heap_setCell _ _ _ bi (by show bi ≠ g8; omega)]
          have hxn : ((x.toNat : Nat) : Int) = x := by omega
          have hfl : (fillN pre rest holes).length = 256 := HI.out.img.ok.1
          have e32 : nl - 32 * (pre ++ [x]).length = m - 32 := by rw [HM.out]; simp; omega
          refine ⟨⟨hsz2, fun k hk hkl => hoth k (by omega) (by omega) hkl⟩, ⟨?_, ⟨cutA (some ⟨lb, lo, none⟩) lcx 32, lcx - 32, ?_, by rw [e32]; omega, fun W' hW' => ?_⟩, (hoth g9 (by omega) (by omega) (by omega)).trans HI.out.ptr, ?_⟩⟩
          · rw [fillN_snoc, ← HBl.out]
            refine ⟨(hoth gi (by omega) (by omega) (by omega)).trans HI.out.img.blk, ?_, HI.out.img.ok.set _ (.inr HOkB.out)⟩
            have h1 := hA.put HIM.out (j := x.toNat) (by rw [hfl]; omega) HOkB.out.ne
            rw [hxn] at h1
            rw [List.length_append]
            obtain ⟨es, clock, hb, r⟩ := hown11
            exact ⟨_, ⟨es, clock, hmap.trans hb, r⟩, h1⟩
          · rw [e32]; exact hg8
          · rw [e32]
            have h1 := (q3 W' hW').cut (k := 32) hm32 q2
            rw [List.drop_drop] at h1
            rw [show 32 * (pre ++ [x]).length = 32 * pre.length + 32 by simp; omega]
            exact h1
          · refine HI.out.bel.trans ⟨?_, ?_, ?_, hsz2, fun k hk => ?_⟩
            · rw [hW2]; exact hgr11.os.trans HB10.out.os
            · rw [hW2]; exact hgr11.tape.trans HB10.out.tape
            · rw [hW2]; exact hgr11.output.trans HB10.out.output
            · have h4 := HG8.out
              have h5 := HS49.out
              have h6 := HI.out.bel.size
              exact hoth k (by omega) (by have := HB46.out.size; have := HB7.out.size; omega) (by omega)
        case done =>
          as_aux_lemma =>
          intro D W hD hI hdef
          subst hact
          have d9 : W.cell? ⟨g9, 0, none⟩ = some (.pointer (some ⟨gi, 0, none⟩)) := by rw [cell_of_row W g9 0 _ _ _ hI.ptr]; rfl
          have HI := Lib.hid hI
          have HD := Lib.hid (And.intro hD hdef)
          clear hI hD hdef
          go_wp2
          refine ⟨by simp, .inl ⟨_, _, rfl, run_takeDeferred HD.out.2, ?_⟩⟩
          have e := imgRd_ok HRB.out HRs.out (by rw [HRL.out, ← HCn.out]; have := HQ.out; have := HP32.out; omega)
          obtain ⟨n1, n2, n3, n4, n5, n6, n7, n8⟩ := HNE.out
          have hs9 := HS9.out
          have hDl := HD.out.1
          refine ⟨.tuple #[.pointer (some ⟨gi, 0, none⟩), .int .i64 0], by simp [results, Tryz.results47, go_sem], ⟨?_, .inr ⟨?_, gi, bi, (numsR M).length, ?_, ?_, ?_, rfl, ?_⟩⟩, ?_⟩
          · have hsb : Below w1.heap.size w1 (W.putObj D (.deferred none)) := (HB14.out.trans (HI.out.bel.mono HS49.out.2)).trans (below_put (by omega) _ _)
            exact HS1.out.trans (Save.of_below hsb [g])
          · rw [HPR.out, e]
          · have := HPos.out.numsLen HTe.out; omega
          · have := HS1.out.size; omega
          · have := HS1.out.size; omega
          · rw [HPR.out, e]
            exact ⟨(World.putObj_heap_other (by omega)).trans HI.out.img.blk, HI.out.img.map.kept (World.putObj_heap_other (by omega)), HI.out.img.ok⟩
          · have hsb : Below w1.heap.size w1 (W.putObj D (.deferred none)) := (HB14.out.trans (HI.out.bel.mono HS49.out.2)).trans (below_put (by omega) _ _)
            exact HRd1.out _ hsb
      · have hq' : ((nl : Int) != (p32 : Int)) = true := by simp; omega
        have HQ := Lib.hid hq
        clear hq
        go_region_held3 (fun W => W.cell? ⟨g8, 0, none⟩ = some (.slice la nl lc))
          (first | exact k6 | exact HKP.out _ (Below.refl _ _).drew | exact HKP.out _ ((Below.refl _ _).drew.trans hb7) | go_keep)
          (first | (go_at_call 79; refine (HLen.out _ (by first | exact (Below.refl _ _).drew | exact Below.refl _ _)).mono ?_; rintro e w7 ⟨rfl, hb7⟩))
        refine NoPanic.normal ?_
        go_wp2_with fail
        have e := imgRd_form HRB.out HRs.out (by rw [HRL.out, ← HCn.out]; have := HQ.out; have := HP32.out; omega)
        refine ⟨.tuple #[.pointer none, .int .i64 3], by simp [results, Tryz.results47, go_sem], ⟨?_, .inl ⟨?_, ?_⟩⟩, ?_⟩
        · have hb8 : Below w6.heap.size w6 w7 := (Below.refl _ _).drew.trans hb7
          exact (HS1.out.trans (Save.of_below HB16.out [g])).trans (Save.of_below hb8 [g])
        · rw [HPR.out, e]; simp
        · rw [HPR.out, e]; rfl
        · have hb8 : Below w6.heap.size w6 w7 := (Below.refl _ _).drew.trans hb7
          exact HRd1.out _ (HB16.out.trans (hb8.mono HB16.out.size))
    · have hE' : ((E2 : Int) != 0) = true := by simp; omega
      go_wp2_with fail
      have e := imgRd_set HRB.out HRs.out hE2
      refine ⟨.tuple #[.pointer none, .int .i64 (E2 : Int)], by simp [results, Tryz.results47, go_sem], ⟨HS14.out, .inl ⟨?_, ?_⟩⟩, HRd1.out _ HB14.out⟩
      · rw [HPR.out, e]; exact hE2
      · rw [HPR.out, e]
  · have hE' : ((E1 : Int) != 0) = true := by simp; omega
    go_wp2_with fail
    have e := imgRd_err HRB.out hE1
    refine ⟨.tuple #[.pointer none, .int .i64 (E1 : Int)], by simp [results, Tryz.results47, go_sem], ⟨HS1.out, .inl ⟨?_, ?_⟩⟩, HRd1.out _ (Below.refl _ _)⟩
    · rw [HPR.out, e]; exact hE1
    · rw [HPR.out, e]

theorem imgRead_any (w : World) (g : Nat) (l : List Nat) (h : Rdr w 150 g 0 l) (hlb : ∀ y ∈ l, y < 256) :
    Calls Tryz.prog 47 #[.pointer (some ⟨g, 0, none⟩)] w fun e w' => RdPost g w (imgRd l) e w' ∧ Rdr w' 150 g (rByt 0 l 9216).2.1 (rByt 0 l 9216).2.2 :=
  (imgReadHi_any w g _ l h.hi (Nat.le_refl _) hlb).mono fun _ _ h => ⟨h.1, h.2.rdr⟩

end Go.Proofs.YtaijjogjohbheaaGreat

/- The bytes of an image are read as that image: plainly. -/

namespace Go.Proofs.YtaijjogjohbheaaGreat
open Go.RowKit
set_option maxRecDepth 100000

theorem rdSet_putR {m : Nat} (hm : m ≤ 1099511627776) {M : List Rn} (rest : List Nat) (hM : Pos M) (hl : M.length ≤ m) (hb : ∀ r ∈ M, r.t ≤ m) : rdSet 0 ((setNums M).flatMap vEnc ++ rest) m = (0, M, 0, rest) := by
  unfold setNums
  rw [List.flatMap_cons, List.append_assoc, rdSet_ok (rNum_put' M.length _ m (by omega) hl)]
  have := rdRuns_put m hm rest M 0 [] hb (by have h : Canon (-1) M := hM; simpa using h) (by simp)
  simpa using this

theorem flat32 {F : List (List Nat)} (hF : okF F) (pre : List Int) (h : ∀ x ∈ pre, fAt F x ≠ []) : (pre.flatMap (fAt F)).length = 32 * pre.length := by
  induction pre with
  | nil => rfl
  | cons x r ih =>
    rw [List.flatMap_cons, List.length_append, ih fun y hy => h y (by simp [hy]), List.length_cons]
    rcases hF.at_ x with h0 | h0
    · exact absurd h0 (h x (by simp))
    · rw [h0.1]; omega

theorem fill_back {F : List (List Nat)} (hF : okF F) : ∀ (pre : List Int) (G : List (List Nat)), G.length = 256 → (∀ x ∈ pre, fAt F x ≠ []) → pre.Nodup →
    (fillN pre (pre.flatMap (fAt F)) G).length = 256 ∧ ∀ i : Int, fAt (fillN pre (pre.flatMap (fAt F)) G) i = if i ∈ pre then fAt F i else fAt G i
  | [], G, hG, _, _ => ⟨hG, fun i => by simp [fillN]⟩
  | x :: r, G, hG, h, hn => by
    have hx := fAt_in hF.1 (h x (by simp))
    have hB : okB (fAt F x) := by
      rcases hF.at_ x with h0 | h0
      · exact absurd h0 (h x (by simp))
      · exact h0
    have e1 : ((x :: r).flatMap (fAt F)).take 32 = fAt F x := by
      rw [List.flatMap_cons, List.take_append_of_le_length (by rw [hB.1]; omega), List.take_of_length_le (by rw [hB.1]; omega)]
    have e2 : ((x :: r).flatMap (fAt F)).drop 32 = r.flatMap (fAt F) := by
      rw [List.flatMap_cons, List.drop_append_of_le_length (by rw [hB.1]; omega), List.drop_of_length_le (by rw [hB.1]; omega), List.nil_append]
    rw [fillN, e1, e2]
    obtain ⟨k1, k2⟩ := fill_back hF r (G.set x.toNat (fAt F x)) (by rw [List.length_set]; exact hG) (fun y hy => h y (by simp [hy])) (List.nodup_cons.1 hn).2
    refine ⟨k1, fun i => ?_⟩
    rw [k2 i, fAt_set G x.toNat _ (by omega) i, show ((x.toNat : Nat) : Int) = x by omega]
    by_cases h1 : i ∈ r
    · rw [if_pos h1, if_pos (by simp [h1])]
    · rw [if_neg h1]
      by_cases h2 : i = x
      · rw [if_pos h2, if_pos (by simp [h2]), h2]
      · rw [if_neg h2, if_neg (by simp [h1, h2])]

theorem encs2_len (L : List Nat) (h : ∀ y ∈ L, y < 16384) : (L.flatMap vEnc).length ≤ 2 * L.length := by
  induction L with
  | nil => simp
  | cons x r ih =>
    have h1 := vEnc_len 1 x (h x (by simp))
    have h2 := ih fun y hy => h y (by simp [hy])
    rw [List.flatMap_cons, List.length_append, List.length_cons]
    omega

theorem bytesF_len9 {F : List (List Nat)} {M : List Rn} (hF : okF F) (h : SetF F M) : (bytesF F M).length ≤ 9216 := by
  have h1 := h.len hF.1
  have h2 := encs2_len (setNums M) (by
    intro y hy
    simp only [setNums, List.mem_cons] at hy
    rcases hy with rfl | hy
    · omega
    · have := numsGo_le M 0 (by omega) (h.ends hF.1) y hy
      omega)
  have h4 : (setNums M).length = 1 + 2 * M.length := by simp [setNums, numsGo_length]; omega
  have h5 := flat_len hF (numsR M)
  have h6 := numsR_lt h hF.1
  unfold bytesF
  rw [List.length_append]
  omega

theorem rByt_put (B : List Nat) (hB : B.length ≤ 9216) : rByt 0 (tEnc B) 9216 = (B, 0, []) := by
  have h1 := rNum_put' B.length B 9216 (by omega) hB
  unfold rByt tEnc
  rw [h1]
  simp

/-- An image's own bytes are read as it. -/
theorem imgRd_put {F : List (List Nat)} {M : List Rn} (hF : okF F) (h : SetF F M) : imgRd (tEnc (bytesF F M)) = (0, F) := by
  have hn : ∀ x ∈ numsR M, fAt F x ≠ [] := fun x hx => (h.mem x).1 (mem_numsR.1 hx)
  have hd : (numsR M).Nodup := (numsR_sorted (h.pos hF.1)).imp (fun {a b} hab => by omega)
  have hs : rdSet 0 (bytesF F M) 256 = (0, M, 0, (numsR M).flatMap (fAt F)) := rdSet_putR (by omega) _ (h.pos hF.1) (by have := h.len hF.1; omega) (fun r hr => by have := h.ends hF.1 r hr; omega)
  rw [imgRd_ok (rByt_put _ (bytesF_len9 hF h)) hs (flat32 hF _ hn)]
  obtain ⟨k1, k2⟩ := fill_back hF (numsR M) holes List.length_replicate hn hd
  rw [F_ext k1 hF.1 fun i => ?_]
  rw [k2 i, fAt_holes]
  by_cases h1 : i ∈ numsR M
  · rw [if_pos h1]
  · rw [if_neg h1]
    apply Classical.byContradiction
    intro h2
    exact h1 (mem_numsR.2 ((h.mem i).2 fun e => h2 e.symm))

end Go.Proofs.YtaijjogjohbheaaGreat

/- A store's bytes, and what it is: plain lists. -/
namespace Go.Proofs.YtaijjogjohbheaaGreat
open Go.RowKit
set_option maxRecDepth 100000
set_option linter.unusedSimpArgs false

theorem up_ex (lo : Int) (P : Nat → Bool) : ∀ i, ∃ L, Up lo P i L
  | 0 => ⟨[], up_start lo P⟩
  | i + 1 => by
    obtain ⟨L, h⟩ := up_ex lo P i
    by_cases hp : P i = true
    · by_cases ha : i = 0 ∨ P (i - 1) = false
      · exact ⟨_, h.fresh hp ha⟩
      · obtain ⟨L0, r, rfl, ht⟩ := h.last (by omega) (by
          cases hq : P (i - 1) with
          | true => rfl
          | false => exact absurd (.inr hq) ha)
        obtain ⟨f, t⟩ := r
        exact ⟨_, h.grow hp ht⟩
    · exact ⟨_, h.skip (by simpa using hp)⟩

theorem setF_ex {F : List (List Nat)} (hF : F.length = 256) : ∃ M, SetF F M := by
  obtain ⟨M, h⟩ := up_ex 0 (hasF F) 256
  exact ⟨M, SetF.of_up hF h⟩

open Classical in
/-- An image's bytes. -/
noncomputable def iEnc (F : List (List Nat)) : List Nat := if h : ∃ M, SetF F M then tEnc (bytesF F h.choose) else []

theorem iEnc_eq {F : List (List Nat)} {M : List Rn} (h : SetF F M) : iEnc F = tEnc (bytesF F M) := by
  have hx : ∃ M, SetF F M := ⟨M, h⟩
  unfold iEnc
  rw [dif_pos hx, hx.choose_spec.unique h]

theorem tEnc_len9 {F : List (List Nat)} {M : List Rn} (hF : okF F) (h : SetF F M) : (tEnc (bytesF F M)).length ≤ 9300 := by
  have h1 := bytesF_len9 hF h
  have h2 := vEnc_len 1 (bytesF F M).length (by omega)
  unfold tEnc
  rw [List.length_append]
  omega

theorem iEnc_len {F : List (List Nat)} (hF : okF F) : (iEnc F).length ≤ 9300 := by
  obtain ⟨M, h⟩ := setF_ex hF.1
  rw [iEnc_eq h]
  exact tEnc_len9 hF h

theorem iEnc_byte {F : List (List Nat)} (hF : okF F) : ∀ y ∈ iEnc F, y < 256 := by
  obtain ⟨M, h⟩ := setF_ex hF.1
  rw [iEnc_eq h]
  intro y hy
  unfold tEnc bytesF at hy
  simp only [List.mem_append, List.mem_flatMap] at hy
  rcases hy with hy | ⟨x, _, hy⟩ | ⟨x, _, hy⟩
  · exact vEnc_byte _ y hy
  · exact vEnc_byte _ y hy
  · rcases hF.at_ x with h0 | h0
    · rw [h0] at hy; cases hy
    · exact h0.2 y hy

theorem rByt_putR (B r : List Nat) (hB : B.length ≤ 9216) : rByt 0 (tEnc B ++ r) 9216 = (B, 0, r) := by
  have h1 := rNum_put' B.length (B ++ r) 9216 (by omega) hB
  unfold rByt tEnc
  rw [List.append_assoc, h1]
  simp

/-- An image's own bytes are read as it, whatever stands behind them. -/
theorem iEnc_read {F : List (List Nat)} (hF : okF F) (r : List Nat) : imgRd (iEnc F ++ r) = (0, F) ∧ (rByt 0 (iEnc F ++ r) 9216).2.1 = 0 ∧ (rByt 0 (iEnc F ++ r) 9216).2.2 = r := by
  obtain ⟨M, h⟩ := setF_ex hF.1
  have h1 := rByt_putR (bytesF F M) r (bytesF_len9 hF h)
  have h2 : rByt 0 (tEnc (bytesF F M)) 9216 = (bytesF F M, 0, []) := rByt_put _ (bytesF_len9 hF h)
  rw [iEnc_eq h, h1]
  refine ⟨?_, rfl, rfl⟩
  have h3 := imgRd_put hF h
  unfold imgRd at h3 ⊢
  rw [h1]
  rw [h2] at h3
  exact h3

/-- The snapshots of a list, with numbers from i on. -/
def snapsF (i : Nat) : List (Option (List (List Nat))) → List (Nat × List (List Nat))
  | [] => []
  | none :: r => snapsF (i + 1) r
  | some F :: r => (i, F) :: snapsF (i + 1) r

/-- Each snapshot's bytes, one behind the other. -/
noncomputable def xEnc (X : List (Nat × List (List Nat))) : List Nat := X.flatMap fun p => vEnc p.1 ++ iEnc p.2

/-- A store's bytes. -/
noncomputable def sEnc (F : List (List Nat)) (last : Nat) (X : List (Nat × List (List Nat))) : List Nat := iEnc F ++ (vEnc last ++ (vEnc X.length ++ xEnc X))

/-- What a store may be. -/
structure OkS (F : List (List Nat)) (last : Nat) (X : List (Nat × List (List Nat))) : Prop where
  img : okF F
  ims : ∀ p ∈ X, okF p.2 ∧ 1 ≤ p.1 ∧ p.1 ≤ last
  inc : X.Pairwise fun p q => p.1 < q.1
  few : X.length ≤ 32
  last : last ≤ 10000

theorem xEnc_append (X Y : List (Nat × List (List Nat))) : xEnc (X ++ Y) = xEnc X ++ xEnc Y := by simp [xEnc]

theorem xEnc_one (p : Nat × List (List Nat)) : xEnc [p] = vEnc p.1 ++ iEnc p.2 := by simp [xEnc]

theorem xEnc_cons (p : Nat × List (List Nat)) (X : List (Nat × List (List Nat))) : xEnc (p :: X) = vEnc p.1 ++ (iEnc p.2 ++ xEnc X) := by simp [xEnc]

theorem xEnc_len {X : List (Nat × List (List Nat))} {last : Nat} (h : ∀ p ∈ X, okF p.2 ∧ 1 ≤ p.1 ∧ p.1 ≤ last) (hl : last ≤ 10000) : (xEnc X).length ≤ 9400 * X.length := by
  induction X with
  | nil => simp [xEnc]
  | cons p X ih =>
    have h1 := ih fun q hq => h q (by simp [hq])
    have h2 := iEnc_len (h p (by simp)).1
    have h3 := vEnc_len 1 p.1 (by have := (h p (by simp)).2.2; omega)
    rw [xEnc_cons, List.length_append, List.length_append, List.length_cons]
    omega

theorem xEnc_byte {X : List (Nat × List (List Nat))} {last : Nat} (h : ∀ p ∈ X, okF p.2 ∧ 1 ≤ p.1 ∧ p.1 ≤ last) : ∀ y ∈ xEnc X, y < 256 := by
  intro y hy
  simp only [xEnc, List.mem_flatMap, List.mem_append] at hy
  obtain ⟨p, hp, hy | hy⟩ := hy
  · exact vEnc_byte _ y hy
  · exact iEnc_byte (h p hp).1 y hy

theorem OkS.len {F : List (List Nat)} {last : Nat} {X : List (Nat × List (List Nat))} (h : OkS F last X) : (sEnc F last X).length ≤ 400000 := by
  have h1 := iEnc_len h.img
  have h2 := vEnc_len 1 last (by have := h.last; omega)
  have h3 := vEnc_len 1 X.length (by have := h.few; omega)
  have h4 := xEnc_len h.ims h.last
  have h5 := h.few
  unfold sEnc
  simp only [List.length_append]
  omega

theorem OkS.byte {F : List (List Nat)} {last : Nat} {X : List (Nat × List (List Nat))} (h : OkS F last X) : ∀ y ∈ sEnc F last X, y < 256 := by
  intro y hy
  unfold sEnc at hy
  simp only [List.mem_append] at hy
  rcases hy with hy | hy | hy | hy
  · exact iEnc_byte h.img y hy
  · exact vEnc_byte _ y hy
  · exact vEnc_byte _ y hy
  · exact xEnc_byte h.ims y hy

theorem snapsF_append (i : Nat) (A B : List (Option (List (List Nat)))) : snapsF i (A ++ B) = snapsF i A ++ snapsF (i + A.length) B := by
  induction A generalizing i with
  | nil => simp [snapsF]
  | cons x A ih =>
    have e : i + 1 + A.length = i + (A.length + 1) := by omega
    cases x with
    | none => simp only [List.cons_append, snapsF, ih, List.length_cons, e]
    | some F => simp only [List.cons_append, snapsF, ih, List.length_cons, e]

theorem snapsF_ids (i : Nat) (A : List (Option (List (List Nat)))) : ∀ p ∈ snapsF i A, i ≤ p.1 ∧ p.1 < i + A.length := by
  induction A generalizing i with
  | nil => simp [snapsF]
  | cons x A ih =>
    intro p hp
    cases x with
    | none =>
      have := ih (i + 1) p (by simpa [snapsF] using hp)
      simp only [List.length_cons]
      omega
    | some F =>
      simp only [snapsF, List.mem_cons] at hp
      rcases hp with rfl | hp
      · simp
      · have := ih (i + 1) p hp
        simp only [List.length_cons]
        omega

theorem snapsF_inc (i : Nat) (A : List (Option (List (List Nat)))) : (snapsF i A).Pairwise fun p q => p.1 < q.1 := by
  induction A generalizing i with
  | nil => simp [snapsF]
  | cons x A ih =>
    cases x with
    | none => simpa [snapsF] using ih (i + 1)
    | some F =>
      simp only [snapsF, List.pairwise_cons]
      exact ⟨fun q hq => by have := snapsF_ids (i + 1) A q hq; omega, ih (i + 1)⟩

theorem mem_snapsF (i : Nat) (A : List (Option (List (List Nat)))) (j : Nat) (F : List (List Nat)) : (i + j, F) ∈ snapsF i A ↔ A.getD j none = some F := by
  induction A generalizing i j with
  | nil => simp [snapsF]
  | cons x A ih =>
    cases j with
    | zero =>
      cases x with
      | none =>
        simp only [snapsF, List.getD_cons_zero, Nat.add_zero]
        constructor
        · intro h; have := (snapsF_ids _ _ _ h).1; simp only at this; omega
        · intro h; cases h
      | some G =>
        simp only [snapsF, List.getD_cons_zero, Nat.add_zero, List.mem_cons, Prod.mk.injEq, true_and, Option.some.injEq]
        constructor
        · rintro (h | h)
          · exact h.symm
          · have := (snapsF_ids _ _ _ h).1; simp only at this; omega
        · intro h; exact .inl h.symm
    | succ j =>
      have e : i + (j + 1) = i + 1 + j := by omega
      cases x with
      | none => rw [List.getD_cons_succ, e]; exact ih (i + 1) j
      | some G =>
        simp only [snapsF, List.getD_cons_succ, e, List.mem_cons, Prod.mk.injEq, ih]
        constructor
        · rintro (h | h)
          · omega
          · exact h
        · intro h; exact .inr h

theorem snapsF_set_none (i : Nat) (A : List (Option (List (List Nat)))) (j : Nat) (hj : j < A.length) : snapsF i (A.set j none) = (snapsF i A).filter fun p => p.1 != i + j := by
  induction A generalizing i j with
  | nil => simp at hj
  | cons x A ih =>
    have hall : ∀ p ∈ snapsF (i + 1) A, (p.1 != i) = true := fun p hp => by have := (snapsF_ids _ _ p hp).1; simp; omega
    cases j with
    | zero =>
      cases x with
      | none => simp only [List.set_cons_zero, snapsF, Nat.add_zero]; exact (List.filter_eq_self.2 hall).symm
      | some F =>
        simp only [List.set_cons_zero, snapsF, Nat.add_zero, List.filter_cons]
        rw [if_neg (by simp)]
        exact (List.filter_eq_self.2 hall).symm
    | succ j =>
      have e : i + (j + 1) = i + 1 + j := by omega
      have hj' : j < A.length := by simpa using hj
      cases x with
      | none => simp only [List.set_cons_succ, snapsF, e, ih _ _ hj']
      | some F =>
        simp only [List.set_cons_succ, snapsF, e, ih _ _ hj', List.filter_cons]
        rw [if_pos (by simp; omega)]

/-- A snapshot taken out, where it stands. -/
theorem filter_erase {X : List (Nat × List (List Nat))} (h : X.Pairwise fun p q => p.1 < q.1) {i : Nat} (hi : i < X.length) : (X.filter fun p => p.1 != (X.getD i default).1) = X.eraseIdx i := by
  induction X generalizing i with
  | nil => simp at hi
  | cons x X ih =>
    rw [List.pairwise_cons] at h
    cases i with
    | zero =>
      simp only [List.getD_cons_zero, List.filter_cons, List.eraseIdx_cons_zero]
      rw [if_neg (by simp)]
      exact List.filter_eq_self.2 fun p hp => by have := h.1 p hp; simp; omega
    | succ i =>
      have hi' : i < X.length := by simpa using hi
      have hm : X.getD i default ∈ X := by
        have : X.getD i default = X[i] := by simp [List.getD, hi']
        rw [this]; exact List.getElem_mem hi'
      simp only [List.getD_cons_succ, List.filter_cons, List.eraseIdx_cons_succ]
      rw [if_pos (bne_iff_ne.2 (by have := h.1 _ hm; omega)), ih h.2 hi']

end Go.Proofs.YtaijjogjohbheaaGreat
