/- StreamReads, run: what is read of any bytes, and the image that comes, over any world. -/
import Derived.Test.YtaijldcfoaeogaaGreatGSmBackToSmLives
import Derived.Test.YtaijldcfoaeogaaGreatSmRefWhole
import Derived.Test.YtaijldcfoaeogaaGreatSmRefApply
import Derived.Test.YtaijldcfoaeogaaGreatGILikeToReady
import Derived.Test.YtaijldcfoaeogaaGreatGRcLawToSmWhole
import Derived.Test.YtaijldcfoaeogaaGreatGRrRowToRrHead
import Derived.Test.YtaijldcfoaeogaaGreatGKeepToINew
import Derived.Test.YtaijldcfoaeogaaGreatReadyC
import Derived.BigQuiet
namespace Go.Proofs.YtaijldcfoaeogaaGreat
open Go.RowKit
set_option maxRecDepth 100000
set_option linter.unusedSimpArgs false

theorem whl_none (b : List Nat) : ∀ (f : Nat) (l : List Nat) (acc : List Rec), (whl b f l acc).2 ≠ 0 → (whl b f l acc).1 = [] := by
  intro f
  induction f with
  | zero => intro l acc _; rfl
  | succ f ih =>
    intro l acc h
    unfold whl at h ⊢
    split
    · rfl
    · rename_i h1
      rw [if_neg h1] at h
      split
      · rfl
      · rename_i h2
        rw [if_neg h2] at h
        split
        · rename_i h3
          rw [if_pos h3] at h
          exact ih _ _ h
        · rename_i h3
          rw [if_neg h3] at h
          split
          · rfl
          · rename_i h4
            rw [if_neg h4] at h
            split
            · rfl
            · rename_i h5
              rw [if_neg h5] at h
              exact absurd rfl h

theorem strm_short {b : List Nat} (hb : ∀ z ∈ b, z < 256) : (strm b).1.length ≤ b.length := by
  by_cases h : (strm b).2 = 0
  · exact (strm_rest hb h).2
  · have : (strm b).1 = [] := whl_none b _ b [] h
    rw [this]
    simp

theorem Mp.far {w : World} {b n gc : Nat} {F : List (List Nat)} {cur : Array Value} {t : TypeId} {z : Nat × Nat} (h : Mp w b n F) (hc : w.heap[gc]? = some (.cells cur t z)) : b ≠ gc := by
  rintro rfl
  obtain ⟨D, ⟨es, clock, hb, _⟩, _⟩ := h
  rw [hb] at hc
  cases hc

theorem RdC.blk {w w' : World} {a : Option Addr} {n : Nat} {L : List RcC} (h : RdC w a n L) (hk : ∀ b o, a = some ⟨b, o, none⟩ → 0 < n → w'.heap[b]? = w.heap[b]?) (he : ∀ e ∈ L, ∀ b o, e.a = some ⟨b, o, none⟩ → 0 < e.m → w'.heap[b]? = w.heap[b]?) : RdC w' a n L := by
  refine ⟨h.len, fun e hm => (h.each e hm).blk (he e hm), fun hn => ?_⟩
  obtain ⟨b, o, rfl, hc⟩ := h.cells hn
  refine ⟨b, o, rfl, fun j t hj ht => ?_⟩
  rw [World.cell?_of_block (w := w) (hk b o rfl hn)]
  exact hc j t hj ht

theorem RdC.in_ {w : World} {b o n : Nat} {L : List RcC} (h : RdC w (some ⟨b, o, none⟩) n L) (hn : 0 < n) : b < w.heap.size := by
  obtain ⟨b', o', e, hc⟩ := h.cells hn
  injection e with e
  injection e with e1 e2
  subst e1
  obtain ⟨v, hv⟩ := rcL_some (L.getD 0 default) (t := 0) (by omega)
  have h1 := hc 0 0 hn (by omega)
  rw [hv] at h1
  exact World.block_lt_of_cell? w _ h1

theorem neq_head (x y : Int) (w : World) : (binOp .neq 24 (.agg #[.int .i64 x, .int .i64 y]) (.agg #[.int .i64 x, .int .i64 y])).run Tryz.prog w = .ok (.bool false) w := by
  have u3 := Tryz.underlying3
  have a3 := Tryz.isAgg3
  have z3 := Tryz.sizeOf3
  have hS : Tryz.prog.underlying 24 = some (.struct (Tryz.prog.fieldsOf 24)) := by kernel_rfl
  have hp : Tryz.prog.stoodInHeld 24 = false := by kernel_rfl
  rw [run_neq_struct, show (10000 : Nat) = 9999 + 1 from rfl, run_equalIn_agg w 9999 24 _ _ hS hp]
  simp only [Program.fieldsOf, Tryz.underlying24]
  go_simp

theorem neq_rec (x : Rec) (hx : ∀ z ∈ x.l, z < 256) (w : World) : (binOp .neq 50 (pcV x) (pcV x)).run Tryz.prog w = .ok (.bool false) w := by
  obtain ⟨k, i, b, f, t, l, c, n, s⟩ := x
  simp only [pcV]
  rw [run_neq_struct]
  go_simp

theorem slice_recs (br or_ N cr : Nat) (h1 : 1 ≤ N) (w : World) :
    (Instr.slice 35 (.slice (some ⟨br, or_, none⟩) N cr) (some (.int .i64 1)) none none).run Tryz.prog w = .ok (.slice (if cr = 1 then some ⟨br, or_, none⟩ else some ⟨br, or_ + 9, none⟩) (N - 1) (cr - 1)) w := by
  obtain ⟨i0, hi0, hz0, hz1, hz2⟩ := info_parts info_pr
  have hr := run_slice_l (P := Tryz.prog) w 35 (some ⟨br, or_, none⟩) N cr (by kernel_rfl) .i64 1 (by omega) (by omega)
  rw [hr]
  have he : Tryz.prog.elem 35 = 50 := by kernel_rfl
  simp [sizeOf, typeInfo, he, hi0, hz1, sliced]
  rfl

set_option maxHeartbeats 8000000 in
set_option maxRecDepth 100000 in
theorem sreads_walk (w : World) (a : Option Addr) (n c : Nat) (L : List Wr) (h : RdW w a n L) (ab : Option Addr) (m cb : Nat) (b : List Nat) (hb : Rd w ab m b) (hcb : m ≤ cb) :
    Calls Tryz.prog 4 #[.slice a n c, .slice ab m cb] w fun e w' => e = .returned (.bool true) ∧ Below w.heap.size w w' := by
  have HR := Lib.hid h
  have HRB := Lib.hid hb
  have HCB := Lib.hid hcb
  have HL := Lib.hid smLives_any
  clear h hb hcb
  go_enter Tryz.func4, Tryz.ntmps4
  go_wp2_with fail
  refine (HL.out _).mono ?_
  rintro e w1 ⟨rfl, hb1⟩
  have HB1 := Lib.hid hb1
  clear hb1
  by_cases hn : n ≤ 300
  · have hn' : ¬ ((300 : Int) < (n : Int)) := by omega
    by_cases hm : m ≤ 12000
    · have hm' : ¬ ((12000 : Int) < (m : Int)) := by omega
      have HM := Lib.hid (made_any w1 a n c L (HR.out.later HB1.out) (by omega))
      have HOk : Hid (okF (madeF L)) := Lib.hid (madeF_ok fun r hr y hy => (HR.out.each r hr).2.2.2.1 y hy)
      go_wp2_with fail
      refine HM.out.mono ?_
      rintro e w2 ⟨g, bm, rfl, hg, hbg, him, hb2⟩
      have HI2 := Lib.hid him
      have HB2 : Hid (Below w.heap.size w w2) := Lib.hid (HB1.out.trans (hb2.mono HB1.out.size))
      clear him hb2 hg hbg
      obtain ⟨bx, hbx⟩ : ∃ bx, bx = w2.heap.size := ⟨_, rfl⟩
      have HZ : Hid ((w2.alloc (.cells Tryz.zeroCells28 28)).heap[bx]? = some (arrObj (List.replicate 256 []))) := Lib.hid (by rw [zero_img, hbx]; exact heap_alloc_new w2 _)
      have HBX : Hid (bx = w2.heap.size) := Lib.hid hbx
      go_upto_region 4 with (refine wpList_store_img rfl (.tmp 6) (.tmp 36) rfl _ (List.replicate 256 []) (madeF L) rfl rfl (by rw [HBX.out] at HZ; exact HZ.out) List.length_replicate HOk.out.1 ?_; intro w3 H3)
      have HB3 : Hid (Below w2.heap.size w2 w3) := Lib.hid (by rw [H3.out]; exact (Below.alloc0 _ _).trans (put_below _ (Nat.le_refl _)))
      have HX3 : Hid (w3.heap[bx]? = some (arrObj (madeF L))) := Lib.hid (by rw [H3.out, ← hbx]; exact put_same HZ.out)
      have HI3 : Hid (Img w3 g bm n (madeF L)) := Lib.hid (HI2.out.later HB3.out)
      have HBW3 : Hid (Below w.heap.size w w3) := Lib.hid (HB2.out.trans (HB3.out.mono HB2.out.size))
      rw [← hbx]
      clear H3 HZ hbx HBX
      have HF3 := Lib.hid (heap_alloc_new w3 (.cells #[] 5))
      go_upto_region 5 with (refine wpList_fresh rfl (.tmp 37) (.tmp 38) rfl _ rfl ab m cb rfl HF3.out b ((HRB.out.later HBW3.out).later (Below.alloc0 _ _)) (by omega) ?_; intro gc cc w4 h41 h42 h43)
      have HB4' : Hid (Below w3.heap.size w3 w4) := Lib.hid ((Below.alloc0 w3 (.cells #[] 5)).trans ⟨h43.os, h43.tape, h43.output, h43.size, fun q hq => h43.block q (by simp; omega) (by simp; omega)⟩)
      have HB4 : Hid (Below w.heap.size w w4) := Lib.hid (HBW3.out.trans (HB4'.out.mono HBW3.out.size))
      have HGC : Hid (w3.heap.size ≤ gc) := Lib.hid h41
      have HI4 : Hid (Img w4 g bm n (madeF L)) := Lib.hid (HI3.out.later HB4'.out)
      have hbl : b.length = m := HRB.out.1
      have HO4 := Lib.hid h42
      have hrd4 := h42.asSlice1 hbl
      have HX4 : Hid (w4.heap[bx]? = some (arrObj (madeF L))) := Lib.hid ((HB4'.out.block _ (lt_of_block HX3.out)).trans HX3.out)
      have HBL := Lib.hid hbl
      obtain ⟨R, hR⟩ : ∃ R, R = (strm b).1 := ⟨_, rfl⟩
      obtain ⟨E, hE⟩ : ∃ E, E = (strm b).2 := ⟨_, rfl⟩
      obtain ⟨i0, b0, hib⟩ : ∃ i0 b0 : Int, (E = 0 → i0 = (R.headD default).i ∧ b0 = (R.headD default).b) ∧ (E ≠ 0 → i0 = 0 ∧ b0 = 0) := by
        by_cases h0 : E = 0
        · exact ⟨_, _, fun _ => ⟨rfl, rfl⟩, fun h => absurd h0 h⟩
        · exact ⟨0, 0, fun h => absurd h h0, fun _ => ⟨rfl, rfl⟩⟩
      have HIB := Lib.hid hib
      have hw4 := whole_any w4 (some ⟨gc, 0, none⟩) m cc b hrd4 (by omega)
      rw [← hR, ← hE] at hw4
      have HW4 : Hid (Calls Tryz.prog 13 #[.slice (some ⟨gc, 0, none⟩) m cc] w4 fun e w' => ∃ (a' : Option Addr) (mm c' : Nat), e = .returned (.tuple #[.agg #[.int .i64 i0, .int .i64 b0], .slice a' mm c', .int .i64 (E : Int)]) ∧ Hid (Below w4.heap.size w4 w') ∧ Hid (E ≠ 0 → mm = 0) ∧
          Hid (E = 0 → ∃ x xs, R = x :: xs ∧ mm = xs.length ∧ ∃ Lc : List RcC, Lc.map RcC.x = xs ∧ RdC w' a' mm Lc ∧ (∀ e ∈ Lc, ∀ z o, e.a = some ⟨z, o, none⟩ → 0 < e.m → w4.heap.size < z) ∧ ∀ z o, a' = some ⟨z, o, none⟩ → w4.heap.size < z)) := Lib.hid (hw4.mono (by
        rintro e w' ⟨hbw, ⟨hne, rfl⟩ | ⟨h0, x, xs, Lc, a', c', rfl, hLm, rfl, hrc, hfar⟩⟩
        · refine ⟨none, 0, 0, ?_, Lib.hid hbw, Lib.hid fun _ => rfl, Lib.hid fun h => absurd h hne⟩
          rw [(hib.2 hne).1, (hib.2 hne).2]
        · refine ⟨a', xs.length, c', ?_, Lib.hid hbw, Lib.hid fun h => absurd h0 h, Lib.hid fun _ => ⟨x, xs, rfl, rfl, Lc, hLm, hrc, hfar.out⟩⟩
          rw [(hib.1 h0).1, (hib.1 h0).2, h0]
          rfl))
      have HRD4 := Lib.hid hrd4
      have HRE := Lib.hid (And.intro hR hE)
      clear h41 h42 h43 hrd4 hbl hw4 hR hE hib
      go_wp2_with fail
      refine HW4.out.mono ?_
      rintro e w5 ⟨a', mm, c', rfl, HB5, HGot0, HGot⟩
      obtain ⟨bh, hbh⟩ : ∃ bh, bh = w5.heap.size := ⟨_, rfl⟩
      obtain ⟨W5, hW5⟩ : ∃ W5, W5 = w5.alloc (.cells #[.int .i64 i0, .int .i64 b0] 24) := ⟨_, rfl⟩
      have HH5 : Hid (W5.heap[bh]? = some (.cells #[.int .i64 i0, .int .i64 b0] 24 (0, 0))) := Lib.hid (by rw [hW5, hbh]; exact heap_alloc_new w5 _)
      have HB5' : Hid (Below w5.heap.size w5 W5 ∧ W5.heap.size = bh + 1 ∧ w5.heap.size = bh) := Lib.hid ⟨by rw [hW5]; exact Below.alloc0 _ _, by rw [hW5, hbh]; simp, hbh.symm⟩
      have HW5 : Hid (w5.alloc (.cells #[.int .i64 i0, .int .i64 b0] 24) = W5) := Lib.hid hW5.symm
      have HB45 : Hid (Below w4.heap.size w4 W5) := Lib.hid (HB5.out.trans (HB5'.out.1.mono HB5.out.size))
      have hw5 := apply_any W5 g bm n (madeF L) (HI4.out.later HB45.out) (some ⟨gc, 0, none⟩) m cc b (HRD4.out.later HB45.out) (by omega) (by
        have h1 := strm_short (b := b) HRD4.out.2.1
        have h2 := HBL.out
        omega)
      rw [← HRE.out.1, ← HRE.out.2] at hw5
      have hib := HIB.out
      have HWA : Hid (Calls Tryz.prog 9 #[.pointer (some ⟨g, 0, none⟩), .slice (some ⟨gc, 0, none⟩) m cc] W5 fun e w' => ∃ om : Option Addr, e = .returned (.tuple #[.agg #[.int .i64 i0, .int .i64 b0], .pointer om, .int .i64 (E : Int)]) ∧ Hid (Below W5.heap.size W5 w') ∧ Hid (E ≠ 0 → om = none) ∧
          Hid (E = 0 → ∃ g' b' q', om = some ⟨g', 0, none⟩ ∧ Img w' g' b' q' (apF (madeF L) R.tail))) := Lib.hid (hw5.mono (by
        rintro e w' ⟨hbw, ⟨hne, rfl⟩ | ⟨h0, x, xs, g', b', q', hR, rfl, hii⟩⟩
        · refine ⟨none, ?_, Lib.hid hbw, Lib.hid fun _ => rfl, Lib.hid fun h => absurd h hne⟩
          rw [(hib.2 hne).1, (hib.2 hne).2]
        · refine ⟨_, ?_, Lib.hid hbw, Lib.hid fun h => absurd h0 h, Lib.hid fun _ => ⟨g', b', q', rfl, by rw [hR]; exact hii⟩⟩
          rw [(hib.1 h0).1, (hib.1 h0).2, h0, hR]
          rfl))
      clear hbh hW5 hw5 hib
      go_upto_region 6 with fail
      try change Code.wp _ _ _ _ (w5.alloc (.cells #[.int .i64 i0, .int .i64 b0] 24))
      rw [HW5.out, HB5'.out.2.2]
      go_wp2_with fail
      refine HWA.out.mono ?_
      rintro e w6 ⟨om, rfl, HB6, HOm0, HOm⟩
      obtain ⟨bj, hbj⟩ : ∃ bj, bj = w6.heap.size := ⟨_, rfl⟩
      obtain ⟨W6, hW6⟩ : ∃ W6, W6 = w6.alloc (.cells #[.int .i64 i0, .int .i64 b0] 24) := ⟨_, rfl⟩
      have HJ6 : Hid (W6.heap[bj]? = some (.cells #[.int .i64 i0, .int .i64 b0] 24 (0, 0))) := Lib.hid (by rw [hW6, hbj]; exact heap_alloc_new w6 _)
      have HB6' : Hid (Below w6.heap.size w6 W6 ∧ W6.heap.size = bj + 1 ∧ w6.heap.size = bj) := Lib.hid ⟨by rw [hW6]; exact Below.alloc0 _ _, by rw [hW6, hbj]; simp, hbj.symm⟩
      have HW6 : Hid (w6.alloc (.cells #[.int .i64 i0, .int .i64 b0] 24) = W6) := Lib.hid hW6.symm
      clear hbj hW6
      go_upto_region 7 with fail
      try change Code.wp _ _ _ _ (w6.alloc (.cells #[.int .i64 i0, .int .i64 b0] 24))
      rw [HW6.out, HB6'.out.2.2]
      have HB46 : Hid (Below w4.heap.size w4 W6) := Lib.hid (HB45.out.trans (HB6.out.mono HB45.out.size |>.trans (HB6'.out.1.mono (by have := HB45.out.size; have := HB6.out.size; omega))))
      have HGL : Hid (gc < w4.heap.size) := Lib.hid (by
        obtain ⟨_, cur, hcur⟩ := owns_block HO4.out.2 (k := gc) rfl
        exact lt_of_block hcur)
      have HO6 : Hid (Own W6 w3.heap.size (.slice (some ⟨gc, 0, none⟩) m cc) b) := Lib.hid ⟨HO4.out.1, owns_same HO4.out.2 fun z hz => by
        injection hz with hz
        subst hz
        exact HB46.out.block _ HGL.out⟩
      have HLB : Hid (Below w.heap.size w W6) := Lib.hid (HB4.out.trans (HB46.out.mono HB4.out.size))
      have HGW : Hid (w.heap.size ≤ gc) := Lib.hid (Nat.le_trans HBW3.out.size HGC.out)
      go_wp2_with fail
      go_loopg [55] m (fun gk v55 wr => ∃ (j : Nat) (l' : List Nat), gk = m - j ∧ j ≤ m ∧ v55 = .int .i64 (j : Int) ∧ Hid (Own wr w3.heap.size (.slice (some ⟨gc, 0, none⟩) m cc) l' ∧ l'.length = m) ∧ Hid (Save [gc] W6 wr))
      case atStart => exact ⟨0, b, rfl, Nat.zero_le _, rfl, Lib.hid ⟨HO6.out, HBL.out⟩, Lib.hid (Save.refl _ _)⟩
      case round =>
        obtain ⟨j, l', hgk, hj, rfl, HOj, HSj⟩ := hrel
        have HGK := Lib.hid hgk
        clear hgk
        by_cases hlt : j < m
        · have hrd := HOj.out.1.asSlice1 HOj.out.2
          obtain ⟨_, cur, hcur⟩ := owns_block HOj.out.1.2 (k := gc) rfl
          obtain ⟨z, hz⟩ : ∃ z, z = l'.getD j 0 := ⟨_, rfl⟩
          have hz8 : z < 256 := by rw [hz]; exact hrd.2.1 _ (by simp [List.getD, show j < l'.length by have := HOj.out.2; omega])
          have hcz : wr.cell? ⟨gc, j, none⟩ = some (.int .u8 (z : Int)) := by
            obtain ⟨b', o', e', hc'⟩ := hrd.2.2 (by omega)
            injection e' with e'
            injection e' with e1 e2
            subst e1
            subst e2
            rw [hz]
            simpa using hc' j hlt
          have hfr : wr.frozen? ⟨gc, j, none⟩ = false := by simp [World.frozen?, hcur]
          have hxo : bits BinOp.xor IntKind.u8 (z : Int) 255 = ((z ^^^ 255 : Nat) : Int) := u8_xor_nat z 255 hz8 (by omega)
          have hx8 : z ^^^ 255 < 256 := Nat.xor_lt_two_pow (n := 8) hz8 (by omega)
          have hset := HOj.out.1.set HOj.out.2 j (z ^^^ 255) hx8
          have HSET : Hid (Own (wr.setCell ⟨gc, j, none⟩ (.int .u8 ((z ^^^ 255 : Nat) : Int))) w3.heap.size (.slice (some ⟨gc, 0, none⟩) m cc) (l'.set j (z ^^^ 255)) ∧ (l'.set j (z ^^^ 255)).length = m) := Lib.hid ⟨hset, by rw [List.length_set]; exact HOj.out.2⟩
          have HSS := Lib.hid (HSj.out.trans (Save.set wr gc j (.int .u8 ((z ^^^ 255 : Nat) : Int))))
          clear hrd hcur hz hset
          go_wp2_with fail
          (try rw [hxo])
          go_roundg (m - (j + 1))
          case measure => have := HGK.out; omega
          case rel => exact ⟨j + 1, _, rfl, by omega, by simp, HSET, HSS⟩
        · obtain rfl : j = m := by omega
          have HBW : Hid (Below w.heap.size w wr) := Lib.hid (HLB.out.trans (HSj.out.below HLB.out.size (by have := HGW.out; simp; omega)))
          have hrw := rwhole_any wr ab j cb b (HRB.out.later HBW.out) (by omega) HCB.out
          rw [← HRE.out.1, ← HRE.out.2] at hrw
          have HRW := Lib.hid hrw
          clear hrw
          go_wp2_with fail
          refine HRW.out.mono ?_
          rintro e w7 ⟨hb7, hq⟩
          have HB7 := Lib.hid hb7
          have HBW7 : Hid (Below w.heap.size w w7) := Lib.hid (HBW.out.trans (hb7.mono HBW.out.size))
          have HS7 : Hid (∀ z, z < W6.heap.size → z ≠ gc → w7.heap[z]? = W6.heap[z]?) := Lib.hid fun z h1 h2 => (hb7.block z (Nat.lt_of_lt_of_le h1 HSj.out.size)).trans (HSj.out.block z h1 (by simp; exact h2))
          have hgc := HGL.out
          have hbs := HB45.out.size
          have hb5s := HB5'.out.2
          have hb6s := HB6'.out.2
          have hb6 := HB6.out.size
          have h4s := HB5.out.size
          have hH7 : w7.heap[bh]? = some (.cells #[.int .i64 i0, .int .i64 b0] 24 (0, 0)) := (HS7.out bh (by omega) (by omega)).trans ((HB6'.out.1.block bh (by omega)).trans ((HB6.out.block bh (by omega)).trans HH5.out))
          have hJ7 : w7.heap[bj]? = some (.cells #[.int .i64 i0, .int .i64 b0] 24 (0, 0)) := (HS7.out bj (by omega) (by omega)).trans HJ6.out
          have k0 : w7.cell? ⟨bh, 0, none⟩ = some (.int .i64 i0) := by simp [World.cell?, hH7]
          have k1 : w7.cell? ⟨bh, 1, none⟩ = some (.int .i64 b0) := by simp [World.cell?, hH7]
          have k2 : w7.cell? ⟨bj, 0, none⟩ = some (.int .i64 i0) := by simp [World.cell?, hJ7]
          have k3 : w7.cell? ⟨bj, 1, none⟩ = some (.int .i64 b0) := by simp [World.cell?, hJ7]
          clear hgc hbs hb5s hb6s hb6 h4s hH7 hJ7 hb7
          by_cases hE : E = 0
          · obtain ⟨h0, _⟩ | ⟨_, ar, cr, rfl, hcr, hrp⟩ := hq
            · exact absurd hE h0
            obtain ⟨x, xs, hRx, hmx, Lc, hLm, hrc, hef, haf⟩ := HGot.out hE
            obtain ⟨g', b', q', hom, him⟩ := HOm.out hE
            have hii := HIB.out.1 hE
            subst hom
            subst hRx
            simp only [List.headD_cons, List.tail_cons] at hii him
            obtain ⟨rfl, rfl⟩ := hii
            have hrest := strm_rest (b := b) HRD4.out.2.1 (by rw [← HRE.out.2]; exact hE)
            rw [← HRE.out.1] at hrest
            simp only [List.tail_cons, List.length_cons] at hrest
            have hby : ∀ y ∈ xs, ∀ z ∈ y.l, z < 256 := by
              intro y hy z hz
              rw [← hLm] at hy
              obtain ⟨e, he, rfl⟩ := List.mem_map.1 hy
              exact (hrc.each e he).2.1 z hz
            have h57 : ∀ z, w4.heap.size < z → z < w5.heap.size → w7.heap[z]? = w5.heap[z]? := fun z h1 h2 => by
              have s1 := HB5'.out
              have s2 := HB6.out
              have s3 := HB6'.out
              have s4 := HGL.out
              have t1 := s2.size
              exact (HS7.out z (by omega) (by omega)).trans ((s3.1.block z (by omega)).trans ((s2.block z (by omega)).trans (s1.1.block z h2)))
            have HRC7 : Hid (RdC w7 a' mm Lc) := Lib.hid (hrc.blk (fun b o e hn => by
              subst e
              exact h57 b (haf b o rfl) (hrc.in_ hn)) fun e he b o e1 e2 => h57 b (hef e he b o e1 e2) (by
                have h9 := hrc.each e he
                rw [e1] at h9
                exact h9.in_ e2))
            obtain ⟨_, cur, hcur⟩ := owns_block HO4.out.2 (k := gc) rfl
            have hcur6 : w6.heap[gc]? = some (.cells cur 5 (0, 0)) := (HB6.out.block gc (by have := HB45.out.size; have := HGL.out; omega)).trans ((HB45.out.block gc HGL.out).trans hcur)
            have hbg : b' ≠ gc := him.map.far hcur6
            have hgg : g' ≠ gc := by
              rintro rfl
              rw [him.blk] at hcur6
              cases hcur6
            have HIM7 : Hid (Img w7 g' b' q' (apF (madeF L) xs)) := Lib.hid ⟨by
                have := him.lt
                exact ((HS7.out g' (by have := HB6'.out; omega) hgg).trans (HB6'.out.1.block g' this)).trans him.blk, him.map.kept (by
                have := him.map.lt
                exact (HS7.out b' (by have := HB6'.out; omega) hbg).trans (HB6'.out.1.block b' this)), him.ok⟩
            have HX7 : Hid (w7.heap[bx]? = some (arrObj (madeF L))) := Lib.hid (by
              have s0 := lt_of_block HX4.out
              have s1 := HB46.out.size
              have s2 := lt_of_block HX3.out
              have s3 := HGC.out
              exact (HS7.out bx (by omega) (by omega)).trans ((HB46.out.block bx s0).trans HX4.out))
            obtain ⟨N, hN⟩ : ∃ N, N = (x :: xs).length := ⟨_, rfl⟩
            rw [← hN] at hcr hrp ⊢
            have hN1 : N = mm + 1 := by rw [hN, hmx]; simp
            have HN1 := Lib.hid hN1
            have HRP := Lib.hid hrp
            have HXS : Hid ((∀ y ∈ xs, y.ok = true ∧ (y.k = 2 ∨ y.k = 3)) ∧ (∀ y ∈ xs, ∀ z ∈ y.l, z < 256) ∧ mm = xs.length ∧ Lc.map RcC.x = xs ∧ N ≤ cr) := Lib.hid ⟨hrest.1, hby, hmx, hLm, hcr⟩
            have hmb : mm + 1 ≤ 12000 := by have := hrest.2; have := HBL.out; omega
            obtain ⟨br, or_, y0, hra, hy0, hy8, hyc⟩ := hrp.at_ (j := 0) (by omega)
            subst hra
            have hy9 : y0 = x := hy0
            clear hy0
            subst hy9
            have k4 : w7.cell? ⟨br, or_ + 1, none⟩ = some (.int .i64 y0.i) := by simpa using hyc 1 _ rfl
            have k5 : w7.cell? ⟨br, or_ + 2, none⟩ = some (.int .i64 y0.b) := by simpa using hyc 2 _ rfl
            have hE1 : ((E : Int) != 0) = false := by simp; omega
            have hNm : (N : Int) - 1 = (mm : Int) := by omega
            have hN0 : (0 : Int) < (N : Int) := by omega
            have hNb : N ≤ 12001 := by omega
            have hwN : IntKind.i64.wrap ((N : Int) - 1) = (mm : Int) := by rw [IntWalk.i64_in _ (by omega)]; omega
            have hwm : IntKind.i64.wrap (mm : Int) = (mm : Int) := IntWalk.i64_in _ (by omega)
            have hd1 : ((mm : Int) != (N : Int) - 1) = false := by simp; omega
            have hnh : ∀ W : World, (binOp .neq 24 (.agg #[.int .i64 y0.i, .int .i64 y0.b]) (.agg #[.int .i64 y0.i, .int .i64 y0.b])).run Tryz.prog W = .ok (.bool false) W := fun W => neq_head _ _ W
            have HMB := Lib.hid hmb
            clear hE h57 hrest hby hLm hef haf hrc him hcur hcur6 hbg hgg hN hN1 hcr hrp hmx hyc hmb hy8
            go_wp2_with fail
            go_quiet (fail)
            go_wp2_with fail
            go_loopg [129] mm (fun gk v wr => ∃ t : Nat, gk = mm - t ∧ t ≤ mm ∧ v = .int .i64 (t : Int) ∧ Hid (Below w7.heap.size w7 wr))
            case atStart => exact ⟨0, rfl, Nat.zero_le _, rfl, Lib.hid (Below.drewN' (Below.refl _ _) _)⟩
            case round =>
              obtain ⟨t, hgk, ht, rfl, HBt⟩ := hrel
              have HGK := Lib.hid hgk
              clear hgk
              by_cases hlt : t < mm
              · obtain ⟨ba, oa, e, ea', hee, hem, her, hcl⟩ := (HRC7.out.later HBt.out).at_ hlt
                subst ea'
                obtain ⟨u, hu⟩ : ∃ u, u = t + 1 := ⟨_, rfl⟩
                obtain ⟨bq, oq, y, hq9, hyy, hym, hyl⟩ := (HRP.out.later HBt.out).at_ (j := u) (by have := HN1.out; omega)
                injection hq9 with hq9
                injection hq9 with hq1 hq2
                subst hq1
                subst hq2
                have hLl := HRC7.out.len
                have hxe : y = e.x := by
                  rw [hyy, hee, hu, ← HXS.out.2.2.2.1]
                  simp [List.getD, show t < Lc.length by omega]
                have hbe : ∀ z ∈ e.x.l, z < 256 := her.2.1
                subst hxe
                clear hyy hee hem hym hLl
                obtain ⟨X, ea, em, ec, ele⟩ := e
                obtain ⟨xk, xi, xb, xf, xt, xl, xc, xn, xs'⟩ := X
                simp only at her hyl hbe
                obtain ⟨c0, c1, c2, c3, c4, c5, c6, c7, c8⟩ : _ ∧ _ ∧ _ ∧ _ ∧ _ ∧ _ ∧ _ ∧ _ ∧ _ := ⟨hcl 0 _ rfl, hcl 1 _ rfl, hcl 2 _ rfl, hcl 3 _ rfl, hcl 4 _ rfl, hcl 5 _ rfl, hcl 6 _ rfl, hcl 7 _ rfl, hcl 8 _ rfl⟩
                obtain ⟨d0, d1, d2, d3, d4, d5, d6, d7, d8⟩ : _ ∧ _ ∧ _ ∧ _ ∧ _ ∧ _ ∧ _ ∧ _ ∧ _ := ⟨hyl 0 _ rfl, hyl 1 _ rfl, hyl 2 _ rfl, hyl 3 _ rfl, hyl 4 _ rfl, hyl 5 _ rfl, hyl 6 _ rfl, hyl 7 _ rfl, hyl 8 _ rfl⟩
                simp only [Nat.add_zero] at c0 c1 c2 c3 c4 c5 c6 c7 c8 d0 d1 d2 d3 d4 d5 d6 d7 d8
                have HD := Lib.hid (And.intro d0 (And.intro d1 (And.intro d2 (And.intro d3 (And.intro d4 (And.intro d5 (And.intro d6 (And.intro d7 d8))))))))
                have HER := Lib.hid her
                have HBE := Lib.hid hbe
                have hnq : ∀ W : World, (binOp .neq 50 (.agg #[.int .u8 (xk : Int), .int .i64 xi, .int .i64 xb, .int .i64 xf, .int .i64 xt, .string (strB xl), .int .i64 xc, .int .u64 (xn : Int), .int .u64 (xs' : Int)]) (.agg #[.int .u8 (xk : Int), .int .i64 xi, .int .i64 xb, .int .i64 xf, .int .i64 xt, .string (strB xl), .int .i64 xc, .int .u64 (xn : Int), .int .u64 (xs' : Int)])).run Tryz.prog W = .ok (.bool false) W := neq_rec ⟨xk, xi, xb, xf, xt, xl, xc, xn, xs'⟩ hbe
                have HNQ := Lib.hid hnq
                have HU := Lib.hid hu
                clear hcl hyl d0 d1 d2 d3 d4 d5 d6 d7 d8 her hbe hnq hu
                go_wp2_with fail
                obtain ⟨q, hq0⟩ : ∃ q, q = wr.heap.size := ⟨_, rfl⟩
                obtain ⟨W9, hW9⟩ : ∃ W9, W9 = wr.alloc (.cells #[.int .u8 (xk : Int), .int .i64 xi, .int .i64 xb, .int .i64 xf, .int .i64 xt, .slice ea em ec, .int .i64 xc, .int .u64 (xn : Int), .int .u64 (xs' : Int)] 57) := ⟨_, rfl⟩
                have h9 : W9.heap[q]? = some (.cells #[.int .u8 (xk : Int), .int .i64 xi, .int .i64 xb, .int .i64 xf, .int .i64 xt, .slice ea em ec, .int .i64 xc, .int .u64 (xn : Int), .int .u64 (xs' : Int)] 57 (0, 0)) := by rw [hW9, hq0]; exact heap_alloc_new wr _
                have hs9 : W9.heap.size = q + 1 := by rw [hW9, hq0]; simp
                have hb9 : Below wr.heap.size wr W9 := by rw [hW9]; exact Below.alloc0 _ _
                have HC9 : Hid (∀ W, Below W9.heap.size W9 W → W.cell? ⟨q, 0, none⟩ = some (.int .u8 (xk : Int)) ∧ W.cell? ⟨q, 1, none⟩ = some (.int .i64 xi) ∧ W.cell? ⟨q, 2, none⟩ = some (.int .i64 xb) ∧ W.cell? ⟨q, 3, none⟩ = some (.int .i64 xf) ∧ W.cell? ⟨q, 4, none⟩ = some (.int .i64 xt) ∧ W.cell? ⟨q, 5, none⟩ = some (.slice ea em ec) ∧ W.cell? ⟨q, 6, none⟩ = some (.int .i64 xc) ∧ W.cell? ⟨q, 7, none⟩ = some (.int .u64 (xn : Int)) ∧ W.cell? ⟨q, 8, none⟩ = some (.int .u64 (xs' : Int)) ∧ W.cell? ⟨br, or_ + u * 9, none⟩ = some (.int .u8 (xk : Int)) ∧ W.cell? ⟨br, or_ + u * 9 + 1, none⟩ = some (.int .i64 xi) ∧ W.cell? ⟨br, or_ + u * 9 + 2, none⟩ = some (.int .i64 xb) ∧ W.cell? ⟨br, or_ + u * 9 + 3, none⟩ = some (.int .i64 xf) ∧ W.cell? ⟨br, or_ + u * 9 + 4, none⟩ = some (.int .i64 xt) ∧ W.cell? ⟨br, or_ + u * 9 + 5, none⟩ = some (.string (strB xl)) ∧ W.cell? ⟨br, or_ + u * 9 + 6, none⟩ = some (.int .i64 xc) ∧ W.cell? ⟨br, or_ + u * 9 + 7, none⟩ = some (.int .u64 (xn : Int)) ∧ W.cell? ⟨br, or_ + u * 9 + 8, none⟩ = some (.int .u64 (xs' : Int))) := Lib.hid (fun W hW => by
                  have hq := hW.block q (by rw [hs9]; omega)
                  have z0 : ∀ k, W.cell? ⟨q, k, none⟩ = W9.cell? ⟨q, k, none⟩ := fun k => World.cell?_of_block hq
                  have z1 : ∀ k v, wr.cell? ⟨br, k, none⟩ = some v → W.cell? ⟨br, k, none⟩ = some v := fun k v hv => (hb9.trans (hW.mono (by rw [hs9, hq0]; omega))).cell (p := ⟨br, k, none⟩) (World.block_lt_of_cell? wr _ hv) |>.trans hv
                  obtain ⟨d0, d1, d2, d3, d4, d5, d6, d7, d8⟩ := HD.out
                  refine ⟨?_, ?_, ?_, ?_, ?_, ?_, ?_, ?_, ?_, z1 _ _ d0, z1 _ _ d1, z1 _ _ d2, z1 _ _ d3, z1 _ _ d4, z1 _ _ d5, z1 _ _ d6, z1 _ _ d7, z1 _ _ d8⟩ <;> (rw [z0]; simp [World.cell?, h9]))
                have HB9 : Hid (Below w7.heap.size w7 W9 ∧ Below wr.heap.size wr W9) := Lib.hid ⟨HBt.out.trans (hb9.mono HBt.out.size), hb9⟩
                have HW9 : Hid (wr.alloc (.cells #[.int .u8 (xk : Int), .int .i64 xi, .int .i64 xb, .int .i64 xf, .int .i64 xt, .slice ea em ec, .int .i64 xc, .int .u64 (xn : Int), .int .u64 (xs' : Int)] 57) = W9 ∧ wr.heap.size = q) := Lib.hid ⟨hW9.symm, hq0.symm⟩
                clear h9 hs9 hb9 hq0 hW9
                go_upto_region 22 with fail
                try change Code.wp _ _ _ _ (wr.alloc (.cells #[.int .u8 (xk : Int), .int .i64 xi, .int .i64 xb, .int .i64 xf, .int .i64 xt, .slice ea em ec, .int .i64 xc, .int .u64 (xn : Int), .int .u64 (xs' : Int)] 57))
                rw [HW9.out.1, HW9.out.2]
                have hu1 : (t : Int) + 1 = (u : Int) := by have := HU.out; omega
                have huN : (u : Int) < (N : Int) := by have := HU.out; have := HN1.out; omega
                have hu0 : u ≤ 12001 := by have := HU.out; omega
                have hwu : IntKind.i64.wrap (u : Int) = (u : Int) := IntWalk.i64_in _ (by omega)
                have hnq := HNQ.out
                have H0 : Hid (Below W9.heap.size W9 W9.drew) := Lib.hid (Below.refl _ _).drew
                clear c0 c1 c2 c3 c4 c5 c6 c7 c8 k0 k1 k2 k3 k4 k5
                refine wp_region_held_drew (S := fun W => W.cell? ⟨q, 0, none⟩ = some (.int .u8 (xk : Int)) ∧ W.cell? ⟨q, 1, none⟩ = some (.int .i64 xi) ∧ W.cell? ⟨q, 2, none⟩ = some (.int .i64 xb) ∧ W.cell? ⟨q, 3, none⟩ = some (.int .i64 xf) ∧ W.cell? ⟨q, 4, none⟩ = some (.int .i64 xt) ∧ W.cell? ⟨q, 5, none⟩ = some (.slice ea em ec) ∧ W.cell? ⟨q, 6, none⟩ = some (.int .i64 xc) ∧ W.cell? ⟨q, 7, none⟩ = some (.int .u64 (xn : Int)) ∧ W.cell? ⟨q, 8, none⟩ = some (.int .u64 (xs' : Int)) ∧ W.cell? ⟨br, or_ + u * 9, none⟩ = some (.int .u8 (xk : Int)) ∧ W.cell? ⟨br, or_ + u * 9 + 1, none⟩ = some (.int .i64 xi) ∧ W.cell? ⟨br, or_ + u * 9 + 2, none⟩ = some (.int .i64 xb) ∧ W.cell? ⟨br, or_ + u * 9 + 3, none⟩ = some (.int .i64 xf) ∧ W.cell? ⟨br, or_ + u * 9 + 4, none⟩ = some (.int .i64 xt) ∧ W.cell? ⟨br, or_ + u * 9 + 5, none⟩ = some (.string (strB xl)) ∧ W.cell? ⟨br, or_ + u * 9 + 6, none⟩ = some (.int .i64 xc) ∧ W.cell? ⟨br, or_ + u * 9 + 7, none⟩ = some (.int .u64 (xn : Int)) ∧ W.cell? ⟨br, or_ + u * 9 + 8, none⟩ = some (.int .u64 (xs' : Int))) (by kernel_rfl) (HC9.out _ H0.out) (fun _ => ?_)
                refine wpAnyH_take (i := 0) (v := ?va0) rfl (by kernel_rfl) (by kernel_rfl) (by kernel_rfl) (fun _ _ _ h => h) (Or.inl ⟨by rfl, ?ha0⟩) (HC9.out _ H0.out) ?ra0
                case ha0 => (intro W hW; (try dsimp only at hW); go_simp; try with_reducible rfl)
                simp only [Act.put, List.getElem_toArray, List.getElem_cons_succ, List.getElem_cons_zero, List.setIfInBounds_toArray, List.set_cons_zero, List.set_cons_succ]
                refine wpAnyH_take (i := 2) (v := ?va2) rfl (by kernel_rfl) (by kernel_rfl) (by kernel_rfl) (fun _ _ _ h => h) (Or.inl ⟨by rfl, ?ha2⟩) (HC9.out _ H0.out) ?ra2
                case ha2 => (intro W hW; (try dsimp only at hW); go_simp; try with_reducible rfl)
                simp only [Act.put, List.getElem_toArray, List.getElem_cons_succ, List.getElem_cons_zero, List.setIfInBounds_toArray, List.set_cons_zero, List.set_cons_succ]
                refine wpAnyH_take (i := 3) (v := ?va3) rfl (by kernel_rfl) (by kernel_rfl) (by kernel_rfl) (fun _ _ _ h => h) (Or.inl ⟨by rfl, ?ha3⟩) (HC9.out _ H0.out) ?ra3
                case ha3 => (intro W hW; (try dsimp only at hW); go_simp; try with_reducible rfl)
                simp only [Act.put, List.getElem_toArray, List.getElem_cons_succ, List.getElem_cons_zero, List.setIfInBounds_toArray, List.set_cons_zero, List.set_cons_succ]
                refine wpAnyH_take (i := 4) (v := ?va4) rfl (by kernel_rfl) (by kernel_rfl) (by kernel_rfl) (fun _ _ _ h => h) (Or.inl ⟨by rfl, ?ha4⟩) (HC9.out _ H0.out) ?ra4
                case ha4 => (intro W hW; (try dsimp only at hW); go_simp; try with_reducible rfl)
                simp only [Act.put, List.getElem_toArray, List.getElem_cons_succ, List.getElem_cons_zero, List.setIfInBounds_toArray, List.set_cons_zero, List.set_cons_succ]
                refine wpAnyH_take (i := 5) (v := ?va5) rfl (by kernel_rfl) (by kernel_rfl) (by kernel_rfl) (fun _ _ _ h => h) (Or.inl ⟨by rfl, ?ha5⟩) (HC9.out _ H0.out) ?ra5
                case ha5 => (intro W hW; (try dsimp only at hW); go_simp; try with_reducible rfl)
                simp only [Act.put, List.getElem_toArray, List.getElem_cons_succ, List.getElem_cons_zero, List.setIfInBounds_toArray, List.set_cons_zero, List.set_cons_succ]
                refine wpAnyH_take (i := 6) (v := ?va6) rfl (by kernel_rfl) (by kernel_rfl) (by kernel_rfl) (fun _ _ _ h => h) (Or.inl ⟨by rfl, ?ha6⟩) (HC9.out _ H0.out) ?ra6
                case ha6 => (intro W hW; (try dsimp only at hW); go_simp; try with_reducible rfl)
                simp only [Act.put, List.getElem_toArray, List.getElem_cons_succ, List.getElem_cons_zero, List.setIfInBounds_toArray, List.set_cons_zero, List.set_cons_succ]
                refine wpAnyH_ready (rs := [1]) (by kernel_rfl) (by simp) ?_
                refine AllReadyH.cons rfl (fun K hK => ?_) AllReadyH.nil
                refine ready_call (f := 15) (vs := #[.agg #[.int .u8 (xk : Int), .int .i64 xi, .int .i64 xb, .int .i64 xf, .int .i64 xt, .slice ea em ec, .int .i64 xc, .int .u64 (xn : Int), .int .u64 (xs' : Int)]]) (by rfl) (by (go_simp; try with_reducible rfl)) ?_
                refine (lawPlain_any ⟨xk, xi, xb, xf, xt, xl, xc, xn, xs'⟩ ea em ec W9.drew (HER.out.later (HB9.out.2.drew))).mono ?_
                rintro e w9 ⟨rfl, hb9⟩
                have H1 : Hid (Below W9.heap.size W9 w9) := Lib.hid (H0.out.trans hb9)
                simp only [pcV]
                refine ⟨_, rfl, hK.out _ _ (HC9.out _ H1.out) (fun _ => ?_)⟩
                clear hK K hb9
                simp only [Act.put, List.getElem_toArray, List.getElem_cons_succ, List.getElem_cons_zero, List.setIfInBounds_toArray, List.set_cons_zero, List.set_cons_succ]
                refine wpAnyH_take (i := 7) (v := ?va7) rfl (by kernel_rfl) (by kernel_rfl) (by kernel_rfl) (fun _ _ _ h => h) (Or.inl ⟨by rfl, ?ha7⟩) (HC9.out _ H1.out) ?ra7
                case ha7 => (intro W hW; (try dsimp only at hW); go_simp; try with_reducible rfl)
                simp only [Act.put, List.getElem_toArray, List.getElem_cons_succ, List.getElem_cons_zero, List.setIfInBounds_toArray, List.set_cons_zero, List.set_cons_succ]
                refine wpAnyH_done (by kernel_rfl) ?_ _
                go_wp2_with fail
                go_roundg (mm - (t + 1))
                case measure => have := HGK.out; omega
                case rel => exact ⟨t + 1, rfl, by omega, by rw [HU.out], Lib.hid (HB9.out.1.trans (H1.out.mono HB9.out.1.size))⟩
              · obtain rfl : t = mm := by omega
                have hSx : Hid (∀ W, Below wr.heap.size wr W → W.heap[bx]? = some (arrObj (madeF L))) := Lib.hid fun W hW => by
                  have h1 := (HBt.out.block bx (lt_of_block HX7.out)).trans HX7.out
                  exact (hW.block bx (lt_of_block h1)).trans h1
                have hIm : Hid (∀ W, Below wr.heap.size wr W → Img W g' b' q' (apF (madeF L) xs)) := Lib.hid fun W hW => (HIM7.out.later HBt.out).later hW
                obtain ⟨ar, har⟩ : ∃ ar : Option Addr, ar = if cr = 1 then some ⟨br, or_, none⟩ else some ⟨br, or_ + 9, none⟩ := ⟨_, rfl⟩
                have hrpt : ∀ W, Below wr.heap.size wr W → RdP W ar t xs := fun W hW => by
                  have h1 := ((HRP.out.later HBt.out).later hW)
                  rw [HN1.out] at h1
                  have h2 := h1.tail rfl
                  rw [List.tail_cons] at h2
                  by_cases hc1 : cr = 1
                  · have ht0 : t = 0 := by have := HXS.out.2.2.2.2; have := HN1.out; omega
                    refine ⟨h2.len, fun h => ?_⟩
                    omega
                  · rw [har, if_neg hc1]
                    exact h2
                have HRT := Lib.hid hrpt
                have hsl : ∀ W : World, (Instr.slice 35 (.slice (some ⟨br, or_, none⟩) N cr) (some (.int .i64 1)) none none).run Tryz.prog W = .ok (.slice ar t (cr - 1)) W := fun W => by
                  rw [har]
                  have h1 := slice_recs br or_ N cr (by have := HN1.out; omega) W
                  rw [show N - 1 = t by have := HN1.out; omega] at h1
                  exact h1
                have HRA := Lib.hid (fun W hW => rapply_any W (madeF L) HOk.out ar t (cr - 1) xs (HRT.out W hW) (by have := HMB.out; omega) HXS.out.1 HXS.out.2.1)
                clear hrpt har k0 k1 k2 k3 k4 k5 hlt
                go_upto_region 25 with fail
                have H0 : Hid (Below wr.heap.size wr wr.drew) := Lib.hid (Below.refl _ _).drew
                refine wp_region_held_drew (S := fun W => W.heap[bx]? = some (arrObj (madeF L))) (by kernel_rfl) (hSx.out _ H0.out) (fun _ => ?_)
                refine wpAnyH_take (i := 0) (v := ?vaf0) rfl (by kernel_rfl) (by kernel_rfl) (by kernel_rfl) (fun _ _ _ h => h) (Or.inl ⟨by rfl, ?haf0⟩) (hSx.out _ H0.out) ?raf0
                case haf0 => (intro W hW; (try dsimp only at hW); go_simp; try with_reducible rfl)
                simp only [Act.put, List.getElem_toArray, List.getElem_cons_succ, List.getElem_cons_zero, List.setIfInBounds_toArray, List.set_cons_zero, List.set_cons_succ]
                refine wpAnyH_take (i := 1) (v := (.agg (cS (madeF L)).toArray)) rfl (by kernel_rfl) (by kernel_rfl) (by kernel_rfl) (fun _ _ _ h => h) (Or.inl ⟨by rfl, ?haf1⟩) (hSx.out _ H0.out) ?raf1
                case haf1 => (intro W hW; exact exec_load_img (by rfl) (by rfl) hW HOk.out.1)
                simp only [Act.put, List.getElem_toArray, List.getElem_cons_succ, List.getElem_cons_zero, List.setIfInBounds_toArray, List.set_cons_zero, List.set_cons_succ]
                refine wpAnyH_take (i := 2) (v := ?vaf2) rfl (by kernel_rfl) (by kernel_rfl) (by kernel_rfl) (fun _ _ _ h => h) (Or.inl ⟨by rfl, ?haf2⟩) (hSx.out _ H0.out) ?raf2
                case haf2 => (intro W hW; (try dsimp only at hW); go_simp; try with_reducible rfl)
                simp only [Act.put, List.getElem_toArray, List.getElem_cons_succ, List.getElem_cons_zero, List.setIfInBounds_toArray, List.set_cons_zero, List.set_cons_succ]
                refine wpAnyH_take (i := 3) (v := ?vaf3) rfl (by kernel_rfl) (by kernel_rfl) (by kernel_rfl) (fun _ _ _ h => h) (Or.inl ⟨by rfl, ?haf3⟩) (hSx.out _ H0.out) ?raf3
                case haf3 => (intro W hW; (try dsimp only at hW); go_simp; try with_reducible rfl)
                simp only [Act.put, List.getElem_toArray, List.getElem_cons_succ, List.getElem_cons_zero, List.setIfInBounds_toArray, List.set_cons_zero, List.set_cons_succ]
                refine wpAnyH_ready (rs := [4]) (by kernel_rfl) (by simp) ?_
                refine AllReadyH.cons rfl (fun K hK => ?_) AllReadyH.nil
                refine ready_call (f := 12) (vs := #[.agg (cS (madeF L)).toArray, .slice ar t (cr - 1)]) (by rfl) (by (go_simp; try with_reducible rfl)) ?_
                refine (HRA.out _ H0.out).mono ?_
                rintro e w8 ⟨rfl, hb8⟩
                have H1 : Hid (Below wr.heap.size wr w8) := Lib.hid (H0.out.trans hb8)
                refine ⟨_, rfl, hK.out _ _ (hSx.out _ H1.out) (fun _ => ?_)⟩
                clear hK K hb8
                simp only [Act.put, List.getElem_toArray, List.getElem_cons_succ, List.getElem_cons_zero, List.setIfInBounds_toArray, List.set_cons_zero, List.set_cons_succ]
                refine wpAnyH_ready (rs := [5]) (by kernel_rfl) (by simp) ?_
                refine AllReadyH.cons rfl (fun K hK => ?_) AllReadyH.nil
                refine ready_call (f := 11) (vs := #[.pointer (some ⟨g', 0, none⟩), .agg (cS (apF (madeF L) xs)).toArray]) (by rfl) (by (go_simp; try with_reducible rfl)) ?_
                refine (like_any w8 g' b' q' _ (hIm.out _ H1.out)).mono ?_
                rintro e w9 ⟨rfl, hb9⟩
                have H2 : Hid (Below wr.heap.size wr w9) := Lib.hid (H1.out.trans (hb9.mono H1.out.size))
                refine ⟨_, rfl, hK.out _ _ (hSx.out _ H2.out) (fun _ => ?_)⟩
                clear hK K hb9
                simp only [Act.put, List.getElem_toArray, List.getElem_cons_succ, List.getElem_cons_zero, List.setIfInBounds_toArray, List.set_cons_zero, List.set_cons_succ]
                refine wpAnyH_take (i := 6) (v := ?vaf6) rfl (by kernel_rfl) (by kernel_rfl) (by kernel_rfl) (fun _ _ _ h => h) (Or.inl ⟨by rfl, ?haf6⟩) (hSx.out _ H2.out) ?raf6
                case haf6 => (intro W hW; (try dsimp only at hW); go_simp; try with_reducible rfl)
                simp only [Act.put, List.getElem_toArray, List.getElem_cons_succ, List.getElem_cons_zero, List.setIfInBounds_toArray, List.set_cons_zero, List.set_cons_succ]
                refine wpAnyH_done (by kernel_rfl) ?_ _
                go_wp2_with fail
                go_ret
                have hbw := HBW7.out.trans (HBt.out.mono HBW7.out.size)
                exact ⟨rfl, hbw.trans (H2.out.mono hbw.size)⟩
          · obtain ⟨_, rfl⟩ | ⟨h0, _⟩ := hq
            rotate_left
            · exact absurd h0 hE
            have hmm := HGot0.out hE
            have hom := HOm0.out hE
            have hii := HIB.out.2 hE
            subst hmm hom
            obtain ⟨rfl, rfl⟩ := hii
            have hE1 : ((E : Int) != 0) = true := by simp; omega
            clear hE
            go_wp2_with fail
            go_ret
            exact ⟨rfl, HBW7.out⟩
    · have hm' : ((12000 : Int) < (m : Int)) := by omega
      go_wp2_with fail
      refine (HL.out _).mono ?_
      rintro e w2 ⟨rfl, hb2⟩
      go_wp2
      go_ret
      exact ⟨rfl, HB1.out.trans (hb2.mono HB1.out.size)⟩
  · have hn' : ((300 : Int) < (n : Int)) := by omega
    go_wp2_with fail
    refine (HL.out _).mono ?_
    rintro e w2 ⟨rfl, hb2⟩
    go_wp2
    go_ret
    exact ⟨rfl, HB1.out.trans (hb2.mono HB1.out.size)⟩

end Go.Proofs.YtaijldcfoaeogaaGreat
