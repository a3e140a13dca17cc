/- RootCrash, run: Commits, one behind the other, while power falls. -/
import Derived.Test.YtpdpnlgiaehegaaRLives
import Derived.BigRegion
import Derived.Deep.DeepCutAuto
import Derived.Deep.CutBlock
import Derived.Deep.RegionHeld3
namespace Go.Proofs.Ytpdpnlgiaehegaa
open Go.RowKit
set_option linter.unusedSimpArgs false

/-- A Commit: its bytes and where they lie, when power falls, and how many bytes go through. -/
structure Cm where
  a : Option Addr
  n : Nat
  c : Nat
  b : List Nat
  I : Int
  Z : Int

def Cm.none : Cm := ⟨.none, 0, 0, [], 0, 0⟩

/-- A Commit as it may come in. -/
def Cm.fits (w : World) (x : Cm) : Prop := x.I < 9223372036854775808 ∧ x.n ≤ x.c ∧ Rd w x.a x.n x.b

/-- The slice '.slice a n _' reads as the Commits X. -/
def RdC (w : World) (a : Option Addr) (n : Nat) (X : List Cm) : Prop :=
  X.length = n ∧ (∀ x ∈ X, x.fits w) ∧ (0 < n → ∃ b o, a = some ⟨b, o, none⟩ ∧ ∀ j, j < n → w.cell? ⟨b, o + j * 3, none⟩ = some (.slice (X.getD j Cm.none).a (X.getD j Cm.none).n (X.getD j Cm.none).c) ∧ w.cell? ⟨b, o + j * 3 + 1, none⟩ = some (.int .i64 (X.getD j Cm.none).I) ∧ w.cell? ⟨b, o + j * 3 + 2, none⟩ = some (.int .i64 (X.getD j Cm.none).Z))

theorem RdC.later {w w' : World} {a : Option Addr} {n : Nat} {X : List Cm} (h : RdC w a n X) (hb : Below w.heap.size w w') : RdC w' a n X := by
  refine ⟨h.1, fun x hx => ?_, fun hn => ?_⟩
  · obtain ⟨h1, h2, h3⟩ := h.2.1 x hx
    exact ⟨h1, h2, h3.later hb⟩
  obtain ⟨b, o, rfl, hc⟩ := h.2.2 hn
  refine ⟨b, o, rfl, fun j hj => ?_⟩
  have hlt : b < w.heap.size := World.block_lt_of_cell? w _ (hc j hj).1
  exact ⟨(hb.cell (p := ⟨b, o + j * 3, none⟩) hlt).trans (hc j hj).1, (hb.cell (p := ⟨b, o + j * 3 + 1, none⟩) hlt).trans (hc j hj).2.1, (hb.cell (p := ⟨b, o + j * 3 + 2, none⟩) hlt).trans (hc j hj).2.2⟩

/-- Commit, whatever the bytes, while power may fall: what is told anew. -/
theorem commit_both (w : World) (gr gd gp gb k G N : Nat) (s : Pw) (L b0 : List Nat) (hr : w.heap[gr]? = some (rootObj gd G)) (h : Dsk w gd gp gb s L k) (hi : RInv L k G b0) (hk : 4 ≤ k) (hk2 : k ≤ 23) (hne : gr ≠ gd ∧ gr ≠ gp ∧ gr ≠ gb) (hG : G < 200) (hon : s.on = true) (hw : s.within N) (hN : N < 4000000000)
    (a : Option Addr) (n c : Nat) (b : List Nat) (hb : Rd w a n b) (hnc : n ≤ c) (hn : n ≤ 3000) (hoff : 0 < n → Off a [gp, gb]) :
    Calls Try.prog 12 #[.pointer (some ⟨gr, 0, none⟩), .slice a n c] w fun e w' => ∃ (E G' : Nat) (s' : Pw) (L' b' : List Nat), e = .returned (.int .i64 (E : Int)) ∧
      Dsk w' gd gp gb s' L' k ∧ RInv L' k G' b' ∧ Save [gp, gb, gr] w w' ∧ s'.within (N + 3001) ∧ G' ≤ G + 1 ∧ (E = 0 ∧ b' = b ∨ E = 7 ∧ b' = b0 ∨ E = 11 ∧ b' = b0 ∨ E = 11 ∧ b' = b) := by
  by_cases hf : 64 * sect k < n
  · refine (commit_full w gr gd gp gb k G s L hr h hk a n c hf).mono ?_
    rintro e w' ⟨rfl, rfl⟩
    exact ⟨7, G, s, L, b0, rfl, h, hi, Save.refl _ _, hw.mono (by omega), by omega, .inr (.inl ⟨rfl, rfl⟩)⟩
  · refine (commit_any w gr gd gp gb k G N s L hr h hk hne (by omega) hw (by omega) a n c b hb (by omega) hnc hoff).mono ?_
    rintro e w' ⟨rfl, hd, _, hs, hwi⟩
    have hb1 := hb.1
    rcases hi.commit (s := s) (b := b) hk (by omega) (by omega) hon (by omega) with ⟨h0, h1⟩ | ⟨h0, h1 | h1⟩
    · exact ⟨0, G + 1, _, _, b, by rw [h0], hd, h1, hs, hwi.mono (by omega), by omega, .inl ⟨rfl, rfl⟩⟩
    · exact ⟨11, G, _, _, b0, by rw [h0], hd, h1, hs, hwi.mono (by omega), by omega, .inr (.inr (.inl ⟨rfl, rfl⟩))⟩
    · exact ⟨11, G + 1, _, _, b, by rw [h0], hd, h1, hs, hwi.mono (by omega), by omega, .inr (.inr (.inr ⟨rfl, rfl⟩))⟩

theorem within_planned {s : Pw} {N : Nat} (h : s.within N) {a : Int} (t : Int) (ha : a < 9223372036854775808) : (s.planned a t).within N := by
  refine ⟨fun k t' e => ?_, h.2⟩
  by_cases h0 : 0 ≤ a
  · rw [planned_yes _ _ h0] at e; simp at e; omega
  · rw [planned_no _ _ (by omega)] at e; cases e

theorem plan_dsk (w : World) (gd gp gb k : Nat) (s : Pw) (L : List Nat) (I Z : Int) (h : Dsk w gd gp gb s L k) :
    Calls Try.prog 15 #[.pointer (some ⟨gp, 0, none⟩), .int .i64 I, .int .i64 Z] w fun e w' => e = .returned (.tuple #[]) ∧ Dsk w' gd gp gb (s.planned I Z) L k ∧ Save [gp] w w' := by
  refine (plan_any w gp s I Z h.pow).mono ?_
  rintro e w' ⟨rfl, rfl⟩
  exact ⟨rfl, h.setPow _, (Save.refl _ _).put (by simp) _⟩

theorem up_dsk (w : World) (gd gp gb k : Nat) (s : Pw) (L : List Nat) (h : Dsk w gd gp gb s L k) :
    Calls Try.prog 16 #[.pointer (some ⟨gp, 0, none⟩)] w fun e w' => e = .returned (.tuple #[]) ∧ Dsk w' gd gp gb ⟨true, none, s.count⟩ L k ∧ Save [gp] w w' := by
  refine (up_any w gp s h.pow).mono ?_
  rintro e w' ⟨rfl, rfl⟩
  exact ⟨rfl, h.setPow _, (Save.refl _ _).put (by simp) _⟩

set_option maxHeartbeats 2000000 in
set_option maxRecDepth 100000 in
theorem rootCrash_walk (w : World) (nn : Int) (a : Option Addr) (n c : Nat) (X : List Cm) (h : RdC w a n X) (hn : n ≤ 40) :
    Calls Try.prog 4 #[.int .i64 nn, .slice a n c] w fun e w' => e = .returned (.bool true) ∧ Below w.heap.size w w' := by
  obtain ⟨u, hu⟩ : ∃ u : Nat, IntKind.u64.wrap nn = (u : Int) := ⟨(IntKind.u64.wrap nn).toNat, by rw [IntKind.wrap_u64]; omega⟩
  obtain ⟨r, hr⟩ : ∃ r : Nat, r = u % 20 := ⟨_, rfl⟩
  have hr9 : r < 20 := by omega
  have htm : (u : Int).tmod 20 = (r : Int) := by rw [Int.tmod_eq_emod_of_nonneg (by omega)]; omega
  obtain ⟨k, hk⟩ : ∃ k : Nat, k = 4 + r := ⟨_, rfl⟩
  have hk1 : 4 + (r : Int) = (k : Int) := by omega
  have hk9 : 4 ≤ k ∧ k ≤ 23 := by omega
  have HR := Lib.hid h
  have HL := Lib.hid (lives_any w)
  clear hr hk h
  go_enter Try.func4, Try.ntmps4
  go_wp2_with fail
  refine HL.out.mono ?_
  rintro e w1 ⟨rfl, hb1⟩
  have HB1 := Lib.hid hb1
  have HN := Lib.hid (new_at w1)
  clear hb1 HL
  go_wp2_with fail
  refine HN.out.mono ?_
  rintro e w2 ⟨gp, rfl, hgp, hp2, hb2⟩
  have HN2 := Lib.hid (dnew_at w2 k gp _ hp2 (by omega) (by omega))
  have HB2 := Lib.hid (HB1.out.trans (hb2.mono HB1.out.size))
  have HGP := Lib.hid (Nat.le_trans HB1.out.size hgp)
  clear hp2 hb2 hgp HN
  go_wp2_with fail
  refine HN2.out.mono ?_
  rintro e w3 ⟨gd, gb, rfl, hgd, hgb, hd3, hb3⟩
  have HB3 := Lib.hid (HB2.out.trans (hb3.mono HB2.out.size))
  have HG := Lib.hid (And.intro HGP.out (And.intro (Nat.le_trans HB2.out.size hgb) (Nat.le_trans HB2.out.size hgd)))
  have HO3 := Lib.hid (open_inv _ gd gp gb k 0 _ _ [] hd3 hk9.1 (by omega) rfl (rinv_new k hk9.1) 6 rfl)
  have HD3 := Lib.hid hd3
  clear hd3 hb3 hgd hgb HN2 HGP
  go_wp2_with fail
  refine HO3.out.mono ?_
  rintro e w4 ⟨gr, a4, c4, rfl, hgr, hrd4, hr4, hb4⟩
  have HD4 := Lib.hid (HD3.out.later hb4)
  have HB4 := Lib.hid (HB3.out.trans (hb4.mono HB3.out.size))
  have HR4 := Lib.hid hr4
  have HNE : Hid (w.heap.size ≤ gr ∧ gr ≠ gd ∧ gr ≠ gp ∧ gr ≠ gb) := Lib.hid ⟨Nat.le_trans HB3.out.size hgr, by have := HD3.out.lts; omega⟩
  clear HD3 HB3 hb4 hr4 hrd4 hgr HO3
  go_wp2
  go_loopg [7, 10, 48] n (fun gk v7 v10 i wr => ∃ (j gq G cnt : Nat) (b0 L : List Nat), gk = n - j ∧ j ≤ n ∧ i = .int .i64 (j : Int) ∧ v7 = .pointer (some ⟨gq, 0, none⟩) ∧ v10 = .string (strB b0) ∧ Hid (Dsk wr gd gp gb ⟨true, none, cnt⟩ L k ∧ cnt ≤ 4000 * j ∧ RInv L k G b0 ∧ G ≤ j ∧ wr.heap[gq]? = some (rootObj gd G) ∧ (w.heap.size ≤ gq ∧ gq ≠ gd ∧ gq ≠ gp ∧ gq ≠ gb) ∧ Below w.heap.size w wr))
  case atStart => exact ⟨0, gr, 0, 0, [], _, rfl, Nat.zero_le _, rfl, rfl, rfl, Lib.hid ⟨HD4.out, Nat.le_refl _, rinv_new k hk9.1, Nat.le_refl _, HR4.out, HNE.out, HB4.out⟩⟩
  case round =>
    obtain ⟨j, gq, G, cnt, b0, L, hgk, hj, rfl, rfl, rfl, HI⟩ := hrel
    have HGK := Lib.hid hgk
    clear hgk HD4 HR4 HNE HB4 hu hr9 htm hk1
    by_cases hlt : j < n
    · have HRr := HR.out.later HI.out.2.2.2.2.2.2
      obtain ⟨b, o, rfl, hc⟩ := HRr.2.2 (by omega)
      obtain ⟨e0, e1, e2⟩ := hc j hlt
      have hjl : j < X.length := by rw [HR.out.1]; exact hlt
      have hx := HRr.2.1 (X.getD j Cm.none) (by simp [List.getD, hjl])
      obtain ⟨x, hxe⟩ : ∃ x, x = X.getD j Cm.none := ⟨_, rfl⟩
      rw [← hxe] at e0 e1 e2 hx
      have HX0 := HR.out.2.1 (X.getD j Cm.none) (by simp [List.getD, hjl])
      rw [← hxe] at HX0
      clear hxe hc HRr hjl
      obtain ⟨ab, nb, cb, bb, I, Z⟩ := x
      simp only at e0 e1 e2
      have HX := Lib.hid hx
      have HX0 := Lib.hid HX0
      clear hx
      have HLE := Lib.hid (Nat.le_of_lt hlt)
      by_cases hbig : 3000 < nb
      · go_wp2
        go_ret
        exact ⟨rfl, HI.out.2.2.2.2.2.2.alloc HI.out.2.2.2.2.2.2.size _⟩
      · have hnb : nb ≤ 3000 := by omega
        clear hbig
        go_upto_region 13 with fail
        obtain ⟨W1, hW1⟩ : ∃ W1, W1 = wr.alloc (.cells #[.slice ab nb cb, .int .i64 I, .int .i64 Z] 45) := ⟨_, rfl⟩
        obtain ⟨q, hq⟩ : ∃ q, q = wr.heap.size := ⟨_, rfl⟩
        rw [← hW1, ← hq]
        have hob : W1.heap[q]? = some (.cells #[.slice ab nb cb, .int .i64 I, .int .i64 Z] 45 (0, 0)) := by rw [hW1, hq]; exact heap_alloc_new _ _
        have hbe : Below wr.heap.size wr W1 := by rw [hW1]; exact Below.alloc0 _ _
        have hd1 := HI.out.1.later hbe
        have hr1 : W1.heap[gq]? = some (rootObj gd G) := (hbe.block gq (lt_of_block HI.out.2.2.2.2.1)).trans HI.out.2.2.2.2.1
        have hQ : gd < q ∧ gp < q ∧ gb < q ∧ gq < q := by
          have h1 := HI.out.1.lts
          have h2 := lt_of_block HI.out.2.2.2.2.1
          omega
        have HOFF : Hid (0 < nb → Off ab [gp, gb]) := by
          refine Lib.hid fun h0 ad e => ?_
          obtain ⟨xb, xo, e', hcx⟩ := HX0.out.2.2.2.2 h0
          simp only at e'
          rw [e] at e'
          injection e' with e'
          have hlx : xb < w.heap.size := World.block_lt_of_cell? w _ (hcx 0 h0)
          have hg := HG.out
          rw [e']
          simp only [List.mem_cons, List.not_mem_nil, or_false, not_or]
          omega
        have HBW1 := Lib.hid (HI.out.2.2.2.2.2.2.trans (hbe.mono HI.out.2.2.2.2.2.2.size))
        have HPLAN : Hid (∀ W, Save [] W1 W → Calls Try.prog 15 #[.pointer (some ⟨gp, 0, none⟩), .int .i64 I, .int .i64 Z] W fun e w' => e = .returned (.tuple #[]) ∧ Dsk w' gd gp gb ((⟨true, none, cnt⟩ : Pw).planned I Z) L k ∧ Save [gp] W w') :=
          Lib.hid fun W hW => plan_dsk W gd gp gb k _ L I Z (hd1.save hW (by simp))
        have HK : Hid (∀ W, Save [gp] W1 W → W.cell? ⟨gd, 0, none⟩ = some (.pointer (some ⟨gp, 0, none⟩)) ∧ W.cell? ⟨q, 1, none⟩ = some (.int .i64 I) ∧ W.cell? ⟨q, 2, none⟩ = some (.int .i64 Z)) := by
          refine Lib.hid fun W hW => ⟨?_, ?_, ?_⟩
          · rw [cell_of_row W gd _ _ 48 (0, 0) ((hW.block gd hd1.lts.1 (by simp; exact hd1.np)).trans hd1.obj)]; rfl
          · rw [cell_of_row W q _ _ 45 (0, 0) ((hW.block q (lt_of_block hob) (by simp; omega)).trans hob)]; rfl
          · rw [cell_of_row W q _ _ 45 (0, 0) ((hW.block q (lt_of_block hob) (by simp; omega)).trans hob)]; rfl
        have HQ := Lib.hid (And.intro hQ (And.intro hob hr1))
        clear hW1 hq hob hbe hQ e0 e1 e2 hd1 hr1
        go_region_held3 (fun W => W.cell? ⟨gd, 0, none⟩ = some (.pointer (some ⟨gp, 0, none⟩)) ∧ W.cell? ⟨q, 1, none⟩ = some (.int .i64 I) ∧ W.cell? ⟨q, 2, none⟩ = some (.int .i64 Z))
          (first
            | exact HK.out _ (Save.refl _ _).drew
            | exact HK.out _ ((Save.refl _ _).drew.trans hs5)
            | go_keep)
          (first
            | (go_at_call 15; refine (HPLAN.out _ ?_).mono ?_; exact (Save.refl _ _).drew; rintro e w5 ⟨rfl, hd5, hs5⟩))
        have hs5' : Save [gp] W1 w5 := (Save.refl _ _).drew.trans hs5
        have hne5 := HI.out.2.2.2.2.2.1
        have hb5 : Below w.heap.size w w5 := HBW1.out.trans (hs5'.below HBW1.out.size (by have := HG.out; simp; omega))
        have hr5 : w5.heap[gq]? = some (rootObj gd G) := (hs5'.block gq (lt_of_block HQ.out.2.2) (by simp; omega)).trans HQ.out.2.2
        have hq5 : w5.heap[q]? = some (.cells #[.slice ab nb cb, .int .i64 I, .int .i64 Z] 45 (0, 0)) := (hs5'.block q (lt_of_block HQ.out.2.1) (by have := HQ.out.1; simp; omega)).trans HQ.out.2.1
        have hx5 : w5.cell? ⟨q, 0, none⟩ = some (.slice ab nb cb) := by rw [cell_of_row w5 q _ _ 45 (0, 0) hq5]; rfl
        have HC := Lib.hid (commit_both w5 gq gd gp gb k G (4000 * j) _ L b0 hr5 hd5 HI.out.2.2.1 hk9.1 hk9.2 hne5.2 (by have := HI.out.2.2.2.1; omega) rfl (within_planned ⟨by simp, HI.out.2.1⟩ Z HX.out.1) (by omega) ab nb cb bb (HX0.out.2.2.later hb5) HX.out.2.1 hnb HOFF.out)
        have HB5 := Lib.hid hb5
        have HQ5 := Lib.hid hq5
        have HGJ := Lib.hid HI.out.2.2.2.1
        have HNQ := Lib.hid hne5.1
        have HQL := Lib.hid HQ.out.1
        clear hs5 hs5' hne5 hb5 hr5 hq5 hd5 HPLAN HK HQ HBW1 HOFF HI
        go_wp2_with fail
        refine HC.out.mono ?_
        rintro e w6 ⟨E, G', s', L', b', rfl, hd6, hi6, hs6, hw6, hG6, hE⟩
        have hb6 : Below w.heap.size w w6 := HB5.out.trans (hs6.below HB5.out.size (by have := HG.out; have := HNQ.out; simp; omega))
        have hq6 : w6.heap[q]? = some (.cells #[.slice ab nb cb, .int .i64 I, .int .i64 Z] 45 (0, 0)) := (hs6.block q (lt_of_block HQ5.out) (by have := HQL.out; simp; omega)).trans HQ5.out
        have HU := Lib.hid (up_dsk w6 gd gp gb k s' L' hd6)
        have c6 := hd6.cells.1
        have HB6 := Lib.hid hb6
        have HQ6 := Lib.hid hq6
        have HI6 := Lib.hid hi6
        have HW6 := Lib.hid hw6
        have HG6 := Lib.hid hG6
        have HE := Lib.hid hE
        clear hd6 hi6 hs6 hw6 hG6 hE hb6 hq6 HC hx5
        go_wp2_with fail
        refine HU.out.mono ?_
        rintro e w7 ⟨rfl, hd7, hs7⟩
        have hb7 : Below w.heap.size w w7 := HB6.out.trans (hs7.below HB6.out.size (by have := HG.out; simp; omega))
        have hq7 : w7.heap[q]? = some (.cells #[.slice ab nb cb, .int .i64 I, .int .i64 Z] 45 (0, 0)) := (hs7.block q (lt_of_block HQ6.out) (by have := HQL.out; simp; omega)).trans HQ6.out
        obtain ⟨E6, hE6⟩ : ∃ E6 : Nat, E6 = if G' = 0 then 6 else 0 := ⟨_, rfl⟩
        have HO7 := Lib.hid (open_inv w7 gd gp gb k G' _ L' b' hd7 hk9.1 (by omega) rfl HI6.out E6 hE6)
        have HD7 := Lib.hid hd7
        have HB7 := Lib.hid hb7
        have HQ7 := Lib.hid hq7
        have HE6 := Lib.hid hE6
        clear hd7 hs7 hb7 hq7 HU c6 hE6
        go_wp2_with fail
        refine HO7.out.mono ?_
        rintro e w8 ⟨gs, a8, cs8, rfl, hgs, hrd8, hr8, hb8⟩
        have HO8 := Lib.hid (open_inv w8 gd gp gb k G' _ L' b' (HD7.out.later hb8) hk9.1 (by omega) rfl HI6.out E6 HE6.out)
        have HB8 := Lib.hid hb8
        have HR8 := Lib.hid hr8
        have HRD8 := Lib.hid hrd8
        have HGS := Lib.hid hgs
        clear hgs hrd8 hr8 hb8 HO7
        go_wp2_with fail
        refine HO8.out.mono ?_
        rintro e w9 ⟨gt, a9, cs9, rfl, hgt, hrd9, hr9, hb9⟩
        have hb79 : Below w7.heap.size w7 w9 := HB8.out.trans (hb9.mono HB8.out.size)
        have hb09 : Below w.heap.size w w9 := HB7.out.trans (hb79.mono HB7.out.size)
        have hr8' : w9.heap[gs]? = some (rootObj gd G') := (hb9.block gs (lt_of_block HR8.out)).trans HR8.out
        have HGN1 := Lib.hid (gen_any w9 gs gd G' hr8')
        have HGN2 := Lib.hid (gen_any w9 gt gd G' hr9)
        have v8 := conv_rd (HRD8.out.later hb9) cs8
        have v9 := conv_rd hrd9 cs9
        have HCV : Hid (∀ W, Below w9.heap.size w9 W → (convert 32 9 (.slice a8 b'.length cs8)).run Try.prog W = .ok (.string (strB b')) W) := Lib.hid fun W hW => conv_rd ((HRD8.out.later hb9).later hW) cs8
        have hx9 : w9.cell? ⟨q, 0, none⟩ = some (.slice ab nb cb) := by rw [cell_of_row w9 q _ _ 45 (0, 0) ((hb79.block q (lt_of_block HQ7.out)).trans HQ7.out)]; rfl
        have vx := conv_rd (HX0.out.2.2.later hb09) cb
        simp only at vx
        obtain ⟨z, hz⟩ : ∃ z, z = decide (G' = 0) := ⟨_, rfl⟩
        have hz1 : ((E6 : Int) == 6) = z := by rw [HE6.out, hz]; by_cases h : G' = 0 <;> simp [h]
        have hz2 : ((G' : Int) == 0) = z := by rw [hz]; by_cases h : G' = 0 <;> simp [h]
        have HEND : Hid (∀ W, Below w9.heap.size w9 W → Dsk W gd gp gb ⟨true, none, s'.count⟩ L' k ∧ s'.count ≤ 4000 * (j + 1) ∧ RInv L' k G' b' ∧ G' ≤ j + 1 ∧ W.heap[gs]? = some (rootObj gd G') ∧ (w.heap.size ≤ gs ∧ gs ≠ gd ∧ gs ≠ gp ∧ gs ≠ gb) ∧ Below w.heap.size w W) := by
          refine Lib.hid fun W hW => ⟨(HD7.out.later hb79).later hW, ?_, HI6.out, ?_, (hW.block gs (lt_of_block hr8')).trans hr8', ⟨?_, ?_⟩, hb09.trans (hW.mono hb09.size)⟩
          · have := HW6.out.2; omega
          · have := HG6.out; have := HGJ.out; omega
          · exact Nat.le_trans HB7.out.size HGS.out
          · have h1 := HD7.out.lts; have h2 := HGS.out; omega
        clear hb79 hb09 hr8' hgt hrd9 hr9 hb9 hz HO8 HRD8 HR8 HB8 HD7 HB7 HQ7 HE6 HI6 HW6 HG6
        go_wp2_with fail
        refine HGN1.out.mono ?_
        rintro e w10 ⟨rfl, rfl⟩
        go_wp2_with fail
        refine HGN2.out.mono ?_
        rintro e w10 ⟨rfl, rfl⟩
        go_wp2_with fail
        refine HGN1.out.mono ?_
        rintro e w10 ⟨rfl, rfl⟩
        have hEE := HE.out
        clear HE
        rcases hEE with ⟨hE, hbe⟩ | ⟨hE, hbe⟩ | ⟨hE, hbe⟩ | ⟨hE, hbe⟩
        · subst hE
          subst hbe
          go_upto_region 31 with fail
          go_region_held3 (fun W => (convert 32 9 (.slice a8 b'.length cs8)).run Try.prog W = .ok (.string (strB b')) W) (first | exact HCV.out _ ⟨rfl, rfl, rfl, Nat.le_refl _, fun _ _ => rfl⟩ | go_keep) (fail)
          go_wp2
          go_roundg (n - (j + 1))
          case measure => have := HGK.out; omega
          case rel => exact ⟨j + 1, gs, G', s'.count, _, L', rfl, by omega, by go_num, rfl, rfl, Lib.hid (HEND.out _ ⟨rfl, rfl, rfl, Nat.le_refl _, fun _ _ => rfl⟩)⟩
        · subst hE
          subst hbe
          go_upto_region 31 with fail
          go_region_held3 (fun W => (convert 32 9 (.slice a8 b'.length cs8)).run Try.prog W = .ok (.string (strB b')) W) (first | exact HCV.out _ ⟨rfl, rfl, rfl, Nat.le_refl _, fun _ _ => rfl⟩ | go_keep) (fail)
          go_wp2
          go_roundg (n - (j + 1))
          case measure => have := HGK.out; omega
          case rel => exact ⟨j + 1, gs, G', s'.count, _, L', rfl, by omega, by go_num, rfl, rfl, Lib.hid (HEND.out _ ⟨rfl, rfl, rfl, Nat.le_refl _, fun _ _ => rfl⟩)⟩
        · subst hE
          subst hbe
          go_upto_region 31 with fail
          go_region_held3 (fun W => (convert 32 9 (.slice a8 b'.length cs8)).run Try.prog W = .ok (.string (strB b')) W) (first | exact HCV.out _ ⟨rfl, rfl, rfl, Nat.le_refl _, fun _ _ => rfl⟩ | go_keep) (fail)
          go_wp2
          go_roundg (n - (j + 1))
          case measure => have := HGK.out; omega
          case rel => exact ⟨j + 1, gs, G', s'.count, _, L', rfl, by omega, by go_num, rfl, rfl, Lib.hid (HEND.out _ ⟨rfl, rfl, rfl, Nat.le_refl _, fun _ _ => rfl⟩)⟩
        · subst hE
          subst hbe
          by_cases hs : (strB b').toList = (strB b0).toList
          · have hsb : ((strB b').toList == (strB b0).toList) = true := by simp [hs]
            go_upto_region 31 with fail
            go_region_held3 (fun W => (convert 32 9 (.slice a8 b'.length cs8)).run Try.prog W = .ok (.string (strB b')) W) (first | exact HCV.out _ ⟨rfl, rfl, rfl, Nat.le_refl _, fun _ _ => rfl⟩ | go_keep) (fail)
            go_wp2
            go_roundg (n - (j + 1))
            case measure => have := HGK.out; omega
            case rel => exact ⟨j + 1, gs, G', s'.count, _, L', rfl, by omega, by go_num, rfl, rfl, Lib.hid (HEND.out _ ⟨rfl, rfl, rfl, Nat.le_refl _, fun _ _ => rfl⟩)⟩
          · have hsb : ((strB b').toList == (strB b0).toList) = false := by simp [hs]
            go_upto_region 31 with fail
            go_region_held3 (fun W => (convert 32 9 (.slice a8 b'.length cs8)).run Try.prog W = .ok (.string (strB b')) W) (first | exact HCV.out _ ⟨rfl, rfl, rfl, Nat.le_refl _, fun _ _ => rfl⟩ | go_keep) (fail)
            go_wp2
            go_roundg (n - (j + 1))
            case measure => have := HGK.out; omega
            case rel => exact ⟨j + 1, gs, G', s'.count, _, L', rfl, by omega, by go_num, rfl, rfl, Lib.hid (HEND.out _ ⟨rfl, rfl, rfl, Nat.le_refl _, fun _ _ => rfl⟩)⟩
    · obtain rfl : j = n := by omega
      go_wp2
      go_ret
      exact ⟨rfl, HI.out.2.2.2.2.2.2⟩

end Go.Proofs.Ytpdpnlgiaehegaa
