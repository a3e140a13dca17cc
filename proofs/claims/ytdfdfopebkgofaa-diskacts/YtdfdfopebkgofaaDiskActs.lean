/- DiskActs, run: any calls, one behind the other. -/
import Derived.Test.YtdfdfopebkgofaaDiskBoth
import Derived.BigRegion
import Derived.Deep.DeepCutAuto
import Derived.Deep.CutBlock
import Derived.Deep.RegionHeld3
namespace Go.Proofs.Ytdfdfopebkgofaa
open Go.RowKit
set_option linter.unusedSimpArgs false

/-- A call: its kind, its two numbers, its bytes and where they lie. -/
structure Cal where
  K : Nat
  I : Int
  Z : Int
  a : Option Addr
  n : Nat
  c : Nat
  b : List Nat

def Cal.none : Cal := ⟨0, 0, 0, .none, 0, 0, []⟩

/-- A call as it may come in. -/
def Cal.fits (w : World) (x : Cal) : Prop := x.K < 256 ∧ x.I < 9223372036854775808 ∧ x.n ≤ x.c ∧ Rd w x.a x.n x.b

/-- The slice '.slice a n _' reads as the calls X. -/
def RdC (w : World) (a : Option Addr) (n : Nat) (X : List Cal) : Prop :=
  X.length = n ∧ (∀ x ∈ X, x.fits w) ∧ (0 < n → ∃ b o, a = some ⟨b, o, none⟩ ∧ ∀ j, j < n → w.cell? ⟨b, o + j * 4, none⟩ = some (.int .u8 ((X.getD j Cal.none).K : Int)) ∧ w.cell? ⟨b, o + j * 4 + 1, none⟩ = some (.int .i64 (X.getD j Cal.none).I) ∧ w.cell? ⟨b, o + j * 4 + 2, none⟩ = some (.int .i64 (X.getD j Cal.none).Z) ∧ w.cell? ⟨b, o + j * 4 + 3, none⟩ = some (.slice (X.getD j Cal.none).a (X.getD j Cal.none).n (X.getD j Cal.none).c))

theorem RdC.later {w w' : World} {a : Option Addr} {n : Nat} {X : List Cal} (h : RdC w a n X) (hb : Below w.heap.size w w') : RdC w' a n X := by
  refine ⟨h.1, fun x hx => ?_, fun hn => ?_⟩
  · obtain ⟨h1, h2, h3, h4⟩ := h.2.1 x hx
    exact ⟨h1, h2, h3, h4.later hb⟩
  obtain ⟨b, o, rfl, hc⟩ := h.2.2 hn
  refine ⟨b, o, rfl, fun j hj => ?_⟩
  have hlt : b < w.heap.size := World.block_lt_of_cell? w _ (hc j hj).1
  exact ⟨(hb.cell (p := ⟨b, o + j * 4, none⟩) hlt).trans (hc j hj).1, (hb.cell (p := ⟨b, o + j * 4 + 1, none⟩) hlt).trans (hc j hj).2.1, (hb.cell (p := ⟨b, o + j * 4 + 2, none⟩) hlt).trans (hc j hj).2.2.1, (hb.cell (p := ⟨b, o + j * 4 + 3, none⟩) hlt).trans (hc j hj).2.2.2⟩

/-- The program's disk and the document's, side by side: of the same power, with the same bytes. -/
structure Both (w : World) (gd gp gb gm gr k : Nat) (s : Pw) (L : List Nat) (N : Nat) : Prop where
  dsk : Dsk w gd gp gb s L k
  mod : Mod w gm gr s L k
  wi : s.within N
  dm : gm ≠ gd ∧ gm ≠ gp ∧ gm ≠ gb
  dr : gr ≠ gd ∧ gr ≠ gp ∧ gr ≠ gb

theorem Both.later {w w' : World} {gd gp gb gm gr k N : Nat} {s : Pw} {L : List Nat} (h : Both w gd gp gb gm gr k s L N) (hb : Below w.heap.size w w') : Both w' gd gp gb gm gr k s L N :=
  ⟨h.dsk.later hb, h.mod.later hb, h.wi, h.dm, h.dr⟩

theorem Both.mono {w : World} {gd gp gb gm gr k N M : Nat} {s : Pw} {L : List Nat} (h : Both w gd gp gb gm gr k s L N) (hN : N ≤ M) : Both w gd gp gb gm gr k s L M :=
  ⟨h.dsk, h.mod, h.wi.mono hN, h.dm, h.dr⟩

theorem till_planned (s : Pw) (a t : Int) : (s.planned a t).till = max a (-1) := by
  by_cases h : 0 ≤ a
  · rw [planned_yes _ _ h]; simp only [Pw.till]; omega
  · rw [planned_no _ _ (by omega)]; simp only [Pw.till]; omega

theorem torn_planned (s : Pw) (a t : Int) : ∀ j u, (s.planned a t).plan = some (j, u) → t = u := by
  intro k t' e
  by_cases h : 0 ≤ a
  · rw [planned_yes _ _ h] at e; simp at e; exact e.2
  · rw [planned_no _ _ (by omega)] at e; cases e

theorem Pw.within.planned {s : Pw} {N : Nat} (h : s.within N) {a : Int} (t : Int) (ha : a < 9223372036854775808) : (s.planned a t).within N := by
  refine ⟨fun k t' e => ?_, h.2⟩
  by_cases h0 : 0 ≤ a
  · rw [planned_yes _ _ h0] at e; simp at e; omega
  · rw [planned_no _ _ (by omega)] at e; cases e

theorem Save.set (w : World) (g i : Nat) (u : Value) : Save [g] w (w.setCell ⟨g, i, none⟩ u) := by
  have h := grown_set w g i u
  exact ⟨h.os, h.tape, h.output, h.size, fun k hk hx => h.block k hk (by intro e; injection e with e; exact hx (by simp [e]))⟩

theorem Both.save {w w' : World} {gd gp gb gm gr k N : Nat} {s : Pw} {L : List Nat} {Y : List Nat} (h : Both w gd gp gb gm gr k s L N) (hs : Save Y w w') (hY : gd ∉ Y ∧ gp ∉ Y ∧ gb ∉ Y ∧ gm ∉ Y ∧ gr ∉ Y) : Both w' gd gp gb gm gr k s L N :=
  ⟨h.dsk.save hs ⟨hY.1, hY.2.1, hY.2.2.1⟩, h.mod.save hs ⟨hY.2.2.2.1, hY.2.2.2.2⟩, h.wi, h.dm, h.dr⟩

set_option maxHeartbeats 2000000 in
set_option maxRecDepth 100000 in
theorem diskActs_walk (w : World) (nn : Int) (a : Option Addr) (n c : Nat) (X : List Cal) (h : RdC w a n X) (hn : n ≤ 100) :
    Calls Try.prog 3 #[.int .i64 nn, .slice a n c] w fun e w' => e = .returned (.bool true) ∧ Below w.heap.size w w' := by
  obtain ⟨u, hu⟩ : ∃ u : Nat, IntKind.u64.wrap nn = (u : Int) := ⟨(IntKind.u64.wrap nn).toNat, by rw [IntKind.wrap_u64]; omega⟩
  obtain ⟨r, hr⟩ : ∃ r : Nat, r = u % 9 := ⟨_, rfl⟩
  have hr9 : r < 9 := by omega
  have htm : (u : Int).tmod 9 = (r : Int) := by rw [Int.tmod_eq_emod_of_nonneg (by omega)]; omega
  obtain ⟨k, hk⟩ : ∃ k : Nat, k = 1 + r := ⟨_, rfl⟩
  have hk1 : 1 + (r : Int) = (k : Int) := by omega
  have hk9 : 0 < k ∧ k ≤ 9 := by omega
  have HR := Lib.hid h
  have HL := Lib.hid (lives_any w)
  clear h hr hk
  go_enter Try.func3, Try.ntmps3
  go_wp2_with fail
  refine HL.out.mono ?_
  rintro e w1 ⟨rfl, hb1⟩
  have HB1 := Lib.hid hb1
  have HN := Lib.hid (new_any w1)
  clear hb1 HL
  go_wp2_with fail
  refine HN.out.mono ?_
  rintro e w2 ⟨rfl, hw2⟩
  obtain ⟨gp, hgp⟩ : ∃ gp, gp = w1.heap.size := ⟨_, rfl⟩
  rw [← hgp]
  have hp2 : Pow w2 gp ⟨true, none, 0⟩ := by rw [hw2, hgp]; exact pow_laid w1 _
  have hb2 : Below w.heap.size w w2 := by rw [hw2]; exact HB1.out.alloc HB1.out.size _
  have hs2 : w2.heap.size = gp + 1 := by rw [hw2, hgp]; simp
  have hgw : w.heap.size ≤ gp := by rw [hgp]; exact HB1.out.size
  have HN2 := Lib.hid (dnew_any w2 k gp hk9.1 (by omega))
  have hd3 := dsk_new w2 k gp _ hp2 hk9.1 (by omega)
  obtain ⟨w3, h3⟩ : ∃ w3, w3 = (w2.alloc (rowObj 5 (List.replicate (64 * k) 0))).alloc (dskObj gp w2.heap.size (64 * k)) := ⟨_, rfl⟩
  have hb3 : Below w.heap.size w w3 := by rw [h3]; exact (hb2.alloc hb2.size _).alloc (by have := hb2.size; simp; omega) _
  have hs3 : w3.heap.size = gp + 3 := by rw [h3]; simp; omega
  rw [← h3] at HN2 hd3
  obtain ⟨gd, hgd⟩ : ∃ gd, gd = w2.heap.size + 1 := ⟨_, rfl⟩
  obtain ⟨gb, hgb⟩ : ∃ gb, gb = w2.heap.size := ⟨_, rfl⟩
  rw [← hgd] at HN2 hd3
  rw [← hgb] at hd3
  obtain ⟨KK, hKK⟩ : ∃ KK : Nat, KK = 64 * k := ⟨_, rfl⟩
  have hwK : 64 * (k : Int) = (KK : Int) := by omega
  have hK576 : KK ≤ 576 := by omega
  have hmk := run_mkN KK (by omega)
  obtain ⟨w4, h4⟩ : ∃ w4, w4 = w3.alloc (rowObj 5 (List.replicate KK 0)) := ⟨_, rfl⟩
  obtain ⟨w5, h5⟩ : ∃ w5, w5 = w4.alloc (mObj w3.heap.size KK true (-1) 0) := ⟨_, rfl⟩
  have H3 := Lib.hid (And.intro hd3 (And.intro hb3 (And.intro hs3 (And.intro hgd (And.intro hgb (And.intro hs2 (And.intro h4 (And.intro h5 (And.intro hKK hgw)))))))))
  clear h3 hd3 hb3 hs3 hgd hgb hs2 h4 h5 hw2 hp2 hb2 hgp HN hgw hKK
  go_wp2_with fail
  refine HN2.out.mono ?_
  rintro e w' ⟨rfl, rfl⟩
  go_wp2_with fail
  obtain ⟨hd3, hb3, hs3, hgd, hgb, hs2, h4, h5, hKK, hgw⟩ := H3.out
  obtain ⟨gr0, hgr0⟩ : ∃ gr0, gr0 = w'.heap.size := ⟨_, rfl⟩
  obtain ⟨gm, hgm⟩ : ∃ gm, gm = w'.heap.size + 1 := ⟨_, rfl⟩
  rw [← h4]
  change Calls _ _ _ (w4.alloc (mObj w'.heap.size KK true (-1) 0)) _
  rw [← h5, ← hgm]
  have hb5 : Below w'.heap.size w' w5 := by
    rw [h5, h4]
    exact (Below.alloc0 _ _).alloc (by simp) _
  have hd5 := hd3.later hb5
  have hm5 : w5.heap[gm]? = some (mObj gr0 (64 * k) true (-1) 0) := by
    have := heap_alloc_new w4 (mObj w'.heap.size KK true (-1) 0)
    rw [← h5, show w4.heap.size = gm by rw [h4, hgm]; simp] at this
    rw [this, hgr0, hKK]
  have hr5 : w5.heap[gr0]? = some (rowObj 5 (List.replicate (64 * k) 0)) := by
    rw [h5, hgr0, ← hKK, heap_alloc_old w4 _ (show w'.heap.size < w4.heap.size by rw [h4]; simp), h4]
    exact heap_alloc_new w' _
  have HB5 : Hid (Both w5 gd gp gb gm gr0 k ⟨true, none, 0⟩ (List.replicate (64 * k) 0) 0) := Lib.hid ⟨hd5, ⟨⟨0, hm5, by simp⟩, hr5, by simp, byte_zeros _, by omega, by omega⟩, ⟨by simp, Nat.le_refl _⟩, ⟨by omega, by omega, by omega⟩, ⟨by omega, by omega, by omega⟩⟩
  have HW5 : Hid (Below w.heap.size w w5) := Lib.hid (hb3.trans (hb5.mono hb3.size))
  have HG : Hid (w.heap.size ≤ gd ∧ w.heap.size ≤ gp ∧ w.heap.size ≤ gb ∧ w.heap.size ≤ gm ∧ w.heap.size ≤ gr0) := Lib.hid ⟨by omega, by omega, by omega, by omega, by omega⟩
  have HKK := Lib.hid hKK
  clear hd3 hb3 hs3 hgd hgb hs2 h4 h5 hKK hgw hb5 hd5 hm5 hr5 hgr0 hgm H3 HN2 HB1
  refine (len_any w5 gd gp gb k _ _ HB5.out.dsk).mono ?_
  rintro e w6 ⟨rfl, rfl⟩
  go_wp2
  go_loopg [57] n (fun gk i wr => ∃ (j : Nat) (s : Pw) (L : List Nat) (gr : Nat), gk = n - j ∧ j ≤ n ∧ i = .int .i64 (j : Int) ∧ Hid (Both wr gd gp gb gm gr k s L (1000 * j) ∧ Below w.heap.size w wr ∧ w.heap.size ≤ gr))
  case atStart => exact ⟨0, _, _, gr0, rfl, Nat.zero_le _, rfl, Lib.hid ⟨HB5.out, HW5.out, HG.out.2.2.2.2⟩⟩
  case round =>
    obtain ⟨j, s, L, gr, hgk, hj, rfl, HI⟩ := hrel
    have HGK := Lib.hid hgk
    clear hgk HB5 HW5 hu hr9 htm hk1 hmk
    by_cases hlt : j < n
    · have HRr := HR.out.later HI.out.2.1
      obtain ⟨b, o, rfl, hc⟩ := HRr.2.2 (by omega)
      obtain ⟨e0, e1, e2, e3⟩ := hc j hlt
      have hjl : j < X.length := by rw [HR.out.1]; exact hlt
      have hx := HRr.2.1 (X.getD j Cal.none) (by simp [List.getD, hjl])
      obtain ⟨x, hxe⟩ : ∃ x, x = X.getD j Cal.none := ⟨_, rfl⟩
      rw [← hxe] at e0 e1 e2 e3 hx
      have HX0 := HR.out.2.1 (X.getD j Cal.none) (by simp [List.getD, hjl])
      rw [← hxe] at HX0
      clear hxe hc HRr hjl
      obtain ⟨K, I, Z, ab, nb, cb, bb⟩ := x
      simp only at e0 e1 e2 e3
      have HX := Lib.hid hx
      have HX0 := Lib.hid HX0
      clear hx
      have HLE := Lib.hid (Nat.le_of_lt hlt)
      by_cases hbig : 900 < nb ∨ 2000 < Z
      · rcases hbig with hbig | hbig
        · go_wp2
          go_ret
          exact ⟨rfl, HI.out.2.1.alloc HI.out.2.1.size _⟩
        · by_cases h9 : 900 < nb
          · go_wp2
            go_ret
            exact ⟨rfl, HI.out.2.1.alloc HI.out.2.1.size _⟩
          · have h9' : nb ≤ 900 := by omega
            clear h9
            go_wp2
            go_ret
            exact ⟨rfl, HI.out.2.1.alloc HI.out.2.1.size _⟩
      · have hnb : nb ≤ 900 := by omega
        have hZ : Z ≤ 2000 := by omega
        clear hbig
        go_upto_region 14 with fail
        obtain ⟨W1, hW1⟩ : ∃ W1, W1 = wr.alloc (.cells #[.int .u8 (K : Int), .int .i64 I, .int .i64 Z, .slice ab nb cb] 37) := ⟨_, rfl⟩
        obtain ⟨q, hq⟩ : ∃ q, q = wr.heap.size := ⟨_, rfl⟩
        rw [← hW1, ← hq]
        have hob : W1.heap[q]? = some (.cells #[.int .u8 (K : Int), .int .i64 I, .int .i64 Z, .slice ab nb cb] 37 (0, 0)) := by rw [hW1, hq]; exact heap_alloc_new _ _
        have hbe : Below wr.heap.size wr W1 := by rw [hW1]; exact Below.alloc0 _ _
        have hs1 : W1.heap.size = q + 1 := by rw [hW1, hq]; simp
        have HB1 := Lib.hid (HI.out.1.later hbe)
        have HBW1 := Lib.hid (HI.out.2.1.trans (hbe.mono HI.out.2.1.size))
        have HRd1 : Hid (Rd W1 ab nb bb) := Lib.hid (HX.out.2.2.2.later hbe)
        have hQ : gd < q ∧ gp < q ∧ gb < q ∧ gm < q ∧ gr < q := by
          have h1 := HI.out.1.dsk.lts
          have h2 := HI.out.1.mod.lts
          omega
        have HQ := Lib.hid (And.intro hQ (And.intro hs1 hob))
        have e3' : W1.cell? ⟨q, 3, none⟩ = some (.slice ab nb cb) := by rw [cell_of_row W1 q _ _ 37 (0, 0) hob]; rfl
        have e4 : (W1.alloc (.cells #[] 5)).cell? ⟨q, 3, none⟩ = some (.slice ab nb cb) := Lib.cell?_alloc_some _ e3'
        clear hW1 hq hob hbe hs1 hQ e0 e1 e2 e3
        go_wp2_with (at_builtin; have _t := hnb; refine wpList_fresh rfl (.tmp 70) (.tmp 72) rfl W1.heap.size rfl ab nb cb rfl (heap_alloc_new W1 _) bb (HRd1.out.later (Below.alloc0 _ _)) (by omega) ?next)
        case next =>
          intro gO cO w2 hgO hO hg2
          have hb2 : Below W1.heap.size W1 w2 := (Below.alloc0 W1 _).grown hg2 (by simp) (by simp)
          have HB2 := Lib.hid (HB1.out.later hb2)
          have HBW2 := Lib.hid (HBW1.out.trans (hb2.mono HBW1.out.size))
          have HRd2 := Lib.hid (HRd1.out.later hb2)
          have hQ := HQ.out.1
          have hob2 : w2.heap[q]? = some (.cells #[.int .u8 (K : Int), .int .i64 I, .int .i64 Z, .slice ab nb cb] 37 (0, 0)) := (hb2.block q (by rw [HQ.out.2.1]; omega)).trans HQ.out.2.2
          have hgq : q < gO := by rw [HQ.out.2.1] at hgO; omega
          have HO := Lib.hid hO
          have HQ2 := Lib.hid (And.intro hQ (And.intro hgq hob2))
          have p0 : w2.cell? ⟨q, 0, none⟩ = some (.int .u8 (K : Int)) := by rw [cell_of_row w2 q _ _ 37 (0, 0) hob2]; rfl
          obtain ⟨B0, hB0⟩ : ∃ B0, B0 = W1.heap.size := ⟨_, rfl⟩
          rw [← hB0] at HO
          clear hO hg2 hgO hb2 HB1 HBW1 HRd1 hQ HQ hgq hob2 e3' e4 hB0
          go_upto_block 2 with fail
          go_cut [12, 76] (fun v12 _ wx => ∃ (s' : Pw) (L' : List Nat) (gr' : Nat), v12 = .slice (some ⟨gO, 0, none⟩) nb cO ∧ Hid (Both wx gd gp gb gm gr' k s' L' (1000 * (j + 1)) ∧ Below w.heap.size w wx ∧ w.heap.size ≤ gr' ∧ Own wx B0 (.slice (some ⟨gO, 0, none⟩) nb cO) bb ∧ gO ∉ [gd, gp, gb, gm, gr']))
          case first =>
            have hgo : gO ∉ [gd, gp, gb, gm, gr] := by
              have := HQ2.out
              simp only [List.mem_cons, List.not_mem_nil, or_false, not_or]
              omega
            have HEND : Hid (∀ (wx : World) (s' : Pw) (L' : List Nat) (gr' : Nat), Both wx gd gp gb gm gr' k s' L' (1000 * (j + 1)) → Save [gp, gb, gm, gr] w2 wx → (gr' = gr ∨ w2.heap.size ≤ gr') → Hid (Both wx gd gp gb gm gr' k s' L' (1000 * (j + 1)) ∧ Below w.heap.size w wx ∧ w.heap.size ≤ gr' ∧ Own wx B0 (.slice (some ⟨gO, 0, none⟩) nb cO) bb ∧ gO ∉ [gd, gp, gb, gm, gr'])) := by
              refine Lib.hid fun wx s' L' gr' hb hsv hg => Lib.hid ⟨hb, HBW2.out.trans (hsv.below HBW2.out.size ?_), ?_, HO.out.save hsv ?_, ?_⟩
              · have h1 := HG.out
                have h2 := HI.out.2.2
                intro k' hk'
                simp only [List.mem_cons, List.not_mem_nil, or_false] at hk'
                omega
              · have h2 := HI.out.2.2
                have h3 := HBW2.out.size
                omega
              · simp only [List.mem_cons, List.not_mem_nil, or_false, not_or] at hgo ⊢
                omega
              · have h4 : gO < w2.heap.size := (HO.out.2.lt gO rfl).2
                simp only [List.mem_cons, List.not_mem_nil, or_false, not_or] at hgo ⊢
                omega
            have HRW : Hid (∀ W, Save [gp, gb, gm, gr] w2 W → Rd W ab nb bb) := by
              refine Lib.hid fun W hW => HX0.out.2.2.2.later (HBW2.out.trans (hW.below HBW2.out.size ?_))
              have h1 := HG.out
              have h2 := HI.out.2.2
              intro k' hk'
              simp only [List.mem_cons, List.not_mem_nil, or_false] at hk'
              omega
            have HOC : Hid (nb ≤ cO) := by
              obtain ⟨a', c', hv, _, hc⟩ := HO.out.sl
              injection hv with _ h2 h3
              exact Lib.hid (by omega)
            have HOFF : Hid (Off (some ⟨gO, 0, none⟩) [gp, gb]) := by
              refine Lib.hid fun ad e => ?_
              injection e with e
              subst e
              simp only [List.mem_cons, List.not_mem_nil, or_false, not_or] at hgo ⊢
              omega
            have HOFM : Hid (0 < nb → Off ab [gm, gr]) := by
              refine Lib.hid fun h0 ad e => ?_
              obtain ⟨b', o', e', hc'⟩ := HX0.out.2.2.2.2.2 h0
              have hlt' : b' < w.heap.size := World.block_lt_of_cell? w _ (hc' 0 h0)
              have e2 := e.symm.trans e'
              injection e2 with e2
              subst e2
              have h1 := HG.out
              have h2 := HI.out.2.2
              simp only [List.mem_cons, List.not_mem_nil, or_false, not_or]
              omega
            have HGO := Lib.hid hgo
            have HWI := Lib.hid HB2.out.wi
            clear hgo
            have hcase : (K : Int) % 7 = 0 ∨ (K : Int) % 7 = 2 ∨ (K : Int) % 7 = 4 ∨ (K : Int) % 7 = 5 ∨ (K : Int) % 7 = 6 ∨ (K : Int) % 7 = 1 ∨ (K : Int) % 7 = 3 := by omega
            rcases hcase with hk | hk | hk | hk | hk | hk | hk
            · obtain ⟨P, hP⟩ : ∃ P, P = dPutR s L k I nb bb := ⟨_, rfl⟩
              have hbN : 1000 * j ≤ 100000 := by omega
              have HPUT : Hid (∀ W, Save [] w2 W → Calls Try.prog 8 #[.pointer (some ⟨gd, 0, none⟩), .int .i64 I, .slice (some ⟨gO, 0, none⟩) nb cO] W fun e w' => e = .returned (.int .i64 (P.2.2 : Int)) ∧ Dsk w' gd gp gb P.1 P.2.1 k ∧ Save [gp, gb] W w' ∧ P.1.within (1000 * (j + 1))) := by
                refine Lib.hid fun W hW => ?_
                rw [hP]
                refine (putR W gd gp gb k (1000 * j) s L I _ nb cO bb (HB2.out.dsk.save hW (by simp)) HWI.out (by omega) ((HO.out.asSlice1 HX.out.2.2.2.1).save hW (by simp))).mono ?_
                rintro e w' ⟨rfl, h1, h2, h3⟩
                exact ⟨rfl, h1, h2, h3.mono (by omega)⟩
              have HMPUT : Hid (∀ W, Save [gp, gb] w2 W → Calls Try.prog 9 #[.pointer (some ⟨gm, 0, none⟩), .int .i64 I, .slice ab nb cb] W fun e w' => e = .returned (.int .i64 (P.2.2 : Int)) ∧ Mod w' gm gr P.1 P.2.1 k ∧ Save [gm, gr] W w') := by
                refine Lib.hid fun W hW => ?_
                rw [hP]
                exact mputR W gm gr k (1000 * j) s L I ab nb cb bb (HB2.out.mod.save hW (by have := HB2.out.dm; have := HB2.out.dr; simp; omega)) HWI.out (by omega) (HRW.out W (hW.mono (by simp)))
              obtain ⟨s2, L2, E⟩ := P
              simp only at HPUT HMPUT
              have HKP : Hid (∀ W, Save [gp, gb, gm, gr] w2 W → W.cell? ⟨q, 1, none⟩ = some (.int .i64 I) ∧ W.cell? ⟨q, 3, none⟩ = some (.slice ab nb cb)) := by
                refine Lib.hid fun W hW => ?_
                have hob := (hW.block q (lt_of_block HQ2.out.2.2) (by have := HQ2.out.1; simp; omega)).trans HQ2.out.2.2
                constructor <;> rw [cell_of_row W q _ _ 37 (0, 0) hob] <;> rfl
              obtain ⟨d1, d3⟩ := HKP.out w2 (Save.refl _ _)
              clear hP hbN
              go_upto_region 19 with fail
              go_region_held3 (fun W => W.cell? ⟨q, 1, none⟩ = some (.int .i64 I) ∧ W.cell? ⟨q, 3, none⟩ = some (.slice ab nb cb))
                (first
                  | exact HKP.out _ (Save.refl _ _).drew
                  | exact HKP.out _ ((Save.refl _ _).drew.trans (hs1.mono (by simp)))
                  | exact HKP.out _ (((Save.refl _ _).drew.trans (hs1.mono (by simp))).trans (hs2.mono (by simp)))
                  | go_keep)
                (first
                  | (go_at_call 8; refine (HPUT.out _ ?_).mono ?_; exact (Save.refl _ _).drew; rintro e wA ⟨rfl, hdA, hs1, hwA⟩)
                  | (go_at_call 9; refine (HMPUT.out _ ?_).mono ?_; exact (Save.refl _ _).drew.trans hs1; rintro e wB ⟨rfl, hmB, hs2⟩))
              go_wp2_with fail
              go_meet
              have hdm := HB2.out.dm
              have hdr := HB2.out.dr
              exact ⟨_, _, _, rfl, HEND.out _ s2 L2 gr ⟨hdA.save hs2 (by simp; omega), hmB, hwA, hdm, hdr⟩ (((Save.refl _ _).drew.trans (hs1.mono (by simp))).trans (hs2.mono (by simp))) (.inl rfl)⟩
            · obtain ⟨P, hP⟩ : ∃ P, P = dAllR s L k I nb bb := ⟨_, rfl⟩
              have hbN : 1000 * j ≤ 100000 := by omega
              have HPUT : Hid (∀ W, Save [] w2 W → Calls Try.prog 13 #[.pointer (some ⟨gd, 0, none⟩), .int .i64 I, .slice (some ⟨gO, 0, none⟩) nb cO] W fun e w' => e = .returned (.int .i64 (P.2.2 : Int)) ∧ Dsk w' gd gp gb P.1 P.2.1 k ∧ Save [gp, gb] W w' ∧ P.1.within (1000 * (j + 1))) := by
                refine Lib.hid fun W hW => ?_
                rw [hP]
                refine (allR W gd gp gb k (1000 * j) s L I _ nb cO bb (HB2.out.dsk.save hW (by simp)) HWI.out (by omega) ((HO.out.asSlice1 HX.out.2.2.2.1).save hW (by simp)) HOC.out HOFF.out).mono ?_
                rintro e w' ⟨rfl, h1, h2, h3⟩
                exact ⟨rfl, h1, h2, h3.mono (by omega)⟩
              have HMPUT : Hid (∀ W, Save [gp, gb] w2 W → Calls Try.prog 14 #[.pointer (some ⟨gm, 0, none⟩), .int .i64 I, .slice ab nb cb] W fun e w' => e = .returned (.int .i64 (P.2.2 : Int)) ∧ Mod w' gm gr P.1 P.2.1 k ∧ Save [gm, gr] W w') := by
                refine Lib.hid fun W hW => ?_
                rw [hP]
                exact mallR W gm gr k (1000 * j) s L I ab nb cb bb (HB2.out.mod.save hW (by have := HB2.out.dm; have := HB2.out.dr; simp; omega)) HWI.out (by omega) (HRW.out W (hW.mono (by simp))) HX.out.2.2.1 HOFM.out
              obtain ⟨s2, L2, E⟩ := P
              simp only at HPUT HMPUT
              have HKP : Hid (∀ W, Save [gp, gb, gm, gr] w2 W → W.cell? ⟨q, 1, none⟩ = some (.int .i64 I) ∧ W.cell? ⟨q, 3, none⟩ = some (.slice ab nb cb)) := by
                refine Lib.hid fun W hW => ?_
                have hob := (hW.block q (lt_of_block HQ2.out.2.2) (by have := HQ2.out.1; simp; omega)).trans HQ2.out.2.2
                constructor <;> rw [cell_of_row W q _ _ 37 (0, 0) hob] <;> rfl
              obtain ⟨d1, d3⟩ := HKP.out w2 (Save.refl _ _)
              clear hP hbN
              go_upto_region 39 with fail
              go_region_held3 (fun W => W.cell? ⟨q, 1, none⟩ = some (.int .i64 I) ∧ W.cell? ⟨q, 3, none⟩ = some (.slice ab nb cb))
                (first
                  | exact HKP.out _ (Save.refl _ _).drew
                  | exact HKP.out _ ((Save.refl _ _).drew.trans (hs1.mono (by simp)))
                  | exact HKP.out _ (((Save.refl _ _).drew.trans (hs1.mono (by simp))).trans (hs2.mono (by simp)))
                  | go_keep)
                (first
                  | (go_at_call 13; refine (HPUT.out _ ?_).mono ?_; exact (Save.refl _ _).drew; rintro e wA ⟨rfl, hdA, hs1, hwA⟩)
                  | (go_at_call 14; refine (HMPUT.out _ ?_).mono ?_; exact (Save.refl _ _).drew.trans hs1; rintro e wB ⟨rfl, hmB, hs2⟩))
              go_wp2_with fail
              go_meet
              have hdm := HB2.out.dm
              have hdr := HB2.out.dr
              exact ⟨_, _, _, rfl, HEND.out _ s2 L2 gr ⟨hdA.save hs2 (by simp; omega), hmB, hwA, hdm, hdr⟩ (((Save.refl _ _).drew.trans (hs1.mono (by simp))).trans (hs2.mono (by simp))) (.inl rfl)⟩
            · have HP := plan_any w2 gp s I Z HB2.out.dsk.pow
              obtain ⟨W3, h3⟩ : ∃ W3, W3 = put w2 gp (powObj (s.planned I Z)) := ⟨_, rfl⟩
              rw [← h3] at HP
              have HPH := Lib.hid HP
              have hsv : Save [gp] w2 W3 := by rw [h3]; exact (Save.refl _ _).put (by simp) _
              have hd3 : Dsk W3 gd gp gb (s.planned I Z) L k := by rw [h3]; exact HB2.out.dsk.setPow _
              have hob3 := (hsv.block q (lt_of_block HQ2.out.2.2) (by have := HQ2.out.1; simp; omega)).trans HQ2.out.2.2
              have hm3 := HB2.out.mod.save hsv (by have := HB2.out.dm; have := HB2.out.dr; simp; omega)
              have q1 : w2.cell? ⟨q, 1, none⟩ = some (.int .i64 I) := by rw [cell_of_row w2 q _ _ 37 (0, 0) HQ2.out.2.2]; rfl
              have q2 : w2.cell? ⟨q, 2, none⟩ = some (.int .i64 Z) := by rw [cell_of_row w2 q _ _ 37 (0, 0) HQ2.out.2.2]; rfl
              have r1 : W3.cell? ⟨q, 1, none⟩ = some (.int .i64 I) := by rw [cell_of_row W3 q _ _ 37 (0, 0) hob3]; rfl
              have r2 : W3.cell? ⟨q, 2, none⟩ = some (.int .i64 Z) := by rw [cell_of_row W3 q _ _ 37 (0, 0) hob3]; rfl
              obtain ⟨t, ht, htp⟩ := hm3.obj
              have H3 := Lib.hid (And.intro hsv (And.intro hd3 (And.intro hm3 ht)))
              obtain ⟨c0, c1, c2, c3⟩ := mcells ht
              have f3 := msoft ht
              have hqm : ¬ q = gm := by have := HQ2.out.1; omega
              have hmq : ¬ gm = q := by have := HQ2.out.1; omega
              clear hsv hd3 hob3 hm3 ht HP h3 htp
              go_wp2_with fail
              refine HPH.out.mono ?_
              rintro e W' ⟨rfl, rfl⟩
              go_upto_region 43 with fail
              go_region
              obtain ⟨W4, h4⟩ : ∃ W4, W4 = ((W'.setCell ⟨gm, 2, none⟩ (.int .i64 (max I (-1)))).setCell ⟨gm, 3, none⟩ (.int .i64 Z)).drew := ⟨_, rfl⟩
              rw [← h4]
              rw [mlay2 H3.out.2.2.2, mlay3 (put_same H3.out.2.2.2), put_put] at h4
              have HM4 : Hid (W4.heap[gm]? = some (mObj gr (64 * k) s.on (max I (-1)) Z)) := by rw [h4]; exact Lib.hid (put_same H3.out.2.2.2)
              have HSV4 : Hid (Save [gm] W' W4) := by rw [h4]; exact Lib.hid ((Save.refl _ _).put (by simp) _).drew
              clear h4 c0 c1 c2 c3 f3 q1 q2 r1 r2
              go_wp2_with fail
              go_meet
              have hdm := HB2.out.dm
              have hdr := HB2.out.dr
              refine ⟨_, _, _, rfl, HEND.out _ (s.planned I Z) L gr ⟨H3.out.2.1.save HSV4.out (by simp; omega), ⟨⟨Z, ?_, torn_planned s I Z⟩, (HSV4.out.block gr (H3.out.2.2.1.lts.2) (by have := HB2.out.mod.ne; simp; omega)).trans H3.out.2.2.1.row, H3.out.2.2.1.len, H3.out.2.2.1.byte, H3.out.2.2.1.ksmall, H3.out.2.2.1.ne⟩, (HWI.out.planned Z HX.out.2.1).mono (by omega), hdm, hdr⟩ ((H3.out.1.mono (by simp)).trans (HSV4.out.mono (by simp))) (.inl rfl)⟩
              rw [till_planned]
              exact HM4.out
            · have HP := up_any w2 gp s HB2.out.dsk.pow
              obtain ⟨W3, h3⟩ : ∃ W3, W3 = put w2 gp (powObj s.up) := ⟨_, rfl⟩
              rw [← h3] at HP
              have HPH := Lib.hid HP
              have hsv : Save [gp] w2 W3 := by rw [h3]; exact (Save.refl _ _).put (by simp) _
              have hd3 : Dsk W3 gd gp gb s.up L k := by rw [h3]; exact HB2.out.dsk.setPow _
              have hm3 := HB2.out.mod.save hsv (by have := HB2.out.dm; have := HB2.out.dr; simp; omega)
              obtain ⟨t, ht, htp⟩ := hm3.obj
              have H3 := Lib.hid (And.intro hsv (And.intro hd3 (And.intro hm3 ht)))
              obtain ⟨c0, c1, c2, c3⟩ := mcells ht
              have f3 := msoft ht
              have g0 := HB2.out.dsk.cells.1
              clear hsv hd3 hm3 ht HP h3 htp
              go_wp2_with fail
              refine HPH.out.mono ?_
              rintro e W' ⟨rfl, rfl⟩
              go_wp2_with fail
              obtain ⟨W4, h4⟩ : ∃ W4, W4 = (W'.setCell ⟨gm, 1, none⟩ (.bool true)).setCell ⟨gm, 2, none⟩ (.int .i64 (-1)) := ⟨_, rfl⟩
              rw [← h4]
              rw [mlay1 H3.out.2.2.2, mlay2 (put_same H3.out.2.2.2), put_put] at h4
              have HM4 : Hid (W4.heap[gm]? = some (mObj gr (64 * k) true (-1) t)) := by rw [h4]; exact Lib.hid (put_same H3.out.2.2.2)
              have HSV4 : Hid (Save [gm] W' W4) := by rw [h4]; exact Lib.hid ((Save.refl _ _).put (by simp) _)
              clear h4 c0 c1 c2 c3 f3 g0
              go_meet
              have hdm := HB2.out.dm
              have hdr := HB2.out.dr
              exact ⟨_, _, _, rfl, HEND.out _ s.up L gr ⟨H3.out.2.1.save HSV4.out (by simp; omega), ⟨⟨t, HM4.out, (by intro j u e; cases e)⟩, (HSV4.out.block gr (H3.out.2.2.1.lts.2) (by have := HB2.out.mod.ne; simp; omega)).trans H3.out.2.2.1.row, H3.out.2.2.1.len, H3.out.2.2.1.byte, H3.out.2.2.1.ksmall, H3.out.2.2.1.ne⟩, ⟨(by intro j u e; cases e), Nat.le_trans HWI.out.2 (by omega)⟩, hdm, hdr⟩ ((H3.out.1.mono (by simp)).trans (HSV4.out.mono (by simp))) (.inl rfl)⟩
            · have HP := erase_any w2 gd gp gb k s L HB2.out.dsk
              obtain ⟨W3, h3⟩ : ∃ W3, W3 = put w2 gb (rowObj 5 (List.replicate (64 * k) 0)) := ⟨_, rfl⟩
              rw [← h3] at HP
              have HPH := Lib.hid HP
              have hsv : Save [gb] w2 W3 := by rw [h3]; exact (Save.refl _ _).put (by simp) _
              have hd3 : Dsk W3 gd gp gb s (List.replicate (64 * k) 0) k := by rw [h3]; exact HB2.out.dsk.setRow (by simp) (byte_zeros _)
              have hm3 := HB2.out.mod.save hsv (by have := HB2.out.dm; have := HB2.out.dr; simp; omega)
              have hs3 : W3.heap.size = w2.heap.size := by rw [h3, put_size]
              obtain ⟨t, ht, htp⟩ := hm3.obj
              obtain ⟨W4, h4⟩ : ∃ W4, W4 = W3.alloc (rowObj 5 (List.replicate KK 0)) := ⟨_, rfl⟩
              have hb4 : Below W3.heap.size W3 W4 := by rw [h4]; exact Below.alloc0 _ _
              have ht4 : W4.heap[gm]? = some (mObj gr (64 * k) s.on s.till t) := (hb4.block gm hm3.lts.1).trans ht
              have hrow4 : W4.heap[w2.heap.size]? = some (rowObj 5 (List.replicate (64 * k) 0)) := by
                rw [h4, ← hs3, ← HKK.out]
                exact heap_alloc_new _ _
              have hmk : (Instr.makeSlice 32 (.int .i64 (KK : Int)) (.int .i64 (KK : Int))).run Try.prog W3 = .ok (.slice (some ⟨w2.heap.size, 0, none⟩) KK KK) W4 := by
                rw [h4, ← hs3]
                exact run_mkN KK (by omega) W3
              obtain ⟨g4, hg4⟩ : ∃ g4, g4 = w2.heap.size := ⟨_, rfl⟩
              rw [← hg4] at hmk hrow4
              have H3 := Lib.hid (And.intro (hsv.trans (Save.of_below hb4 _)) (And.intro (hd3.later hb4) (And.intro ht4 (And.intro hrow4 (And.intro htp hg4)))))
              obtain ⟨c0, c1, c2, c3⟩ := mcells ht4
              have f3 := msoft ht4
              clear hsv hd3 hm3 ht HP h3 htp hs3 h4 hb4 ht4 hrow4 hg4
              go_wp2_with fail
              refine HPH.out.mono ?_
              rintro e W' ⟨rfl, rfl⟩
              go_wp2_with fail
              obtain ⟨W5, h5⟩ : ∃ W5, W5 = W4.setCell ⟨gm, 0, none⟩ (.slice (some ⟨g4, 0, none⟩) KK KK) := ⟨_, rfl⟩
              rw [← h5]
              have ht4 := H3.out.2.2.1
              rw [HKK.out, mlay0 ht4] at h5
              have HM5 : Hid (W5.heap[gm]? = some (mObj g4 (64 * k) s.on s.till t)) := by rw [h5]; exact Lib.hid (put_same ht4)
              have HSV5 : Hid (Save [gm] W4 W5) := by rw [h5]; exact Lib.hid ((Save.refl _ _).put (by simp) _)
              clear h5 c0 c1 c2 c3 f3 ht4
              go_meet
              have hdm := HB2.out.dm
              have hdr := HB2.out.dr
              have hlts := HB2.out.dsk.lts
              have hltm := HB2.out.mod.lts
              have hg4 := H3.out.2.2.2.2.2
              have hmne : gm ≠ g4 := by omega
              exact ⟨_, _, _, rfl, HEND.out _ s (List.replicate (64 * k) 0) g4 ⟨H3.out.2.1.save HSV5.out (by simp; omega), ⟨⟨t, HM5.out, H3.out.2.2.2.2.1⟩, (HSV5.out.block g4 (lt_of_block H3.out.2.2.2.1) (by simp; omega)).trans H3.out.2.2.2.1, by simp, byte_zeros _, HB2.out.mod.ksmall, hmne⟩, HWI.out.mono (by omega), hdm, ⟨by omega, by omega, by omega⟩⟩ ((H3.out.1.mono (by simp)).trans (HSV5.out.mono (by simp))) (.inr (by omega))⟩
            · have q1 : w2.cell? ⟨q, 1, none⟩ = some (.int .i64 I) := by rw [cell_of_row w2 q _ _ 37 (0, 0) HQ2.out.2.2]; rfl
              have q2 : w2.cell? ⟨q, 2, none⟩ = some (.int .i64 Z) := by rw [cell_of_row w2 q _ _ 37 (0, 0) HQ2.out.2.2]; rfl
              have HGET := Lib.hid (getR w2 gd gp gb k s L I HB2.out.dsk hk9.2)
              go_wp2_with fail
              refine HGET.out.mono ?_
              rintro e w3 ⟨vG, rfl, hvG, hbG⟩
              have hob3 := (hbG.block q (lt_of_block HQ2.out.2.2)).trans HQ2.out.2.2
              have r0 : w3.cell? ⟨q, 0, none⟩ = some (.int .u8 (K : Int)) := by rw [cell_of_row w3 q _ _ 37 (0, 0) hob3]; rfl
              have r1 : w3.cell? ⟨q, 1, none⟩ = some (.int .i64 I) := by rw [cell_of_row w3 q _ _ 37 (0, 0) hob3]; rfl
              have HB3 := HB2.out.later hbG
              have HREAD := Lib.hid (readR w3 gm gr k s L I 64 HB3.mod)
              have HVB := Lib.hid (And.intro hvG hbG)
              obtain ⟨E, hE⟩ : ∃ E : Nat, E = dErr s k I 64 := ⟨_, rfl⟩
              rw [← hE] at HREAD ⊢
              have HE := Lib.hid hE
              clear hvG hbG HB3 hob3 hE HGET
              go_wp2_with fail
              refine HREAD.out.mono ?_
              rintro e w4 ⟨aW, nW, cW, rfl, rfl, hrW⟩
              have hvG := HVB.out.1
              have hbG := HVB.out.2
              obtain ⟨WB, hWB⟩ : ∃ WB, WB = w2.heap.size := ⟨_, rfl⟩
              rw [← hWB] at hvG
              have HWB := Lib.hid hWB
              clear hWB
              obtain ⟨aV, cV, hvE, hrV, _, hbV⟩ := hvG.lies
              obtain ⟨m, hm⟩ : ∃ m, m = (dGot s L k I 64).length := ⟨_, rfl⟩
              rw [← hm] at hvE hrV
              subst hvE
              have hrW2 : Rd w4 aW nW (dGot s L k I 64) := hrW
              obtain ⟨S, hS⟩ : ∃ S, S = strB (dGot s L k I 64) := ⟨_, rfl⟩
              have hcv1 : (convert 32 9 (.slice aV m cV)).run Try.prog w4 = .ok (.string S) w4 := by
                rw [hS]
                exact conv_rd hrV cV
              have hcv2 : (convert 32 9 (.slice aW nW cW)).run Try.prog w4 = .ok (.string S) w4 := by
                rw [hS]
                exact conv_rd hrW2 cW
              have HVG := Lib.hid (And.intro hvG (And.intro hm hbG))
              have hm576 : m ≤ 576 := by
                have h1 := dGot_le s L k I 64
                have h2 := HB2.out.dsk.len
                omega
              clear hrV hbV hm hrW hrW2 hS hvG hbG
              by_cases hIk : I = (k : Int)
              · have hE1 : E = 1 := by rw [HE.out, hIk]; exact err_last s k
                subst hE1
                subst hIk
                go_wp2
                clear hcv1 hcv2 hk
                go_loopg [153] m (fun gt i wq => ∃ (t : Nat) (ll : List Nat), gt = m - t ∧ t ≤ m ∧ i = .int .i64 (t : Int) ∧ Hid (Own wq WB (.slice aV m cV) ll ∧ ll.length = m ∧ Below w2.heap.size w2 wq))
                case atStart => exact ⟨0, _, rfl, Nat.zero_le _, rfl, Lib.hid ⟨HVG.out.1, HVG.out.2.1.symm, HVG.out.2.2⟩⟩
                case round =>
                  obtain ⟨t, ll, hgt, ht, rfl, HO2⟩ := hrel
                  have HGT := Lib.hid hgt
                  clear hgt
                  by_cases hlt2 : t < m
                  · have hO2 := HO2.out.1
                    obtain ⟨gV, cV', hvv⟩ := hO2.held (by rw [HO2.out.2.1]; omega)
                    injection hvv with hv1 hv2 hv3
                    subst hv1
                    have hrd := hO2.asSlice1 HO2.out.2.1
                    obtain ⟨g', o', he, hcell⟩ := hrd.2.2 (by omega)
                    injection he with he
                    injection he with he1 he2
                    subst he1
                    subst he2
                    have hc1 := hcell t hlt2
                    rw [Nat.zero_add] at hc1
                    obtain ⟨y, hy⟩ : ∃ y, y = ll.getD t 0 := ⟨_, rfl⟩
                    have hy2 : y < 256 := by
                      rw [hy]
                      exact hrd.2.1 _ (by simp [List.getD, show t < ll.length by rw [HO2.out.2.1]; exact hlt2])
                    rw [← hy] at hc1
                    have hf : wr.frozen? ⟨gV, t, none⟩ = false := by
                      rcases hO2.2.2 with ⟨hv, _⟩ | ⟨g', cap', cur, hv, _, hgo, _⟩
                      · cases hv
                      · injection hv with e1 e2 e3
                        injection e1 with e1
                        injection e1 with e1
                        subst e1
                        simp [World.frozen?, hgo]
                    obtain ⟨y2, hbt, hy3⟩ : ∃ y2 : Nat, bits BinOp.xor IntKind.u8 (y : Int) 255 = (y2 : Int) ∧ y2 < 256 := ⟨y ^^^ 255, u8_xor_nat y 255 hy2 (by omega), Nat.xor_lt_two_pow (n := 8) hy2 (by omega)⟩
                    have HY3 := Lib.hid hy3
                    have HGV := Lib.hid (hO2.2.lt gV rfl).1
                    clear hcell hrd hy hy2 hy3 hv2 hv3 hO2
                    go_wp2
                    go_roundg (m - (t + 1))
                    case measure => have := HGT.out; omega
                    case rel => exact ⟨t + 1, ll.set t y2, rfl, by omega, by go_num, Lib.hid ⟨HO2.out.1.set HO2.out.2.1 t y2 HY3.out, by rw [List.length_set]; exact HO2.out.2.1, HO2.out.2.2.trans ((Save.set _ _ _ _).below HO2.out.2.2.size (by have := HGV.out; have := HWB.out; intro k' hk'; simp only [List.mem_cons, List.not_mem_nil, or_false] at hk'; omega))⟩⟩
                  · have htn : t = m := by omega
                    subst htn
                    clear hlt2
                    go_wp2_with fail
                    go_meet
                    exact ⟨_, _, _, rfl, HEND.out _ s L gr ((HB2.out.later HO2.out.2.2).mono (by omega)) (Save.of_below HO2.out.2.2 _) (.inl rfl)⟩
              · have hIk' : (I == (k : Int)) = false := by simpa using hIk
                have HIK := Lib.hid hIk
                clear hIk
                go_wp2
                clear hcv1 hcv2 hk
                go_loopg [153] m (fun gt i wq => ∃ (t : Nat) (ll : List Nat), gt = m - t ∧ t ≤ m ∧ i = .int .i64 (t : Int) ∧ Hid (Own wq WB (.slice aV m cV) ll ∧ ll.length = m ∧ Below w2.heap.size w2 wq))
                case atStart => exact ⟨0, _, rfl, Nat.zero_le _, rfl, Lib.hid ⟨HVG.out.1, HVG.out.2.1.symm, HVG.out.2.2⟩⟩
                case round =>
                  obtain ⟨t, ll, hgt, ht, rfl, HO2⟩ := hrel
                  have HGT := Lib.hid hgt
                  clear hgt
                  by_cases hlt2 : t < m
                  · have hO2 := HO2.out.1
                    obtain ⟨gV, cV', hvv⟩ := hO2.held (by rw [HO2.out.2.1]; omega)
                    injection hvv with hv1 hv2 hv3
                    subst hv1
                    have hrd := hO2.asSlice1 HO2.out.2.1
                    obtain ⟨g', o', he, hcell⟩ := hrd.2.2 (by omega)
                    injection he with he
                    injection he with he1 he2
                    subst he1
                    subst he2
                    have hc1 := hcell t hlt2
                    rw [Nat.zero_add] at hc1
                    obtain ⟨y, hy⟩ : ∃ y, y = ll.getD t 0 := ⟨_, rfl⟩
                    have hy2 : y < 256 := by
                      rw [hy]
                      exact hrd.2.1 _ (by simp [List.getD, show t < ll.length by rw [HO2.out.2.1]; exact hlt2])
                    rw [← hy] at hc1
                    have hf : wr.frozen? ⟨gV, t, none⟩ = false := by
                      rcases hO2.2.2 with ⟨hv, _⟩ | ⟨g', cap', cur, hv, _, hgo, _⟩
                      · cases hv
                      · injection hv with e1 e2 e3
                        injection e1 with e1
                        injection e1 with e1
                        subst e1
                        simp [World.frozen?, hgo]
                    obtain ⟨y2, hbt, hy3⟩ : ∃ y2 : Nat, bits BinOp.xor IntKind.u8 (y : Int) 255 = (y2 : Int) ∧ y2 < 256 := ⟨y ^^^ 255, u8_xor_nat y 255 hy2 (by omega), Nat.xor_lt_two_pow (n := 8) hy2 (by omega)⟩
                    have HY3 := Lib.hid hy3
                    have HGV := Lib.hid (hO2.2.lt gV rfl).1
                    clear hcell hrd hy hy2 hy3 hv2 hv3 hO2
                    go_wp2
                    go_roundg (m - (t + 1))
                    case measure => have := HGT.out; omega
                    case rel => exact ⟨t + 1, ll.set t y2, rfl, by omega, by go_num, Lib.hid ⟨HO2.out.1.set HO2.out.2.1 t y2 HY3.out, by rw [List.length_set]; exact HO2.out.2.1, HO2.out.2.2.trans ((Save.set _ _ _ _).below HO2.out.2.2.size (by have := HGV.out; have := HWB.out; intro k' hk'; simp only [List.mem_cons, List.not_mem_nil, or_false] at hk'; omega))⟩⟩
                  · have htn : t = m := by omega
                    subst htn
                    clear hlt2
                    go_wp2_with fail
                    go_meet
                    exact ⟨_, _, _, rfl, HEND.out _ s L gr ((HB2.out.later HO2.out.2.2).mono (by omega)) (Save.of_below HO2.out.2.2 _) (.inl rfl)⟩
            · have q1 : w2.cell? ⟨q, 1, none⟩ = some (.int .i64 I) := by rw [cell_of_row w2 q _ _ 37 (0, 0) HQ2.out.2.2]; rfl
              have q2 : w2.cell? ⟨q, 2, none⟩ = some (.int .i64 Z) := by rw [cell_of_row w2 q _ _ 37 (0, 0) HQ2.out.2.2]; rfl
              have HGET := Lib.hid (getR w2 gd gp gb k s L I HB2.out.dsk hk9.2)
              go_wp2_with fail
              refine HGET.out.mono ?_
              rintro e w3 ⟨vG, rfl, hvG, hbG⟩
              have hob3 := (hbG.block q (lt_of_block HQ2.out.2.2)).trans HQ2.out.2.2
              have r0 : w3.cell? ⟨q, 0, none⟩ = some (.int .u8 (K : Int)) := by rw [cell_of_row w3 q _ _ 37 (0, 0) hob3]; rfl
              have r1 : w3.cell? ⟨q, 1, none⟩ = some (.int .i64 I) := by rw [cell_of_row w3 q _ _ 37 (0, 0) hob3]; rfl
              have HB3 := HB2.out.later hbG
              have HGETA := Lib.hid (getAllR w3 gd gp gb k s L I Z HB3.dsk hk9.2)
              have HVB := Lib.hid (And.intro hbG HB3)
              obtain ⟨E0, hE0⟩ : ∃ E0 : Nat, E0 = dErr s k I 64 := ⟨_, rfl⟩
              obtain ⟨E, hE⟩ : ∃ E : Nat, E = dErr s k I Z := ⟨_, rfl⟩
              rw [← hE0]
              rw [← hE] at HGETA
              have HE := Lib.hid hE
              obtain ⟨a0, c0, hv0, _⟩ := hvG.sl
              have r2 : w3.cell? ⟨q, 2, none⟩ = some (.int .i64 Z) := by rw [cell_of_row w3 q _ _ 37 (0, 0) hob3]; rfl
              clear hvG hbG HB3 hE HGET hE0 hv0
              go_wp2_with fail
              refine HGETA.out.mono ?_
              rintro e w4 ⟨vH, rfl, hvG, hb4⟩
              have hob4 := (hb4.block q (lt_of_block hob3)).trans hob3
              have s0 : w4.cell? ⟨q, 0, none⟩ = some (.int .u8 (K : Int)) := by rw [cell_of_row w4 q _ _ 37 (0, 0) hob4]; rfl
              have s1 : w4.cell? ⟨q, 1, none⟩ = some (.int .i64 I) := by rw [cell_of_row w4 q _ _ 37 (0, 0) hob4]; rfl
              have HREAD := Lib.hid (readR w4 gm gr k s L I Z (HVB.out.2.later hb4).mod)
              rw [← HE.out] at HREAD
              have HVB4 := Lib.hid (And.intro hvG (HVB.out.1.trans (hb4.mono HVB.out.1.size)))
              have H3S := Lib.hid HVB.out.1.size
              clear hvG hb4 hob3 hob4 HGETA r0 r1 r2 q1 q2
              go_wp2_with fail
              refine HREAD.out.mono ?_
              rintro e w5 ⟨aW, nW, cW, rfl, rfl, hrW⟩
              have hvG := HVB4.out.1
              have hbG := HVB4.out.2
              obtain ⟨WB, hWB⟩ : ∃ WB, WB = w3.heap.size := ⟨_, rfl⟩
              rw [← hWB] at hvG
              have HWB : Hid (w2.heap.size ≤ WB) := Lib.hid (by rw [hWB]; exact H3S.out)
              clear hWB
              obtain ⟨aV, cV, hvE, hrV, _, hbV⟩ := hvG.lies
              obtain ⟨m, hm⟩ : ∃ m, m = (dGot s L k I Z).length := ⟨_, rfl⟩
              rw [← hm] at hvE hrV
              subst hvE
              have hrW2 : Rd w5 aW nW (dGot s L k I Z) := hrW
              obtain ⟨S, hS⟩ : ∃ S, S = strB (dGot s L k I Z) := ⟨_, rfl⟩
              have hcv1 : (convert 32 9 (.slice aV m cV)).run Try.prog w5 = .ok (.string S) w5 := by
                rw [hS]
                exact conv_rd hrV cV
              have hcv2 : (convert 32 9 (.slice aW nW cW)).run Try.prog w5 = .ok (.string S) w5 := by
                rw [hS]
                exact conv_rd hrW2 cW
              have HVG := Lib.hid (And.intro hvG (And.intro hm hbG))
              have hm576 : m ≤ 576 := by
                have h1 := dGot_le s L k I Z
                have h2 := HB2.out.dsk.len
                omega
              clear hrV hbV hm hrW hrW2 hS hvG hbG
              go_wp2
              clear hcv1 hcv2 hk
              go_loopg [153] m (fun gt i wq => ∃ (t : Nat) (ll : List Nat), gt = m - t ∧ t ≤ m ∧ i = .int .i64 (t : Int) ∧ Hid (Own wq WB (.slice aV m cV) ll ∧ ll.length = m ∧ Below w2.heap.size w2 wq))
              case atStart => exact ⟨0, _, rfl, Nat.zero_le _, rfl, Lib.hid ⟨HVG.out.1, HVG.out.2.1.symm, HVG.out.2.2⟩⟩
              case round =>
                obtain ⟨t, ll, hgt, ht, rfl, HO2⟩ := hrel
                have HGT := Lib.hid hgt
                clear hgt
                by_cases hlt2 : t < m
                · have hO2 := HO2.out.1
                  obtain ⟨gV, cV', hvv⟩ := hO2.held (by rw [HO2.out.2.1]; omega)
                  injection hvv with hv1 hv2 hv3
                  subst hv1
                  have hrd := hO2.asSlice1 HO2.out.2.1
                  obtain ⟨g', o', he, hcell⟩ := hrd.2.2 (by omega)
                  injection he with he
                  injection he with he1 he2
                  subst he1
                  subst he2
                  have hc1 := hcell t hlt2
                  rw [Nat.zero_add] at hc1
                  obtain ⟨y, hy⟩ : ∃ y, y = ll.getD t 0 := ⟨_, rfl⟩
                  have hy2 : y < 256 := by
                    rw [hy]
                    exact hrd.2.1 _ (by simp [List.getD, show t < ll.length by rw [HO2.out.2.1]; exact hlt2])
                  rw [← hy] at hc1
                  have hf : wr.frozen? ⟨gV, t, none⟩ = false := by
                    rcases hO2.2.2 with ⟨hv, _⟩ | ⟨g', cap', cur, hv, _, hgo, _⟩
                    · cases hv
                    · injection hv with e1 e2 e3
                      injection e1 with e1
                      injection e1 with e1
                      subst e1
                      simp [World.frozen?, hgo]
                  obtain ⟨y2, hbt, hy3⟩ : ∃ y2 : Nat, bits BinOp.xor IntKind.u8 (y : Int) 255 = (y2 : Int) ∧ y2 < 256 := ⟨y ^^^ 255, u8_xor_nat y 255 hy2 (by omega), Nat.xor_lt_two_pow (n := 8) hy2 (by omega)⟩
                  have HY3 := Lib.hid hy3
                  have HGV := Lib.hid (hO2.2.lt gV rfl).1
                  clear hcell hrd hy hy2 hy3 hv2 hv3 hO2
                  go_wp2
                  go_roundg (m - (t + 1))
                  case measure => have := HGT.out; omega
                  case rel => exact ⟨t + 1, ll.set t y2, rfl, by omega, by go_num, Lib.hid ⟨HO2.out.1.set HO2.out.2.1 t y2 HY3.out, by rw [List.length_set]; exact HO2.out.2.1, HO2.out.2.2.trans ((Save.set _ _ _ _).below HO2.out.2.2.size (by have := HGV.out; have := HWB.out; intro k' hk'; simp only [List.mem_cons, List.not_mem_nil, or_false] at hk'; omega))⟩⟩
                · have htn : t = m := by omega
                  subst htn
                  clear hlt2
                  go_wp2_with fail
                  go_meet
                  exact ⟨_, _, _, rfl, HEND.out _ s L gr ((HB2.out.later HO2.out.2.2).mono (by omega)) (Save.of_below HO2.out.2.2 _) (.inl rfl)⟩
          case rest =>
            obtain ⟨s', L', gr', rfl, HC⟩ := hcut
            have hbl : bb.length = nb := HX.out.2.2.2.1
            have HBL := Lib.hid hbl
            clear hbl p0
            go_wp2
            go_loopg [211] nb (fun gt i wq => ∃ (t : Nat) (ll : List Nat), gt = nb - t ∧ t ≤ nb ∧ i = .int .i64 (t : Int) ∧ Hid (Own wq B0 (.slice (some ⟨gO, 0, none⟩) nb cO) ll ∧ ll.length = nb ∧ Save [gO] wc wq))
            case atStart => exact ⟨0, bb, rfl, Nat.zero_le _, rfl, Lib.hid ⟨HC.out.2.2.2.1, HBL.out, Save.refl _ _⟩⟩
            case round =>
              obtain ⟨t, ll, hgt, ht, rfl, HO2⟩ := hrel
              have HGT := Lib.hid hgt
              clear hgt
              by_cases hlt2 : t < nb
              · have hrd := HO2.out.1.asSlice1 HO2.out.2.1
                obtain ⟨g', o', he, hcell⟩ := hrd.2.2 (by omega)
                injection he with he
                injection he with he1 he2
                subst he1
                subst he2
                have hc1 := hcell t hlt2
                rw [Nat.zero_add] at hc1
                obtain ⟨y, hy⟩ : ∃ y, y = ll.getD t 0 := ⟨_, rfl⟩
                have hy2 : y < 256 := by
                  rw [hy]
                  exact hrd.2.1 _ (by simp [List.getD, show t < ll.length by rw [HO2.out.2.1]; exact hlt2])
                rw [← hy] at hc1
                have hf : wr.frozen? ⟨gO, t, none⟩ = false := by
                  rcases HO2.out.1.2.2 with ⟨hv, _⟩ | ⟨g', cap', cur, hv, _, hgo, _⟩
                  · cases hv
                  · injection hv with e1 e2 e3
                    injection e1 with e1
                    injection e1 with e1
                    subst e1
                    simp [World.frozen?, hgo]
                obtain ⟨y2, hbt, hy3⟩ : ∃ y2 : Nat, bits BinOp.xor IntKind.u8 (y : Int) 255 = (y2 : Int) ∧ y2 < 256 := ⟨y ^^^ 255, u8_xor_nat y 255 hy2 (by omega), Nat.xor_lt_two_pow (n := 8) hy2 (by omega)⟩
                have HY3 := Lib.hid hy3
                clear hcell hrd hy hy2 hy3
                go_wp2
                go_roundg (nb - (t + 1))
                case measure => have := HGT.out; omega
                case rel => exact ⟨t + 1, ll.set t y2, rfl, by omega, by go_num, Lib.hid ⟨HO2.out.1.set HO2.out.2.1 t y2 HY3.out, by rw [List.length_set]; exact HO2.out.2.1, HO2.out.2.2.trans (Save.set _ _ _ _)⟩⟩
              · have htn : t = nb := by omega
                subst htn
                clear hlt2
                go_wp2
                go_roundg (n - (j + 1))
                case measure => have := HGK.out; omega
                case rel => exact ⟨j + 1, s', L', gr', rfl, by omega, by go_num, Lib.hid ⟨HC.out.1.save HO2.out.2.2 (by have := HC.out.2.2.2.2; simp only [List.mem_cons, List.not_mem_nil, or_false, not_or] at this ⊢; omega), HC.out.2.1.trans (HO2.out.2.2.below HC.out.2.1.size (by have := HQ2.out; have := HG.out; intro k' hk'; simp only [List.mem_cons, List.not_mem_nil, or_false] at hk'; omega)), HC.out.2.2.1⟩⟩
    · have hjn : n = j := by omega
      subst hjn
      clear hlt
      have c0 := HI.out.1.dsk.cells.1
      have HU := Lib.hid (up_any wr gp s HI.out.1.dsk.pow)
      obtain ⟨w7, h7⟩ : ∃ w7, w7 = put wr gp (powObj s.up) := ⟨_, rfl⟩
      rw [← h7] at HU
      have hd7 : Dsk w7 gd gp gb s.up L k := by rw [h7]; exact HI.out.1.dsk.setPow _
      have hm7 : w7.heap[gm]? = wr.heap[gm]? := by rw [h7]; exact put_other HI.out.1.dm.2.1
      have hr7 : w7.heap[gr]? = wr.heap[gr]? := by rw [h7]; exact put_other HI.out.1.dr.2.1
      have hb7 : Below w.heap.size w w7 := by rw [h7]; exact HI.out.2.1.trans (put_below _ HG.out.2.1)
      have HGA := getAllR w7 gd gp gb k s.up L 0 (KK : Int) hd7 hk9.2
      have he : dErr s.up k 0 (KK : Int) = 0 := by
        have := HKK.out
        unfold dErr
        rw [if_neg (by omega), if_pos (show s.up.on = true from rfl)]
      have hg : dGot s.up L k 0 (KK : Int) = L := by
        unfold dGot
        rw [he, if_pos rfl]
        unfold dCut
        have h1 : ((0 : Int).toNat) = 0 := rfl
        rw [h1, Int.toNat_natCast, Nat.mul_zero, List.drop_zero, List.take_of_length_le (by rw [HI.out.1.dsk.len, HKK.out]; exact Nat.le_refl _)]
      rw [he, hg] at HGA
      have HGAH := Lib.hid HGA
      have H7 := Lib.hid (And.intro hd7 (And.intro hm7 (And.intro hr7 hb7)))
      clear hd7 hm7 hr7 hb7 HGA he hg h7
      go_wp2_with fail
      refine HU.out.mono ?_
      rintro e w8 ⟨rfl, rfl⟩
      go_wp2_with fail
      refine HGAH.out.mono ?_
      rintro e w9 ⟨v, rfl, hv, hb9⟩
      obtain ⟨t, ht, _⟩ := HI.out.1.mod.obj
      have hm9 : w9.heap[gm]? = some (mObj gr (64 * k) s.on s.till t) := (hb9.block gm (by have := (H7.out.2.1).trans ht; exact lt_of_block this)).trans (H7.out.2.1.trans ht)
      have hr9 : w9.heap[gr]? = some (rowObj 5 L) := (hb9.block gr (lt_of_block (H7.out.2.2.1.trans HI.out.1.mod.row))).trans (H7.out.2.2.1.trans HI.out.1.mod.row)
      have hrd9 : Rd w9 (some ⟨gr, 0, none⟩) KK L := rd_rowObj hr9 (by rw [HI.out.1.mod.len, HKK.out]) HI.out.1.mod.byte
      obtain ⟨S, hS⟩ : ∃ S, S = strB L := ⟨_, rfl⟩
      have hcv1 : (convert 32 9 v).run Try.prog w9.drew = .ok (.string S) w9.drew := by
        rw [hS]
        exact (Own.kept hv (Below.refl _ _).drew).conv
      have hcv2 : (convert 32 9 (.slice (some ⟨gr, 0, none⟩) KK KK)).run Try.prog w9.drew = .ok (.string S) w9.drew := by
        rw [hS]
        exact conv_rd (hrd9.later (Below.refl _ _).drew) KK
      have d0 : w9.cell? ⟨gm, 0, none⟩ = some (.slice (some ⟨gr, 0, none⟩) KK KK) := by rw [HKK.out]; exact (mcells hm9).1
      have H9 := Lib.hid (H7.out.2.2.2.trans (hb9.mono H7.out.2.2.2.size))
      clear hv hb9 hm9 hr9 hrd9 hS c0 ht
      go_upto_region 55 with fail
      go_region
      go_wp2
      go_ret
      exact ⟨rfl, H9.out.drew⟩
end Go.Proofs.Ytdfdfopebkgofaa
