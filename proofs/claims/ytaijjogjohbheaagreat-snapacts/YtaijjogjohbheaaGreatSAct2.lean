/- What SnapActs begins with: the acts that came in; its prelude; its loop's invariant. -/
import Derived.Test.YtaijjogjohbheaaGreatGMSameToSLives
import Derived.Test.YtaijjogjohbheaaGreatGRLivesToRCrash
import Derived.SizedLaws
import Derived.Deep.RegionHeld3
import Derived.Deep.DeepCutAuto
import Derived.Deep.CutBlock
namespace Go.Proofs.YtaijjogjohbheaaGreat
open Go.RowKit
set_option maxRecDepth 100000
set_option linter.unusedSimpArgs false

/-- An act. -/
structure Ac where
  K : Nat
  I : Int
  J : Int
  a : Option Addr
  n : Nat
  c : Nat
  fl : Bool
  P : Int
  Z : Int
  b : List Nat

def Ac.none : Ac := ⟨0, 0, 0, .none, 0, 0, false, 0, 0, []⟩

/-- An act as it may come in. -/
structure Ac.fits (w : World) (x : Ac) : Prop where
  P : x.P < 9223372036854775808
  rd : Rd w x.a x.n x.b

def acV (x : Ac) : List Value := [.int .u8 (x.K : Int), .int .i64 x.I, .int .i64 x.J, .slice x.a x.n x.c, .bool x.fl, .int .i64 x.P, .int .i64 x.Z]

/-- The slice '.slice a n _' reads as the acts X. -/
def RdA (w : World) (a : Option Addr) (n : Nat) (X : List Ac) : Prop :=
  X.length = n ∧ (∀ x ∈ X, x.fits w) ∧ (0 < n → ∃ b o, a = some ⟨b, o, .none⟩ ∧ ∀ j, j < n → ∀ i u, (acV (X.getD j Ac.none))[i]? = some u → w.cell? ⟨b, o + j * 7 + i, .none⟩ = some u)

theorem Ac.fits.later {w w' : World} {x : Ac} (h : x.fits w) (hb : Below w.heap.size w w') : x.fits w' := ⟨h.P, h.rd.later hb⟩

theorem RdA.later {w w' : World} {a : Option Addr} {n : Nat} {X : List Ac} (h : RdA w a n X) (hb : Below w.heap.size w w') : RdA w' a n X := by
  refine ⟨h.1, fun x hx => (h.2.1 x hx).later hb, fun hn => ?_⟩
  obtain ⟨b, o, rfl, hc⟩ := h.2.2 hn
  exact ⟨b, o, rfl, fun j hj i u hu => (hb.cell (p := ⟨b, o + j * 7 + i, .none⟩) (World.block_lt_of_cell? w _ (hc j hj i u hu))).trans (hc j hj i u hu)⟩

theorem wpList_build_mod0 {ops : Array Oper} {rest : List Oper} {o : Oper} {act : Act} {w : World} {Q : Exit → Act → World → Prop} (hw : Region.wanted o (yielded ops act.tmps) = true) (y z : Operand) (a : Option Addr) (n c room : Nat)
    (hop : o.op = .build 39 #[(1, y), (2, z)]) (hy : act.eval y = .slice a n c) (hz : act.eval z = .int .i64 (room : Int))
    (h : wpList Tryz.prog ops Q rest (act.put o.dst (.agg (modC (List.replicate 256 []) a n c room))) w) : wpList Tryz.prog ops Q (o :: rest) act w := by
  refine wpList_val hw _ w ?_ h
  have hb := build_mod0 a n c room w
  unfold execOp
  rw [hop]
  simp only [List.map_toArray, List.map_cons, List.map_nil, hy, hz, Sem.run_bind, hb, Result.andThen_ok, Sem.run_pure]

theorem wpList_box_mod {ops : Array Oper} {rest : List Oper} {o : Oper} {act : Act} {w : World} {Q : Exit → Act → World → Prop} (hw : Region.wanted o (yielded ops act.tmps) = true) (x : Operand) (F : List (List Nat)) (a : Option Addr) (n c room : Nat)
    (hop : o.op = .box 39 x) (hx : act.eval x = .agg (modC F a n c room))
    (h : ∀ w', Hid (w' = w.alloc (modObj F a n c room)) → wpList Tryz.prog ops Q rest (act.put o.dst (.pointer (some ⟨w.heap.size, 0, none⟩))) w') : wpList Tryz.prog ops Q (o :: rest) act w :=
  wpList_val hw _ _ (exec_box_mod x F a n c room w hop hx) (h _ (Lib.hid rfl))

/-- The model of a new store. -/
theorem mod_new {w' : World} {V : List Nat} {g1 gm room : Nat} (h1 : w'.heap[g1]? = some (.cells #[.pointer none] 84 (0, 0))) (h2 : w'.heap[gm]? = some (modObj holes (some ⟨g1, 0, none⟩) 1 1 room)) (hv : g1 ∉ V) (hm : gm ∉ V) : Mod w' V gm holes [] room := by
  refine ⟨some ⟨g1, 0, none⟩, 1, 1, [none], h2, holes_ok, Nat.le_refl _, ⟨rfl, fun _ => ⟨g1, 0, rfl, fun j hj => ?_⟩⟩, rfl, fun g G hg => by simp at hg, hm, fun _ b o e hb => ?_⟩
  · obtain rfl : j = 0 := by omega
    simp [World.cell?, h1, pQ]
  · injection e with e
    injection e with e1 e2
    exact hv (e1 ▸ hb)

theorem run_mk1 (w : World) : (Instr.makeSlice 35 (.int .i64 1) (.int .i64 1)).run Tryz.prog w = .ok (.slice (some ⟨w.heap.size, 0, none⟩) 1 1) (w.alloc (.cells #[.pointer none] 84)) := by
  obtain ⟨i0, hi0, hz0, hz1, hz2⟩ := info_parts info_imgp
  have h := run_make (P := Tryz.prog) w 35 84 i0 _ Tryz.underlying35 hi0 hz0 .i64 .i64 1 1 (by omega) (by omega) (by rw [hz2]; omega) (by omega)
  have e : madeCells #[Value.pointer none] 1 = #[.pointer none] := by kernel_rfl
  simpa [hz1, Value.cells, e] using h

theorem planned_on (s : Pw) (a t : Int) : (s.planned a t).on = s.on := by
  unfold Pw.planned
  split <;> rfl

/-- What the loop of SnapActs keeps. -/
structure ActI (w wr : World) (gd gp gb gr gs gm k j : Nat) (room : Nat) (F : List (List Nat)) (A : List (Option (List (List Nat)))) : Prop where
  ctx : ∃ (G B N : Nat) (s : Pw) (L b0 : List Nat), Ctx wr gd gp gb gr gs k G B N s L b0 F A.length (snapsF 1 A) ∧ s.plan = none ∧ Bk G b0 F A.length (snapsF 1 A) ∧ G ≤ j ∧ B ≤ 500000 * j ∧ N ≤ 300 + j
  mod : Mod wr [gp, gb, gr, gs] gm F A room
  len : A.length ≤ j
  low : w.heap.size ≤ gd ∧ w.heap.size ≤ gp ∧ w.heap.size ≤ gb ∧ w.heap.size ≤ gr ∧ w.heap.size ≤ gs
  bel : Below w.heap.size w wr

set_option maxHeartbeats 4000000 in
theorem snapActs_walk (w : World) (nn : Int) (a : Option Addr) (n c : Nat) (X : List Ac) (h : RdA w a n X) :
    Calls Tryz.prog 3 #[.int .i64 nn, .slice a n c] w fun e w' => e = .returned (.bool true) ∧ Below w.heap.size w w' := by
  obtain ⟨u, hu⟩ : ∃ u : Nat, IntKind.u64.wrap nn = (u : Int) := ⟨(IntKind.u64.wrap nn).toNat, by rw [IntKind.wrap_u64]; omega⟩
  obtain ⟨r, hr⟩ : ∃ r : Nat, r = u % 400 := ⟨_, rfl⟩
  have hr9 : r < 400 := by omega
  have htm : (u : Int).tmod 400 = (r : Int) := by rw [Int.tmod_eq_emod_of_nonneg (by omega)]; omega
  obtain ⟨k, hk⟩ : ∃ k : Nat, k = 4 + r := ⟨_, rfl⟩
  have hk1 : 4 + (r : Int) = (k : Int) := by omega
  have hk9 : 4 ≤ k ∧ k ≤ 403 := by omega
  obtain ⟨m, hm⟩ : ∃ m, m = sect k := ⟨_, rfl⟩
  have hm2 : ((k : Int) - 2).tdiv 2 = (m : Int) := by
    rw [Int.tdiv_eq_ediv_of_nonneg (by omega), hm]
    unfold sect
    omega
  have hm9 : m ≤ 201 := by rw [hm]; unfold sect; omega
  obtain ⟨room, hroom⟩ : ∃ room, room = 64 * m := ⟨_, rfl⟩
  have hroom2 : (m : Int) * 64 = (room : Int) := by omega
  have HRO : Hid (room = 64 * sect k) := Lib.hid (by rw [hroom, hm])
  have HR := Lib.hid h
  have HL := Lib.hid (fun W => lives_any W)
  clear hr hk h hm hroom
  go_enter Tryz.func3, Tryz.ntmps3
  go_wp2_with fail
  refine (HL.out w).mono ?_
  rintro e w1 ⟨rfl, hb1⟩
  have HB1 := Lib.hid hb1
  clear hb1
  by_cases hn : 60 < n
  · have hn' : (60 : Int) < (n : Int) := by omega
    clear hn
    go_wp2_with fail
    refine (HL.out w1).mono ?_
    rintro e w2 ⟨rfl, hb2⟩
    have HB2 := Lib.hid hb2
    clear hb2
    go_wp2
    go_ret
    exact ⟨rfl, HB1.out.trans (HB2.out.mono HB1.out.size)⟩
  · have hn' : ¬ (60 : Int) < (n : Int) := by omega
    have hn60 : n ≤ 60 := by omega
    clear hn
    have HN := Lib.hid (new_at w1)
    clear HL
    go_wp2_with fail
    refine HN.out.mono ?_
    rintro e w2 ⟨gp, rfl, hgp, hp2, hb2⟩
    have HN2 := Lib.hid (dnew_at w2 k gp _ hp2 (by omega) (by omega))
    have HB2 := Lib.hid (HB1.out.trans (hb2.mono HB1.out.size))
    have HGP := Lib.hid (Nat.le_trans HB1.out.size hgp)
    clear hp2 hb2 hgp HN
    go_wp2_with fail
    refine HN2.out.mono ?_
    rintro e w3 ⟨gd, gb, rfl, hgd, hgb, hd3, hb3⟩
    have HB3 := Lib.hid (HB2.out.trans (hb3.mono HB2.out.size))
    have HG := Lib.hid (And.intro HGP.out (And.intro (Nat.le_trans HB2.out.size hgb) (Nat.le_trans HB2.out.size hgd)))
    have HO3 := Lib.hid (sopen_any w3 gd gp gb k 0 0 _ _ [] holes 0 [] hd3 hk9.1 (by omega) rfl (rinv_new k hk9.1) (.inl ⟨rfl, rfl, rfl, rfl, rfl⟩) okS_new ⟨by simp, by simp⟩ (by omega) (by omega))
    clear hd3 hb3 hgd hgb HN2 HGP
    go_wp2_with fail
    refine HO3.out.mono ?_
    rintro e w4 ⟨gr, gs, rfl, hgr, hgs, hc4, hb4⟩
    have HC4 := Lib.hid hc4
    have HB4 := Lib.hid (HB3.out.trans (hb4.mono HB3.out.size))
    have HGR : Hid (w.heap.size ≤ gr ∧ w.heap.size ≤ gs) := Lib.hid ⟨Nat.le_trans HB3.out.size hgr, Nat.le_trans HB3.out.size hgs⟩
    clear hb4 hc4 hgr hgs HO3
    obtain ⟨g1, hg1⟩ : ∃ g, g = w4.heap.size := ⟨_, rfl⟩
    have HG1 := Lib.hid hg1
    have hmk := run_mk1
    go_upto_region 7 with (first | (refine wpList_build_mod0 rfl (.tmp 44) (.tmp 48) (some ⟨g1, 0, none⟩) 1 1 room rfl (by rw [hg1]; rfl) rfl ?_) | (refine wpList_box_mod rfl (.tmp 49) (List.replicate 256 []) (some ⟨g1, 0, none⟩) 1 1 room rfl rfl ?_; intro w5 H5))
    have HW5 : Hid (w5.heap[g1]? = some (.cells #[.pointer none] 84 (0, 0)) ∧ w5.heap[g1 + 1]? = some (modObj holes (some ⟨g1, 0, none⟩) 1 1 room) ∧ Below w4.heap.size w4 w5) := by
      rw [H5.out, hg1]
      refine Lib.hid ⟨(Below.heap_alloc _ _ _ (by simp)).trans (heap_alloc_last _ _), ?_, (Below.alloc0 _ _).alloc (by simp) _⟩
      have h1 := heap_alloc_new (w4.alloc (.cells #[.pointer none] 84)) (modObj holes (some ⟨w4.heap.size, 0, none⟩) 1 1 room)
      rw [World.size_alloc] at h1
      exact h1
    obtain ⟨gm, hgm⟩ : ∃ gm, gm = g1 + 1 := ⟨_, rfl⟩
    rw [← hg1, ← hgm]
    rw [← hgm] at HW5
    have HI0 : Hid (ActI w w5 gd gp gb gr gs gm k 0 room holes []) := by
      have hl := HC4.out.low
      have hg := HG.out
      have hq := HGR.out
      have hz := HG1.out
      refine Lib.hid ⟨⟨0, 0, 300, _, _, [], HC4.out.later HW5.out.2.2, rfl, .inl ⟨rfl, rfl, rfl, rfl, rfl⟩, Nat.le_refl _, Nat.le_refl _, Nat.le_refl _⟩, mod_new HW5.out.1 HW5.out.2.1 (by simp; omega) (by simp; omega), Nat.le_refl _, ⟨hg.2.2, hg.1, hg.2.1, hq.1, hq.2⟩, HB4.out.trans (HW5.out.2.2.mono HB4.out.size)⟩
    clear H5 hg1 hgm HW5 HC4 HGR HG1 HB4 HG HB3 HB2 hmk hm2 hroom2 htm hu hk1 hr9
    go_wp2
    go_loopg [8, 10, 55] n (fun gk v8 v10 i wr => ∃ (j gs gm gr : Nat) (F : List (List Nat)) (A : List (Option (List (List Nat)))), gk = n - j ∧ j ≤ n ∧ i = .int .i64 (j : Int) ∧ v8 = .pointer (some ⟨gs, 0, none⟩) ∧ v10 = .pointer (some ⟨gm, 0, none⟩) ∧ Hid (ActI w wr gd gp gb gr gs gm k j room F A))
    case atStart => exact ⟨0, gs, gm, gr, holes, [], rfl, Nat.zero_le _, rfl, rfl, rfl, HI0⟩
    case round =>
      obtain ⟨j, gs, gm, gr, F, A, hgk, hj, rfl, rfl, rfl, HI⟩ := hrel
      have HGK := Lib.hid hgk
      clear hgk HI0
      by_cases hlt : j < n
      · have hcc := (HR.out.later HI.out.bel).2.2 (by omega)
        obtain ⟨b, o, rfl, hc⟩ := hcc
        have hjl : j < X.length := by rw [HR.out.1]; exact hlt
        have hx := HR.out.2.1 (X.getD j Ac.none) (by simp [List.getD, hjl])
        have hcj := hc j hlt
        obtain ⟨x, hxe⟩ : ∃ x, x = X.getD j Ac.none := ⟨_, rfl⟩
        rw [← hxe] at hcj hx
        clear hxe hc hjl
        obtain ⟨K, I, J, ab, nb, cb, fl, P, Z, bb⟩ := x
        have e0 := hcj 0 _ rfl
        have e1 := hcj 1 _ rfl
        have e2 := hcj 2 _ rfl
        have e3 := hcj 3 _ rfl
        have e4 := hcj 4 _ rfl
        have e5 := hcj 5 _ rfl
        have e6 := hcj 6 _ rfl
        simp only [Nat.add_zero] at e0 e1 e2 e3 e4 e5 e6
        have HX := Lib.hid hx
        clear hcj hx
        by_cases hbig : 100 < nb
        · have hbig' : (100 : Int) < (nb : Int) := by omega
          clear hbig
          go_wp2
          go_ret
          exact ⟨rfl, HI.out.bel.alloc HI.out.bel.size _⟩
        · have hbig' : ¬ (100 : Int) < (nb : Int) := by omega
          have hnb : nb ≤ 100 := by omega
          clear hbig
          go_upto_region 14 with fail
          obtain ⟨W1, hW1⟩ : ∃ W1, W1 = wr.alloc (actObj K I J ab nb cb fl P Z) := ⟨_, rfl⟩
          obtain ⟨q, hq⟩ : ∃ q, q = wr.heap.size := ⟨_, rfl⟩
          change Code.wp _ _ _ _ (wr.alloc (actObj K I J ab nb cb fl P Z))
          rw [← hW1, ← hq]
          have hob : W1.heap[q]? = some (actObj K I J ab nb cb fl P Z) := by rw [hW1, hq]; exact heap_alloc_new _ _
          have hbe : Below wr.heap.size wr W1 := by rw [hW1]; exact Below.alloc0 _ _
          obtain ⟨G, B, N, s, L, b0, hc, hpl, hbk, hG, hB, hN⟩ := HI.out.ctx
          have HC1 := Lib.hid (hc.later hbe)
          have HOB := Lib.hid hob
          have HBE := Lib.hid hbe
          have HBK := Lib.hid hbk
          have HGBN := Lib.hid (And.intro hG (And.intro hB hN))
          have HQ : Hid (wr.heap.size = q) := Lib.hid hq.symm
          have HQD : Hid (gd < q ∧ gp < q ∧ gb < q) := Lib.hid (by have := hc.dsk.lts; omega)
          have c4 : W1.cell? ⟨q, 4, none⟩ = some (.bool fl) := by simp [World.cell?, hob, actObj]
          clear hc hpl hbk hG hB hN hob hbe hW1 hq e0 e1 e2 e3 e4 e5 e6
          go_upto_if 64 with fail
          go_cut [] (fun wx => Hid (∃ s', Ctx wx gd gp gb gr gs k G B N s' L b0 F A.length (snapsF 1 A) ∧ wx.heap[q]? = some (actObj K I J ab nb cb fl P Z) ∧ Save [gp] W1 wx))
          case first =>
            cases fl with
            | false =>
              go_wp2_with fail
              go_meet
              exact Lib.hid ⟨s, HC1.out, HOB.out, Save.refl _ _⟩
            | true =>
              have HPLAN : Hid (∀ W, Save [] W1 W → Calls Tryz.prog 9 #[.pointer (some ⟨gp, 0, none⟩), .int .i64 P, .int .i64 Z] W fun e w' => e = .returned (.tuple #[]) ∧ Dsk w' gd gp gb (s.planned P Z) L k ∧ Save [gp] W w') :=
                Lib.hid fun W hW => plan_dsk W gd gp gb k _ L P Z (HC1.out.dsk.save hW (by simp))
              have HK : Hid (∀ W, Save [gp] W1 W → W.cell? ⟨gd, 0, none⟩ = some (.pointer (some ⟨gp, 0, none⟩)) ∧ W.cell? ⟨q, 5, none⟩ = some (.int .i64 P) ∧ W.cell? ⟨q, 6, none⟩ = some (.int .i64 Z)) := by
                refine Lib.hid fun W hW => ⟨?_, ?_, ?_⟩
                · rw [cell_of_row W gd _ _ 45 (0, 0) ((hW.block gd HC1.out.dsk.lts.1 (by simp; exact HC1.out.dsk.np)).trans HC1.out.dsk.obj)]; rfl
                · rw [cell_of_row W q _ _ 42 (0, 0) ((hW.block q (lt_of_block HOB.out) (by have := HQD.out; simp; omega)).trans HOB.out)]; rfl
                · rw [cell_of_row W q _ _ 42 (0, 0) ((hW.block q (lt_of_block HOB.out) (by have := HQD.out; simp; omega)).trans HOB.out)]; rfl
              go_upto_region 15 with fail
              go_region_held3 (fun W => W.cell? ⟨gd, 0, none⟩ = some (.pointer (some ⟨gp, 0, none⟩)) ∧ W.cell? ⟨q, 5, none⟩ = some (.int .i64 P) ∧ W.cell? ⟨q, 6, none⟩ = some (.int .i64 Z))
                (first
                  | exact HK.out _ (Save.refl _ _).drew
                  | exact HK.out _ ((Save.refl _ _).drew.trans hs5)
                  | go_keep)
                (first
                  | (go_at_call 9; refine (HPLAN.out _ ?_).mono ?_; exact (Save.refl _ _).drew; rintro e w5 ⟨rfl, hd5, hs5⟩))
              have HS5 : Hid (Save [gp] W1 w5) := Lib.hid ((Save.refl _ _).drew.trans hs5)
              have HD5 := Lib.hid hd5
              clear hs5 hd5 HPLAN HK c4
              go_wp2
              go_meet
              exact Lib.hid ⟨s.planned P Z, HC1.out.pow HD5.out HS5.out (by rw [planned_on]; exact HC1.out.on) (within_planned HC1.out.win Z HX.out.P), (HS5.out.block q (lt_of_block HOB.out) (by have := HQD.out; simp; omega)).trans HOB.out, HS5.out⟩
          case rest =>
            obtain ⟨s', hc', hq', hs'⟩ := hcut.out
            have HB0 : Hid (Below w.heap.size w wc) := Lib.hid ((HI.out.bel.trans (HBE.out.mono HI.out.bel.size)).trans (hs'.below (HI.out.bel.trans (HBE.out.mono HI.out.bel.size)).size (by have := HI.out.low; simp; omega)))
            have HM0 : Hid (Mod wc [gp, gb, gr, gs] gm F A room) := Lib.hid ((HI.out.mod.later HBE.out).save hs' (by simp))
            have hrd : Rd wc ab nb bb := HX.out.rd.later HB0.out
            have hV : ∀ i ∈ [gp, gb, gr, gs], i < wc.heap.size := by
              have := hc'.low
              intro i hi
              simp at hi
              omega
            have HTh := Lib.hid (then_any wc [gp, gb, gr, gs] gm F A room HM0.out (by have := HI.out.len; omega) hV K I J ab nb cb fl P Z bb hrd)
            have HDo : Hid (∀ W, Below wc.heap.size wc W → _) := Lib.hid fun W (hW : Below wc.heap.size wc W) => do_any W gd gp gb gr gs k G B N s' L b0 F A (hc'.later hW) (by have := HI.out.len; omega) K I J ab nb cb fl P Z bb (hrd.later hW)
            have H3 : Hid (K % 4 = 3 → thR (K % 4) I J bb F A = (0, F, A)) := Lib.hid fun h => by rw [h]; exact thR_three I J bb F A
            obtain ⟨R, hR⟩ : ∃ R, R = thR (K % 4) I J bb F A := ⟨_, rfl⟩
            rw [← hR] at HTh H3
            simp only [← hR] at HDo
            have HRR := Lib.hid hR
            have HC' := Lib.hid hc'
            have HQ' := Lib.hid hq'
            clear hR hc' hs' hV hrd hcut c4
            have x0 : ∀ i u, (acV ⟨K, I, J, ab, nb, cb, fl, P, Z, bb⟩)[i]? = some u → wc.cell? ⟨q, i, none⟩ = some u := by
              intro i u hu
              rw [cell_of_row wc q _ _ 42 (0, 0) hq', ← hu, ← Array.getElem?_toList]
              rfl
            have e0 := x0 0 _ rfl
            have e1 := x0 1 _ rfl
            have e2 := x0 2 _ rfl
            have e3 := x0 3 _ rfl
            have e4 := x0 4 _ rfl
            have e5 := x0 5 _ rfl
            have e6 := x0 6 _ rfl
            clear x0 hq'
            go_wp2_with fail
            refine HTh.out.mono ?_
            rintro e w6 hth
            obtain ⟨hb6, p, Wn, rfl, hwn⟩ := thP_out hth
            have HWN := Lib.hid hwn
            have HB6 := Lib.hid hb6
            have hq6 : w6.heap[q]? = some (actObj K I J ab nb cb fl P Z) := (hb6.block q (lt_of_block HQ'.out)).trans HQ'.out
            have HQ6 := Lib.hid hq6
            have HDD := Lib.hid (HDo.out w6 hb6)
            have x0 : ∀ i u, (acV ⟨K, I, J, ab, nb, cb, fl, P, Z, bb⟩)[i]? = some u → w6.cell? ⟨q, i, none⟩ = some u := by
              intro i u hu
              rw [cell_of_row w6 q _ _ 42 (0, 0) hq6, ← hu, ← Array.getElem?_toList]
              rfl
            clear e0 e1 e2 e3 e4 e5 e6 hth hwn hb6 HTh HDo
            have e0 := x0 0 _ rfl
            have e1 := x0 1 _ rfl
            have e2 := x0 2 _ rfl
            have e3 := x0 3 _ rfl
            have e4 := x0 4 _ rfl
            have e5 := x0 5 _ rfl
            have e6 := x0 6 _ rfl
            clear x0 hq6
            go_wp2_with fail
            refine HDD.out.mono ?_
            rintro e w7 hdo
            obtain ⟨id, E, s2, L2, rfl, hd7, hw7, hs7, hout⟩ := doP_out (HC'.out.later HB6.out) (fun h => by rw [H3.out h]) (by have := HGBN.out; have := HI.out.len; omega) (by have := HGBN.out; omega) (by have := HGBN.out; omega) hdo
            have HON := Lib.hid (on_any w7 gp s2 hd7.pow)
            have HUP := Lib.hid (up_dsk w7 gd gp gb k s2 L2 hd7)
            have c7 := hd7.cells.1
            obtain ⟨on2, hon2⟩ : ∃ on2, on2 = s2.on := ⟨_, rfl⟩
            rw [← hon2] at HON
            have HON2 := Lib.hid hon2
            have HD7 := Lib.hid hd7
            have HW7 := Lib.hid hw7
            have HS7 := Lib.hid hs7
            have HOUT := Lib.hid hout
            clear hd7 hw7 hs7 hout hdo hon2 HDD e0 e1 e2 e3 e4 e5 e6
            go_wp2_with fail
            refine HON.out.mono ?_
            rintro e w8 ⟨rfl, rfl⟩
            go_wp2_with fail
            refine HUP.out.mono ?_
            rintro e w9 ⟨rfl, hd9, hs9⟩
            have HD9 := Lib.hid hd9
            have HS9 := Lib.hid hs9
            clear hd9 hs9 c7 HON HUP
            have HJ : Hid (∀ W, Below w9.heap.size w9 W → Below w.heap.size w W) := by
              have h1 := HB0.out.trans (HB6.out.mono HB0.out.size)
              have h2 := HI.out.low
              have h3 := h1.trans (HS7.out.below h1.size (by simp; omega))
              have h4 := h3.trans (HS9.out.below h3.size (by simp; omega))
              exact Lib.hid fun W hW => h4.trans (hW.mono h4.size)
            have HM9 : Hid (Mod w9 [gp, gb, gr, gs] gm F A room) := Lib.hid (((HM0.out.later HB6.out).save HS7.out (by simp)).save HS9.out (by simp))
            go_upto_block 2 with fail
            go_cut [8, 9, 10] (fun v8 _ v10 wx => ∃ (gs' gm' gr' : Nat) (F' : List (List Nat)) (A' : List (Option (List (List Nat)))), v8 = .pointer (some ⟨gs', 0, none⟩) ∧ v10 = .pointer (some ⟨gm', 0, none⟩) ∧ Hid (ActI w wx gd gp gb gr' gs' gm' k (j + 1) room F' A'))
            case first =>
              have hq9 : w9.heap[q]? = some (actObj K I J ab nb cb fl P Z) := by
                obtain ⟨_, _, _, _, _, _, hcz, _⟩ := HI.out.ctx
                have hl := hcz.low
                have hz := HQ.out
                have h1 := (HS7.out.block q (lt_of_block HQ6.out) (by simp; omega)).trans HQ6.out
                exact (HS9.out.block q (lt_of_block h1) (by simp; omega)).trans h1
              have e0 : w9.cell? ⟨q, 0, none⟩ = some (.int .u8 (K : Int)) := by rw [cell_of_row w9 q _ _ 42 (0, 0) hq9]; rfl
              have e1 : w9.cell? ⟨q, 1, none⟩ = some (.int .i64 I) := by rw [cell_of_row w9 q _ _ 42 (0, 0) hq9]; rfl
              have e2 : w9.cell? ⟨q, 2, none⟩ = some (.int .i64 J) := by rw [cell_of_row w9 q _ _ 42 (0, 0) hq9]; rfl
              have HQ9 := Lib.hid hq9
              clear hq9
              rcases HOUT.out with ⟨hon, hE, hk3, hcx⟩ | ⟨hon, hR0, hk3, hE, hlen, hcx, hid⟩ | ⟨hon, hR0, hk3, hE, hlen, hcx⟩ | ⟨hon, hR0, hk3, hE, hlen, hok, hri⟩
              · obtain rfl : on2 = true := HON2.out.trans hon
                have HCX := Lib.hid (hcx.pow HD9.out HS9.out rfl ⟨by simp, hcx.win.2⟩)
                have HFIN : Hid (∀ W, Below w9.heap.size w9 W → ActI w W gd gp gb gr gs gm k (j + 1) room F A) := Lib.hid fun W hW => ⟨⟨G, B, N, _, L2, b0, HCX.out.later hW, rfl, HBK.out, by have := HGBN.out; omega, by have := HGBN.out; omega, by have := HGBN.out; omega⟩, HM9.out.later hW, by have := HI.out.len; omega, HI.out.low, HJ.out W hW⟩
                by_cases h3 : K % 4 = 3
                · have hE0 : E = 0 := by rw [hE, H3.out h3]
                  have ht : (K : Int).tmod 4 = 3 := by rw [Int.tmod_eq_emod_of_nonneg (by omega)]; omega
                  have ht2 : (K : Int) % 4 = 3 := by omega
                  have HDf := Lib.hid (mdiff_any w9 _ _ gm gs gr N A.length F A room J I HM9.out HCX.out.sto HCX.out.ok (by have := HI.out.len; omega) (by have := HGBN.out; omega))
                  clear hon hE hk3 hcx h3
                  subst hE0
                  go_wp2_with fail
                  refine HDf.out.mono ?_
                  rintro e w10 ⟨rfl, hb10⟩
                  have HB10 := Lib.hid hb10
                  clear hb10
                  go_wp2
                  go_meet
                  exact ⟨gs, gm, gr, F, A, rfl, rfl, Lib.hid (HFIN.out _ HB10.out)⟩
                · have ht : ¬ (K : Int).tmod 4 = 3 := by rw [Int.tmod_eq_emod_of_nonneg (by omega)]; omega
                  have ht2 : ¬ (K : Int) % 4 = 3 := by omega
                  have hR : R.1 ≠ 0 := by rcases hk3 with h | h; exact h; exact absurd h h3
                  have hW : Wn = E := by
                    rcases HWN.out with h | h | h
                    · rw [h.2, hE]
                    · exact absurd h.1 hR
                    · exact absurd h.1 hR
                  have hE0 : ¬ (E : Int) = 0 := by omega
                  clear hon hE hk3 hcx h3 hR
                  subst hW
                  go_wp2
                  go_meet
                  exact ⟨gs, gm, gr, F, A, rfl, rfl, Lib.hid (HFIN.out _ (Below.refl _ _))⟩
              · obtain rfl : on2 = true := HON2.out.trans hon
                obtain ⟨M, hM, hcM⟩ := hcx
                have HCX := Lib.hid (hcM.pow HD9.out HS9.out rfl ⟨by simp, hcM.win.2⟩)
                have hro := HRO.out
                rcases HWN.out with h | h | ⟨_, _, hW, gx, hp, _, hmx⟩
                · exact absurd hR0 h.1
                · exact absurd h.2.1 (by omega)
                · have HMX : Hid (Mod w9 [gp, gb, gr, gs] gx R.2.1 R.2.2 room) := Lib.hid ((hmx.save HS7.out (by simp)).save HS9.out (by simp))
                  have hlen2 := thR_len (K % 4) I J bb F A
                  rw [← HRR.out] at hlen2
                  have HFIN : Hid (∀ W, Below w9.heap.size w9 W → ActI w W gd gp gb gr gs gx k (j + 1) room R.2.1 R.2.2) := Lib.hid fun W hW => ⟨⟨G + 1, _, M, _, L2, _, HCX.out.later hW, rfl, .inr ⟨by omega, rfl⟩, by have := HGBN.out; omega, by have := HGBN.out; omega, by have := HGBN.out; omega⟩, HMX.out.later hW, by have := HI.out.len; omega, HI.out.low, HJ.out W hW⟩
                  have ht : ¬ (K : Int).tmod 4 = 3 := by rw [Int.tmod_eq_emod_of_nonneg (by omega)]; omega
                  have ht2 : ¬ (K : Int) % 4 = 3 := by omega
                  obtain ⟨am, nm, cm, U, m1, m2, _, mst, mU, _⟩ := HMX.out
                  have hnm : nm = R.2.2.length + 1 := by
                    have h1 := congrArg List.length mU
                    have h2 : U.length = nm := mst.1
                    rw [List.length_map, h2, List.length_cons] at h1
                    exact h1
                  have x256 := mod_row m1 m2.1
                  have HLN : Hid (nm ≤ 100) := Lib.hid (by have := HI.out.len; omega)
                  have hln := HLN.out
                  have hidn : K % 4 = 1 → id = (nm : Int) - 1 := fun h => by rw [hid h, hnm]; omega
                  clear hon hR0 hk3 hlen hcM hro hmx hlen2 m1 m2 mst mU hnm hid hM
                  subst hE
                  subst hW
                  subst hp
                  by_cases h1 : K % 4 = 1
                  · have h1t : (K : Int).tmod 4 = 1 := by rw [Int.tmod_eq_emod_of_nonneg (by omega)]; omega
                    have h1u : (K : Int) % 4 = 1 := by omega
                    have hidd := hidn h1
                    clear hidn h1
                    subst hidd
                    go_wp2
                    go_meet
                    exact ⟨gs, gx, gr, R.2.1, R.2.2, rfl, rfl, Lib.hid (HFIN.out _ (Below.refl _ _))⟩
                  · have h1t : ¬ (K : Int).tmod 4 = 1 := by rw [Int.tmod_eq_emod_of_nonneg (by omega)]; omega
                    have h1u : ¬ (K : Int) % 4 = 1 := by omega
                    clear hidn h1
                    go_wp2
                    go_meet
                    exact ⟨gs, gx, gr, R.2.1, R.2.2, rfl, rfl, Lib.hid (HFIN.out _ (Below.refl _ _))⟩
              · obtain rfl : on2 = true := HON2.out.trans hon
                have HCX := Lib.hid (hcx.pow HD9.out HS9.out rfl ⟨by simp, hcx.win.2⟩)
                have HFIN : Hid (∀ W, Below w9.heap.size w9 W → ActI w W gd gp gb gr gs gm k (j + 1) room F A) := Lib.hid fun W hW => ⟨⟨G, _, N, _, L2, b0, HCX.out.later hW, rfl, HBK.out, by have := HGBN.out; omega, by have := HGBN.out; omega, by have := HGBN.out; omega⟩, HM9.out.later hW, by have := HI.out.len; omega, HI.out.low, HJ.out W hW⟩
                have ht : ¬ (K : Int).tmod 4 = 3 := by rw [Int.tmod_eq_emod_of_nonneg (by omega)]; omega
                have ht2 : ¬ (K : Int) % 4 = 3 := by omega
                have hW : Wn = 7 := by
                  have hro := HRO.out
                  rcases HWN.out with h | h | h
                  · exact absurd hR0 h.1
                  · exact h.2.2
                  · have := h.2.1
                    omega
                clear hon hR0 hk3 hlen hcx
                subst hE
                subst hW
                go_wp2
                go_meet
                exact ⟨gs, gm, gr, F, A, rfl, rfl, Lib.hid (HFIN.out _ (Below.refl _ _))⟩
              · obtain rfl : on2 = false := HON2.out.trans hon
                have hro := HRO.out
                rcases HWN.out with h | h | ⟨_, _, hW, gx, hp, _, hmx⟩
                · exact absurd hR0 h.1
                · exact absurd h.2.1 (by omega)
                · have HMX : Hid (Mod w9 [gp, gb, gr, gs] gx R.2.1 R.2.2 room) := Lib.hid ((hmx.save HS7.out (by simp)).save HS9.out (by simp))
                  have hlen2 := thR_len (K % 4) I J bb F A
                  rw [← HRR.out] at hlen2
                  have hsame := thR_same (K % 4) I J bb F A
                  rw [← HRR.out] at hsame
                  have HRL : Hid (R.2.2.length ≤ j + 1) := Lib.hid (by have := HI.out.len; omega)
                  obtain ⟨G', b', F2, A2, hi2, hbk2, hok2, hG2, hcs⟩ : ∃ (G' : Nat) (b' : List Nat) (F2 : List (List Nat)) (A2 : List (Option (List (List Nat)))), RInv L2 k G' b' ∧ Bk G' b' F2 A2.length (snapsF 1 A2) ∧ OkS F2 A2.length (snapsF 1 A2) ∧ G' ≤ G + 1 ∧ ((F2 = F ∧ A2 = A) ∨ (F2 = R.2.1 ∧ A2 = R.2.2)) := by
                    rcases hri with h | h
                    · exact ⟨G, b0, F, A, h, HBK.out, HC'.out.ok, by omega, .inl ⟨rfl, rfl⟩⟩
                    · exact ⟨G + 1, _, R.2.1, R.2.2, h, .inr ⟨by omega, rfl⟩, hok, Nat.le_refl _, .inr ⟨rfl, rfl⟩⟩
                  have HEQ : Hid (F2 = F ∧ snapsF 1 A2 = snapsF 1 A → A2.length = A.length) := by
                    refine Lib.hid fun h => ?_
                    rcases hcs with ⟨_, rfl⟩ | ⟨_, rfl⟩
                    · rfl
                    · exact hsame h.2
                  have HGJ : Hid (G' ≤ j + 1 ∧ A.length ≤ 100 ∧ R.2.2.length ≤ 100) := Lib.hid (by have := HGBN.out; have := HI.out.len; omega)
                  have HO := Lib.hid (sopen_any w9 gd gp gb k G' (B + 400001) _ L2 b' F2 A2.length (snapsF 1 A2) HD9.out hk9.1 (by omega) rfl hi2 hbk2 hok2 ⟨by simp, HW7.out.2⟩ (by have := HGBN.out; omega) (by have := HGJ.out; omega))
                  have HCS := Lib.hid hcs
                  have HBK2 := Lib.hid hbk2
                  clear hon hR0 hk3 hlen hok hri hro hmx hlen2 hsame hi2 hbk2 hok2 hG2 hcs
                  subst hE
                  subst hW
                  subst hp
                  go_wp2_with fail
                  refine HO.out.mono ?_
                  rintro e w10 ⟨gr2, gs2, rfl, hgr2, hgs2, hc10, hb10⟩
                  have HC10 := Lib.hid hc10
                  have HB10 := Lib.hid hb10
                  have HG2 := Lib.hid (And.intro hgr2 hgs2)
                  have HM10 : Hid (Mod w10 [gp, gb, gr2, gs2] gm F A room) := Lib.hid ((HM9.out.fresh (by intro i hi hl; simp at hi ⊢; omega)).later hb10)
                  have HX10 : Hid (Mod w10 [gp, gb, gr2, gs2] gx R.2.1 R.2.2 room) := Lib.hid ((HMX.out.fresh (by intro i hi hl; simp at hi ⊢; omega)).later hb10)
                  have HS := Lib.hid (msame_any w10 _ _ gm gs2 gr2 300 A2.length F F2 A (snapsF 1 A2) room HM10.out hc10.sto hc10.ok HGJ.out.2.1 (by omega))
                  obtain ⟨D, hD⟩ : ∃ D, D = decide (F2 = F ∧ snapsF 1 A2 = snapsF 1 A) := ⟨_, rfl⟩
                  rw [← hD] at HS
                  have HDD := Lib.hid hD
                  clear hc10 hb10 hgr2 hgs2 hD HO
                  go_wp2_with fail
                  refine HS.out.mono ?_
                  rintro e w11 ⟨rfl, hb11⟩
                  have HB11 := Lib.hid hb11
                  clear hb11 HS
                  cases D with
                  | true =>
                    have hq := of_decide_eq_true HDD.out.symm
                    have hlq := HEQ.out hq
                    have HSet := Lib.hid (set_any w11 gd gp gb gr2 gs2 k G' (B + 400001) 300 _ L2 b' F2 A2.length (snapsF 1 A2) (HC10.out.later HB11.out) 256 none 0 0 [] ⟨rfl, by simp, by simp⟩)
                    have HFIN : Hid (∀ W, Below w11.heap.size w11 W → ActI w W gd gp gb gr2 gs2 gm k (j + 1) room F A) := by
                      refine Lib.hid fun W hW => ?_
                      have hbb := HB11.out.trans (hW.mono HB11.out.size)
                      have hcc := HC10.out.later hbb
                      have hbk := HBK2.out
                      rw [hq.1, hq.2, hlq] at hcc hbk
                      have hsz := (HJ.out w9 (Below.refl _ _)).size
                      refine ⟨⟨G', _, 300, _, L2, b', hcc, rfl, hbk, HGJ.out.1, by have := HGBN.out; omega, by omega⟩, HM10.out.later hbb, by have := HI.out.len; omega, ⟨HI.out.low.1, HI.out.low.2.1, HI.out.low.2.2.1, Nat.le_trans hsz HG2.out.1, Nat.le_trans hsz HG2.out.2⟩, HJ.out W (HB10.out.trans (hbb.mono HB10.out.size))⟩
                    clear hq hlq
                    go_wp2_with fail
                    refine HSet.out.mono ?_
                    rintro e w12 (⟨_, rfl, hb12⟩ | ⟨_, h2, _⟩)
                    · have HB12 := Lib.hid hb12
                      clear hb12
                      go_wp2
                      go_meet
                      exact ⟨gs2, gm, gr2, F, A, rfl, rfl, Lib.hid (HFIN.out _ HB12.out)⟩
                    · omega
                  | false =>
                    have hq := of_decide_eq_false HDD.out.symm
                    obtain ⟨rfl, rfl⟩ : F2 = R.2.1 ∧ A2 = R.2.2 := by
                      rcases HCS.out with ⟨h1, h2⟩ | h
                      · exact absurd ⟨h1, by rw [h2]⟩ hq
                      · exact h
                    have HSn := Lib.hid (msame_any w11 _ _ gx gs2 gr2 300 R.2.2.length R.2.1 R.2.1 R.2.2 (snapsF 1 R.2.2) room (HX10.out.later HB11.out) (HC10.out.sto.later HB11.out) HC10.out.ok HGJ.out.2.2 (by omega))
                    rw [show decide (R.2.1 = R.2.1 ∧ snapsF 1 R.2.2 = snapsF 1 R.2.2) = true from decide_eq_true ⟨rfl, rfl⟩] at HSn
                    have HFIN : Hid (∀ W, Below w11.heap.size w11 W → ActI w W gd gp gb gr2 gs2 gx k (j + 1) room R.2.1 R.2.2) := by
                      refine Lib.hid fun W hW => ?_
                      have hbb := HB11.out.trans (hW.mono HB11.out.size)
                      have hsz := (HJ.out w9 (Below.refl _ _)).size
                      refine ⟨⟨G', _, 300, _, L2, b', HC10.out.later hbb, rfl, HBK2.out, HGJ.out.1, by have := HGBN.out; omega, by omega⟩, HX10.out.later hbb, HRL.out, ⟨HI.out.low.1, HI.out.low.2.1, HI.out.low.2.2.1, Nat.le_trans hsz HG2.out.1, Nat.le_trans hsz HG2.out.2⟩, HJ.out W (HB10.out.trans (hbb.mono HB10.out.size))⟩
                    clear hq
                    go_wp2_with fail
                    refine HSn.out.mono ?_
                    rintro e w12 ⟨rfl, hb12⟩
                    have HB12 := Lib.hid hb12
                    clear hb12
                    go_wp2
                    go_meet
                    exact ⟨gs2, gx, gr2, R.2.1, R.2.2, rfl, rfl, Lib.hid (HFIN.out _ HB12.out)⟩
            case rest =>
              obtain ⟨gs', gm', gr', F', A', rfl, rfl, HA⟩ := hcut
              obtain ⟨G', B', N', t', L', b', hc, _, _, hG, _, hN⟩ := HA.out.ctx
              have HS := Lib.hid (msame_any wc _ _ gm' gs' gr' N' A'.length F' F' A' (snapsF 1 A') room HA.out.mod hc.sto hc.ok (by have := HA.out.len; omega) (by omega))
              rw [show decide (F' = F' ∧ snapsF 1 A' = snapsF 1 A') = true from decide_eq_true ⟨rfl, rfl⟩] at HS
              clear hc hG hN
              go_wp2_with fail
              refine HS.out.mono ?_
              rintro e w10 ⟨rfl, hb10⟩
              have HB10 := Lib.hid hb10
              clear hb10 HS
              have HFIN : Hid (ActI w w10 gd gp gb gr' gs' gm' k (j + 1) room F' A') := by
                obtain ⟨⟨G', B', N', t', L', b', h1, h2, h3, h4, h5, h6⟩, h7, h8, h9, h10⟩ := HA.out
                exact Lib.hid ⟨⟨G', B', N', t', L', b', h1.later HB10.out, h2, h3, h4, h5, h6⟩, h7.later HB10.out, h8, h9, h10.trans (HB10.out.mono h10.size)⟩
              go_wp2
              go_roundg (n - (j + 1))
              case measure => have := HGK.out; omega
              case rel => exact ⟨j + 1, gs', gm', gr', F', A', rfl, by omega, by go_num, rfl, rfl, HFIN⟩
      · obtain rfl : j = n := by omega
        obtain ⟨G, B, N, s, L, b0, hc, hpl, hbk, hG, hB, hN⟩ := HI.out.ctx
        have HO := Lib.hid (sopen_any wr gd gp gb k G B s L b0 F A.length (snapsF 1 A) hc.dsk hk9.1 (by omega) hc.on hc.inv hbk hc.ok hc.win (by omega) (by omega))
        have HA : Hid (A.length ≤ 100) := Lib.hid (by have := HI.out.len; omega)
        clear hc hpl hbk hG hB hN
        go_wp2_with fail
        refine HO.out.mono ?_
        rintro e w6 ⟨gr2, gs2, rfl, _, _, hc6, hb6⟩
        have HS := Lib.hid (msame_any w6 _ _ gm gs2 gr2 300 A.length F F A (snapsF 1 A) room (HI.out.mod.later hb6) hc6.sto hc6.ok HA.out (by omega))
        rw [show decide (F = F ∧ snapsF 1 A = snapsF 1 A) = true from decide_eq_true ⟨rfl, rfl⟩] at HS
        have HB6 : Hid (Below w.heap.size w w6) := Lib.hid (HI.out.bel.trans (hb6.mono HI.out.bel.size))
        clear hc6 hb6 HO
        go_wp2_with fail
        refine HS.out.mono ?_
        rintro e w7 ⟨rfl, hb7⟩
        have HB7 : Hid (Below w.heap.size w w7) := Lib.hid (HB6.out.trans (hb7.mono HB6.out.size))
        clear hb7
        go_wp2
        go_ret
        exact ⟨rfl, HB7.out⟩

end Go.Proofs.YtaijjogjohbheaaGreat
