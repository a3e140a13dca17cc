/- LibraryActs, run: any calls, one behind the other. -/
import Derived.Test.YtcofjhiienifmaaLActsIn
import Derived.Test.YtcofjhiienifmaaOrders
import Derived.Deep.RegionLaw
namespace Go.Proofs.Ytcofjhiienifmaa
open Go.RowKit
set_option linter.unusedSimpArgs false

theorem infoMT : (Try.prog.info? 44).map (fun i => (i.zero, i.size, i.bytes)) = some (some (.pointer none), 1, 8) := by kernel_rfl

theorem heap_alloc2 (w : World) (o o' : Obj) : ((w.alloc o).alloc o').heap[w.heap.size + 1]? = some o' := by
  have := heap_alloc_new (w.alloc o) o'
  simpa using this

set_option maxHeartbeats 8000000 in
set_option maxRecDepth 100000 in
theorem libraryActs_walk (w : World) (a : Option Addr) (n c : Nat) (X : List Cl) (h : RdL w a n X) (hn : n ≤ 150) :
    Calls Try.prog 3 #[.slice a n c] w fun e w' => e = .returned (.bool true) ∧ Below w.heap.size w w' := by
  have HL := Lib.hid (lives_any w)
  have HIN := Lib.hid h
  clear h
  go_enter Try.func3, Try.ntmps3
  go_wp2_with fail
  refine HL.out.mono ?_
  rintro e w1 ⟨rfl, B1⟩
  have HB1 := Lib.hid B1
  clear B1 HL
  go_wp2_with fail
  refine (new_any w1).mono ?_
  rintro e w2 ⟨rfl, hw2⟩
  obtain ⟨gp, hgp⟩ : ∃ gp, gp = w1.heap.size := ⟨_, rfl⟩
  rw [← hgp]
  have H2 : Hid (Pow w2 gp ⟨true, none, 0⟩ ∧ Below w1.heap.size w1 w2 ∧ gp = w1.heap.size) := Lib.hid ⟨by rw [hw2, hgp]; exact pow_laid w1 _, by rw [hw2]; exact Below.alloc0 _ _, hgp⟩
  clear hw2 hgp
  go_wp2_with fail
  refine (lnew_any w2 gp).mono ?_
  rintro e w3 ⟨rfl, hw3⟩
  obtain ⟨gl, hgl⟩ : ∃ gl, gl = w2.heap.size := ⟨_, rfl⟩
  rw [← hgl]
  have H3 : Hid (w3 = w2.alloc (libObj none gp (.slice none 0 0)) ∧ gl = w2.heap.size) := Lib.hid ⟨hw3, hgl⟩
  clear hw3 hgl
  go_wp2
  obtain ⟨gq, hgq⟩ : ∃ gq, gq = w3.heap.size := ⟨_, rfl⟩
  obtain ⟨wz, hwz⟩ : ∃ wz, wz = w3.alloc (mpObj true (-1) 0) := ⟨_, rfl⟩
  have HZ : Hid (Inv w1 wz gl gp gq ⟨true, none, 0⟩ none 0 (.slice none 0 0) 0) := by
    obtain ⟨hp, hb2, hg2⟩ := H2.out
    obtain ⟨hw3, hgl⟩ := H3.out
    have hs2 := hb2.size
    have hlt := hp.lt
    have hs3 : w3.heap.size = w2.heap.size + 1 := by rw [hw3]; simp
    have hL := lbr_new hp (fun _ => 0) (fun _ => ⟨0, 0, [], [], [], 0⟩) (fun _ => [])
    rw [← hw3, ← hgl] at hL
    have hbz : Below w3.heap.size w3 wz := by rw [hwz]; exact Below.alloc0 _ _
    have hb3 : Below w1.heap.size w1 w3 := by rw [hw3]; exact hb2.alloc hs2 _
    refine Lib.hid ⟨fun _ => 0, fun _ => 0, fun _ => ⟨0, 0, [], [], [], 0⟩, fun _ => [], fun _ => [], .slice none 0 0, [gl], [], ⟨hL.later hbz, ⟨World.ownsRow_nil _ _ _ _, fun i hi => by omega, fun i j hi => by omega, fun i hi => by omega, by simp [Value.ownBlock], by simp⟩, ⟨0, ?_, fun j u e => (by cases e)⟩, by simp, by simp, ?_, by simp, ?_, ?_, by simp, by omega, by omega, hb3.trans (hbz.mono hb3.size)⟩, fun i hi => by omega, ⟨fun k t e => (by cases e), Nat.le_refl _⟩⟩
    · rw [hwz, hgq]; exact heap_alloc_new w3 _
    · simp only [List.mem_singleton]; omega
    · omega
    · intro k hk
      simp only [List.mem_singleton] at hk
      omega
  try (change Code.wp _ _ _ _ (w3.alloc (mpObj true (-1) 0)))
  rw [← hgq, ← hwz]
  clear hgq hwz H2 H3
  go_loopg [36, 6, 7] n (fun gk i va sl wr => ∃ (j : Nat) (s : Pw) (d : Option Nat) (nt : Nat) (A : Option Addr) (cA : Nat), gk = n - j ∧ j ≤ n ∧ i = .int .i64 (j : Int) ∧ va = .slice A nt cA ∧ sl = .int .i64 (slotI d) ∧ Hid (Inv w1 wr gl gp gq s d nt (.slice A nt cA) j))
  case atStart => exact ⟨0, _, none, 0, none, 0, rfl, Nat.zero_le _, rfl, rfl, rfl, HZ.out⟩
  case round =>
    obtain ⟨j, s, d, nt, A, cA, hgk, hj, rfl, rfl, rfl, HI⟩ := hrel
    have HGK := Lib.hid hgk
    clear hgk HZ
    have HBR : Hid (Below w.heap.size w wr) := Lib.hid (HB1.out.trans (HI.out.bel.mono HB1.out.size))
    by_cases hlt : j < n
    · have HRr := HIN.out.later HBR.out
      obtain ⟨b, o, rfl, hc⟩ := HRr.2.2 (by omega)
      have hcj := hc j hlt
      have hjl : j < X.length := by rw [HIN.out.1]; exact hlt
      have HX0 := HIN.out.2.1 (X.getD j Cl.none) (by simp [List.getD, hjl])
      obtain ⟨x, hxe⟩ : ∃ x, x = X.getD j Cl.none := ⟨_, rfl⟩
      rw [← hxe] at hcj HX0
      clear hxe hc HRr hjl
      have HX := Lib.hid HX0
      clear HX0
      have e0 := hcj 0 _ rfl
      have e1 := hcj 1 _ rfl
      have e2 := hcj 2 _ rfl
      have e3 := hcj 3 _ rfl
      have e4 := hcj 4 _ rfl
      have e5 := hcj 5 _ rfl
      have e6 := hcj 6 _ rfl
      have e7 := hcj 7 _ rfl
      have e8 := hcj 8 _ rfl
      have e9 := hcj 9 _ rfl
      simp only [Nat.add_zero] at e0
      clear hcj
      go_upto_region 12 with fail
      obtain ⟨W1, hW1⟩ : ∃ W1, W1 = wr.alloc (clObj x) := ⟨_, rfl⟩
      obtain ⟨gx, hgx⟩ : ∃ gx, gx = wr.heap.size := ⟨_, rfl⟩
      change Code.wp _ _ _ _ (wr.alloc (clObj x))
      rw [← hW1, ← hgx]
      have hob : W1.heap[gx]? = some (clObj x) := by rw [hW1, hgx]; exact heap_alloc_new wr _
      have hbw : Below wr.heap.size wr W1 := by rw [hW1]; exact Below.alloc0 _ _
      have HOB := Lib.hid hob
      have HG := Lib.hid (And.intro hbw hgx)
      have HI1 : Hid (Inv w1 W1 gl gp gq s d nt (.slice A nt cA) j) := Lib.hid (HI.out.later hbw)
      have HX1 : Hid (x.fits W1 ∧ x.fits w) := Lib.hid ⟨(HX.out.later HBR.out).later hbw, HX.out⟩
      have HB2 : Hid (Below w.heap.size w W1) := Lib.hid (HBR.out.trans (hbw.mono HBR.out.size))
      clear e0 e1 e2 e3 e4 e5 e6 e7 e8 e9 hW1 hgx hbw hob HX HBR
      have e0 := cl_cells HOB.out 0 _ rfl
      have e1 := cl_cells HOB.out 1 _ rfl
      have e2 := cl_cells HOB.out 2 _ rfl
      have e3 := cl_cells HOB.out 3 _ rfl
      have e4 := cl_cells HOB.out 4 _ rfl
      have e5 := cl_cells HOB.out 5 _ rfl
      have e6 := cl_cells HOB.out 6 _ rfl
      have e7 := cl_cells HOB.out 7 _ rfl
      have e8 := cl_cells HOB.out 8 _ rfl
      have e9 := cl_cells HOB.out 9 _ rfl
      by_cases hbig : 300 < x.n
      · as_aux_lemma =>
          go_wp2
          go_ret
          exact ⟨rfl, HB2.out⟩
      have hnb : x.n ≤ 300 := by omega
      obtain ⟨q, hq⟩ : ∃ q, q = x.nR + x.nW := ⟨_, rfl⟩
      have hws : IntKind.i64.wrap ((x.nR : Int) + (x.nW : Int)) = (q : Int) := by
        have h1 := HX1.out.2.sw
        have h2 := HX1.out.2.sr
        unfold reachBytes at h1 h2
        rw [IntKind.wrap_i64] <;> omega
      clear hbig
      by_cases hsum : 60 < q
      · have hsI : (60 : Int) < (q : Int) := by omega
        as_aux_lemma =>
          clear hq
          go_wp2
          go_ret
          exact ⟨rfl, HB2.out⟩
      have hq60 : q ≤ 60 := by omega
      have HQ : Hid (x.nW ≤ 60 ∧ x.nR ≤ 60) := Lib.hid (by omega)
      clear hsum hq
      have hcase : (x.K : Int) % 4 = 0 ∨ (x.K : Int) % 4 = 1 ∨ (x.K : Int) % 4 = 2 ∨ (x.K : Int) % 4 = 3 := by omega
      go_upto_block 2 with fail
      go_cut [6, 7, 59] (fun v6 v7 _ wx => ∃ (s' : Pw) (d' : Option Nat) (nt' : Nat) (A' : Option Addr) (cA' : Nat), v6 = .slice A' nt' cA' ∧ v7 = .int .i64 (slotI d') ∧ Hid (Inv w1 wx gl gp gq s' d' nt' (.slice A' nt' cA') (j + 1)))
      case first =>
        rcases hcase with hk | hk | hk | hk
        · as_aux_lemma =>
            obtain ⟨g2, m2, t2, F2, G2, v2, HH2, J2, hA0, hbd2, hwi2⟩ := HI1.out
            obtain ⟨r, hr⟩ : ∃ r : Int, r = x.R.tmod 3000 := ⟨_, rfl⟩
            obtain ⟨y, hy⟩ : ∃ y : Int, y = x.Y.tmod 3000 := ⟨_, rfl⟩
            have hrb : r < 3000 := by rw [hr]; exact Int.tmod_lt_of_pos _ (by omega)
            obtain ⟨R0, hR0⟩ : ∃ R0, R0 = x.R := ⟨_, rfl⟩
            obtain ⟨Y0, hY0⟩ : ∃ Y0, Y0 = x.Y := ⟨_, rfl⟩
            rw [← hR0] at hr e2
            rw [← hY0] at hy e3
            have HRY : Hid (R0.tmod 3000 = r ∧ Y0.tmod 3000 = y) := Lib.hid ⟨hr.symm, hy.symm⟩
            clear hR0 hY0 hr hy
            obtain ⟨W2, hW2⟩ : ∃ W2, W2 = W1.alloc (plnObj R0 Y0 (.slice x.aW x.nW x.cW) (.slice x.aR x.nR x.cR)) := ⟨_, rfl⟩
            obtain ⟨gy, hgy⟩ : ∃ gy, gy = W1.heap.size := ⟨_, rfl⟩
            have hob2 : W2.heap[gy]? = some (plnObj R0 Y0 (.slice x.aW x.nW x.cW) (.slice x.aR x.nR x.cR)) := by rw [hW2, hgy]; exact heap_alloc_new W1 _
            obtain ⟨x0, x1, x2, x3⟩ := pln_cells hob2
            have fx := pln_soft hob2
            obtain ⟨W3, hW3⟩ : ∃ W3, W3 = put W2 gy (plnObj r y (.slice x.aW x.nW x.cW) (.slice x.aR x.nR x.cR)) := ⟨_, rfl⟩
            have hset : (W2.setCell ⟨gy, 0, none⟩ (.int .i64 r)).setCell ⟨gy, 1, none⟩ (.int .i64 y) = W3 := by
              rw [plnlay0 hob2, plnlay1 (put_same hob2), put_put, hW3]
            have hob3 : W3.heap[gy]? = some (plnObj r y (.slice x.aW x.nW x.cW) (.slice x.aR x.nR x.cR)) := by rw [hW3]; exact put_same hob2
            have hb13 : Below W1.heap.size W1 W3 := by
              rw [hW3, hW2]
              exact (Below.alloc0 W1 _).trans (put_below _ (by rw [hgy]; exact Nat.le_refl _))
            have hA3 := hA0.later hb13
            have hgyH : gy ∉ HH2 ∧ gy ∉ J2 := ⟨fun hk => by have := hA0.lib.lt gy hk; omega, fun hk => by have := hA0.mod.lt gy hk; omega⟩
            have HSET := Lib.hid (And.intro hset (And.intro hW2 hgy))
            have HA3 := Lib.hid (And.intro hA3 (And.intro hbd2 (And.intro hwi2 hgyH)))
            have HO3 := Lib.hid hob3
            have HF3 : Hid (RdI W3 x.aW x.nW x.LW ∧ RdI W3 x.aR x.nR x.LR ∧ Below w.heap.size w W3) := Lib.hid ⟨HX1.out.1.rw_.later hb13, HX1.out.1.rr.later hb13, HB2.out.trans (hb13.mono HB2.out.size)⟩
            clear hset hW2 hgy hA3 hbd2 hwi2 hgyH hob2 hob3 hb13 hW3 hA0 HI HI1 e0 e1 e6 e7 e8 e9
            go_upto_region 22 with fail
            change Code.wp _ _ _ _ (W1.alloc (plnObj R0 Y0 (.slice x.aW x.nW x.cW) (.slice x.aR x.nR x.cR)))
            rw [← HSET.out.2.1, ← HSET.out.2.2]
            obtain ⟨hr2, hy2⟩ := HRY.out
            go_upto_region 23 with fail
            rw [HSET.out.1]
            clear x0 x1 x2 x3 fx e2 e3 e4 e5 hr2 hy2 HRY
            obtain ⟨x0, x1, x2, x3⟩ := pln_cells HO3.out
            by_cases hok : 1 ≤ r ∧ 0 ≤ y ∧ y ≤ r ∧ nt < 64
            · as_aux_lemma =>
                obtain ⟨ha1, ha2, ha3, ha4⟩ := hok
                obtain ⟨rn, rfl⟩ : ∃ rn : Nat, r = (rn : Int) := ⟨r.toNat, by omega⟩
                obtain ⟨yn, rfl⟩ : ∃ yn : Nat, y = (yn : Int) := ⟨y.toNat, by omega⟩
                have HADD : Hid (Calls Try.prog 8 #[.pointer (some ⟨gl, 0, none⟩), .agg #[.int .i64 (rn : Int), .int .i64 (yn : Int), .slice x.aW x.nW x.cW, .slice x.aR x.nR x.cR]] W3 fun e w' => e = .returned (.tuple #[.int .i64 (nt : Int), .int .i64 0]) ∧ Hid (w'.heap[gy]? = some (plnObj (rn : Int) (yn : Int) (.slice x.aW x.nW x.cW) (.slice x.aR x.nR x.cR)) ∧ RdI w' x.aW x.nW x.LW ∧ RdI w' x.aR x.nR x.LR ∧ ∃ gt F' v' H', Al w1 w' gl gp gq s d (nt + 1) nt (upd g2 nt gt) m2 (upd t2 nt ⟨rn, yn, x.LW, x.LR, [], 0⟩) t2 (upd F2 nt F') G2 v' (.slice A nt cA) H' J2)) := by
                  obtain ⟨hA3, hbd2, hwi2, hgyH⟩ := HA3.out
                  have hq1 := HQ.out.1
                  have hq2 := HQ.out.2
                  refine Lib.hid ((ladd_yes hA3.lib ha4 rn yn x.aW x.aR x.nW x.cW x.nR x.cR x.LW x.LR (by omega) (by omega) (by omega) HF3.out.1 HF3.out.2.1 (by omega) (by omega)).mono ?_)
                  rintro e w' ⟨rfl, gt, F', v', H', h1, h2, h3⟩
                  have hA' := hA3.prog h1 h2 h3
                  have hbw : Below w.heap.size w w' := HB1.out.trans (hA'.bel.mono HB1.out.size)
                  exact ⟨rfl, Lib.hid ⟨(h2.block gy (lt_of_block HO3.out) hgyH.1).trans HO3.out, HX1.out.2.rw_.later hbw, HX1.out.2.rr.later hbw, gt, F', v', H', hA'⟩⟩
                go_wp2_with fail
                refine HADD.out.mono ?_
                rintro e w5 ⟨rfl, H5⟩
                clear x0 x1 x2 x3 HADD
                obtain ⟨x0, x1, x2, x3⟩ := pln_cells H5.out.1
                have k1 : (1 : Int) ≤ (rn : Int) := ha1
                have k2 : decide ((0 : Int) ≤ (yn : Int)) = true := by simp
                have k3 : decide ((yn : Int) ≤ (rn : Int)) = true := by simp; omega
                have k3' : decide (yn ≤ rn) = true := by simp; omega
                have k4 : decide ((nt : Int) < 64) = true := by simp; omega
                have HK5 : Hid (∀ W, Below w5.heap.size w5 W → W.cell? ⟨gy, 0, none⟩ = some (.int .i64 (rn : Int)) ∧ W.cell? ⟨gy, 1, none⟩ = some (.int .i64 (yn : Int)) ∧ W.cell? ⟨gy, 2, none⟩ = some (.slice x.aW x.nW x.cW) ∧ W.cell? ⟨gy, 3, none⟩ = some (.slice x.aR x.nR x.cR)) := Lib.hid fun W hW => pln_cells ((hW.block gy (lt_of_block H5.out.1)).trans H5.out.1)
                have HRW : Hid (RdI w5 x.aW x.nW x.LW ∧ RdI w5 x.aR x.nR x.LR) := Lib.hid ⟨H5.out.2.1, H5.out.2.2.1⟩
                have hqW := HQ.out.1
                have hqR := HQ.out.2
                have HROW : Hid (∀ W, Below w5.heap.size w5 W → W.ownsRow 0 44 1 (.slice A nt cA) nt (cG m2 nt)) := by
                  obtain ⟨_, _, _, gt, F', v', H', hA'⟩ := H5.out
                  exact Lib.hid fun W hW => (hA'.later hW).mod.row
                have HGR : Hid (∀ W w7, Below w5.heap.size w5 W → W.grownBy w7 (Value.slice A nt cA).ownBlock → w7.cell? ⟨gy, 0, none⟩ = some (.int .i64 (rn : Int)) ∧ w7.cell? ⟨gy, 1, none⟩ = some (.int .i64 (yn : Int)) ∧ w7.cell? ⟨gy, 2, none⟩ = some (.slice x.aW x.nW x.cW) ∧ w7.cell? ⟨gy, 3, none⟩ = some (.slice x.aR x.nR x.cR)) := by
                  obtain ⟨_, _, _, gt, F', v', H', hA'⟩ := H5.out
                  refine Lib.hid fun W w7 hW hg => pln_cells ?_
                  have hlt := lt_of_block H5.out.1
                  have hne : (Value.slice A nt cA).ownBlock ≠ some gy := fun e => HA3.out.2.2.2.2 (hA'.mod.fv gy e)
                  exact (hg.block gy (Nat.lt_of_lt_of_le hlt hW.size) (fun e => hne e.symm)).trans ((hW.block gy hlt).trans H5.out.1)
                have HEND : Hid (∀ (w8 w10 : World) (g1 g2 c1 c2 gg cap : Nat) (ob : Obj), Below w5.heap.size w5 w8 → RdI w8 (some ⟨g1, 0, none⟩) x.nW x.LW → RdI w8 (some ⟨g2, 0, none⟩) x.nR x.LR → w5.heap.size ≤ g1 ∧ g1 < w8.heap.size → w5.heap.size ≤ g2 ∧ g2 < w8.heap.size →
                    w10.ownsRow 0 44 1 (.slice (some ⟨gg, 0, none⟩) (nt + 1) cap) (nt + 1) (cG m2 nt ++ [.pointer (some ⟨w8.heap.size, 0, none⟩)]) → ((w8.alloc (mtObj rn yn (.slice (some ⟨g1, 0, none⟩) x.nW c1) (.slice (some ⟨g2, 0, none⟩) x.nR c2) (.slice none 0 0) 0)).alloc ob).grownBy w10 (Value.slice A nt cA).ownBlock → ((Value.slice A nt cA).ownBlock = some gg ∨ gg = w8.heap.size + 1 + 1) →
                    Hid (Inv w1 w10 gl gp gq s d (nt + 1) (.slice (some ⟨gg, 0, none⟩) (nt + 1) cap) (j + 1))) := by
                  refine Lib.hid fun w8 w10 g1 g2 c1 c2 gg cap ob hb h1 h2 q1 q2 hown hgrow hat => Lib.hid ?_
                  obtain ⟨_, _, _, gt, F', v', H', hA'⟩ := H5.out
                  obtain ⟨hA3, hbd2, hwi2, _⟩ := HA3.out
                  obtain ⟨G', hG, hGk⟩ := mta_start (y := yn) (c1 := c1) (c2 := c2) hb h1 h2 q1 q2 (by omega : rn ≤ 3000)
                  have hb9 : Below w5.heap.size w5 (w8.alloc (mtObj rn yn (.slice (some ⟨g1, 0, none⟩) x.nW c1) (.slice (some ⟨g2, 0, none⟩) x.nR c2) (.slice none 0 0) 0)) := hb.alloc hb.size _
                  have hA9 := hA'.later hb9
                  have hj5 := hA'.mod.lt
                  obtain ⟨p1, p2, p3⟩ := hA9.mod.added hG (B := w5.heap.size) hj5 hGk hown hgrow (by simpa using hat)
                  refine ⟨_, _, _, _, _, _, _, _, hA'.model p1 ((Save.of_below hb9 _).trans p2) ?_, ?_, hwi2.mono (by omega)⟩
                  · intro k hk
                    simp only [List.mem_cons, List.mem_append] at hk
                    rcases hk with rfl | hk | hk
                    · exact p3.imp id (fun h => Nat.le_trans hb9.size h)
                    · exact .inl hk
                    · exact .inr (hGk k hk)
                  · intro i hi
                    by_cases e : i = nt
                    · subst e
                      rw [upd_same]
                      have l1 := HRW.out.1.1
                      have l2 := HRW.out.2.1
                      exact ⟨by simp only; omega, by simp only; omega, by simp only; omega⟩
                    · rw [upd_other _ _ e]
                      exact hbd2 i (by omega)
                obtain ⟨i0, hi0, hz0, hz1, hz2⟩ := info_parts infoMT
                have hmx : nt + 1 ≤ maxLen := by unfold maxLen; omega
                have hby : (nt + 1) * 8 ≤ 140737488355328 := by omega
                clear H5 HA3 HO3 HF3 k1 k2 k3 k3' k4
                go_upto_region 28 with fail
                go_region_held3 (fun W => W.cell? ⟨gy, 0, none⟩ = some (.int .i64 (rn : Int)) ∧ W.cell? ⟨gy, 1, none⟩ = some (.int .i64 (yn : Int)) ∧ W.cell? ⟨gy, 2, none⟩ = some (.slice x.aW x.nW x.cW) ∧ W.cell? ⟨gy, 3, none⟩ = some (.slice x.aR x.nR x.cR))
                  (first | exact k7 | (refine HK5.out _ ?_; (repeat (first | exact Below.refl _ _ | assumption | refine Below.drew ?_ | refine Below.alloc ?_ (by first | (simp; done) | exact B7.size | exact B8.size | (simp; omega) | (have h8 := B8.size; simp; omega)) _)); done) | go_keep)
                  (first
                    | (refine step_freshV (V := w5) (by rfl) _ _ (by rfl) _ (by rfl) x.aW x.nW x.cW (by rfl) x.LW HRW.out.1 (by omega) (by (repeat (first | exact Below.refl _ _ | assumption | refine Below.drew ?_ | refine Below.alloc ?_ (by first | (simp; done) | exact B7.size | exact B8.size | (simp; omega) | (have h8 := B8.size; simp; omega)) _))) (by first | (simp; done) | (simp; omega)) ?_; intro g1 c1 w7 hr1 hb1 B7 hg1 hl1)
                    | (refine step_freshV (V := w5) (by rfl) _ _ (by rfl) _ (by rfl) x.aR x.nR x.cR (by rfl) x.LR HRW.out.2 (by omega) (by (repeat (first | exact Below.refl _ _ | assumption | refine Below.drew ?_ | refine Below.alloc ?_ (by first | (simp; done) | exact B7.size | exact B8.size | (simp; omega) | (have h8 := B8.size; simp; omega)) _))) (by have h8 := B7.size; have h9 := hb1.size; first | (simp; done) | (simp; omega) | (simp at h9 ⊢; omega)) ?_; intro g2 c2 w8 hr2 hb2 B8 hg2 hl2)
                    | (refine step_append_lies _ (by rfl) _ _ _ (by rfl) 0 44 i0 _ 1 8 Try.underlying33 hi0 hz0 hz1 hz2 rfl (by omega) (.slice A nt cA) nt (cG m2 nt) (by rfl) (HROW.out _ (by (repeat (first | exact Below.refl _ _ | assumption | refine Below.drew ?_ | refine Below.alloc ?_ (by first | (simp; done) | exact B7.size | exact B8.size | (simp; omega) | (have h8 := B8.size; simp; omega)) _)))) ⟨w8.heap.size + 1, 0, none⟩ 1 1 [.pointer (some ⟨w8.heap.size, 0, none⟩)] (by rfl) (by rfl) (World.news_of_block (cs := #[.pointer (some ⟨w8.heap.size, 0, none⟩)]) (t := 44) (fr := (0, 0)) (heap_alloc2 w8 _ _)) (by simp [Value.oneCell']) (by omega) hmx hby (Nat.zero_le _) _ rfl ?_; intro gg cap w10 hown hgrow hat hlt10; have k7 := HGR.out _ _ (by (repeat (first | exact Below.refl _ _ | assumption | refine Below.drew ?_ | refine Below.alloc ?_ (by first | (simp; done) | exact B7.size | exact B8.size | (simp; omega) | (have h8 := B8.size; simp; omega)) _))) hgrow))
                all_goals
                  go_wp2_with fail
                  go_meet
                  refine ⟨s, d, nt + 1, _, cap, rfl, rfl, HEND.out w8 w10 g1 g2 c1 c2 gg cap _ B8 ?_ hr2 ⟨hg1, ?_⟩ ⟨hg2, hl2⟩ hown hgrow (by simpa using hat)⟩
                  · first
                      | exact hr1.later hb2
                      | exact hr1.later ((Below.alloc0 _ _).trans (hb2.mono (by simp)))
                  · have h9 := hb2.size
                    first
                      | omega
                      | (simp at h9; omega)
            · as_aux_lemma =>
                have HADD : Hid (Calls Try.prog 8 #[.pointer (some ⟨gl, 0, none⟩), .agg #[.int .i64 r, .int .i64 y, .slice x.aW x.nW x.cW, .slice x.aR x.nR x.cR]] W3 fun e w' => e = .returned (.tuple #[.int .i64 0, .int .i64 1]) ∧ Hid (w'.heap[gy]? = some (plnObj r y (.slice x.aW x.nW x.cW) (.slice x.aR x.nR x.cR)) ∧ Inv w1 w' gl gp gq s d nt (.slice A nt cA) (j + 1))) := by
                  obtain ⟨hA3, hbd2, hwi2, hgyH⟩ := HA3.out
                  have hle := hA3.lib.le
                  refine Lib.hid ((ladd_no hA3.lib r y x.aW x.aR x.nW x.cW x.nR x.cR (by omega)).mono ?_)
                  rintro e w' ⟨rfl, h1⟩
                  exact ⟨rfl, Lib.hid ⟨(h1.block gy (lt_of_block HO3.out)).trans HO3.out, _, _, _, _, _, _, _, _, hA3.later h1, hbd2, hwi2.mono (by omega)⟩⟩
                go_wp2_with fail
                refine HADD.out.mono ?_
                rintro e w5 ⟨rfl, H5⟩
                clear x0 x1 x2 x3 HADD
                obtain ⟨x0, x1, x2, x3⟩ := pln_cells H5.out.1
                by_cases h1 : 1 ≤ r
                · by_cases h2 : 0 ≤ y
                  · by_cases h3 : y ≤ r
                    · have h4 : decide ((nt : Int) < 64) = false := by simp; omega
                      clear hok
                      go_wp2_with fail
                      go_meet
                      exact ⟨s, d, nt, A, cA, rfl, rfl, Lib.hid H5.out.2⟩
                    · have h3' : r < y := by omega
                      clear hok h3
                      go_wp2_with fail
                      go_meet
                      exact ⟨s, d, nt, A, cA, rfl, rfl, Lib.hid H5.out.2⟩
                  · have h2' : y < 0 := by omega
                    clear hok h2
                    go_wp2_with fail
                    go_meet
                    exact ⟨s, d, nt, A, cA, rfl, rfl, Lib.hid H5.out.2⟩
                · have h1' : r < 1 := by omega
                  clear hok h1
                  go_wp2_with fail
                  go_meet
                  exact ⟨s, d, nt, A, cA, rfl, rfl, Lib.hid H5.out.2⟩
        · as_aux_lemma =>
            obtain ⟨g2, m2, t2, F2, G2, v2, HH2, J2, hA0, hbd2, hwi2⟩ := HI.out
            have hA2 := hA0.later HG.out.1
            have hle := hA2.lib.le
            obtain ⟨N, hN⟩ : ∃ N, N = x.N := ⟨_, rfl⟩
            rw [← hN] at e1
            by_cases hin : N < 0 ∨ (nt : Int) ≤ N
            · have HLD : Hid (Calls Try.prog 9 #[.pointer (some ⟨gl, 0, none⟩), .int .i64 N] W1 fun e w' => e = .returned (.int .i64 1) ∧ w' = W1) := Lib.hid (load_no hA2.lib N hin)
              have H5 : Hid (Inv w1 W1 gl gp gq s d nt (.slice A nt cA) (j + 1)) := Lib.hid (HI1.out.mono (by omega))
              clear hA0 hA2 hbd2 hwi2 hN e0 e2 e3 e4 e5 e6 e7 e8 e9 HI1 HI
              by_cases h0 : N < 0
              · clear hin
                go_wp2_with fail
                refine HLD.out.mono ?_
                rintro e w5 ⟨rfl, rfl⟩
                go_wp2_with fail
                go_meet
                exact ⟨s, d, nt, A, cA, rfl, rfl, H5⟩
              · have h1 : (nt : Int) ≤ N := by omega
                have h0' : 0 ≤ N := by omega
                clear hin h0
                go_wp2_with fail
                refine HLD.out.mono ?_
                rintro e w5 ⟨rfl, rfl⟩
                go_wp2_with fail
                go_meet
                exact ⟨s, d, nt, A, cA, rfl, rfl, H5⟩
            · obtain ⟨i, hi⟩ : ∃ i : Nat, N = (i : Int) := ⟨N.toNat, by omega⟩
              have hint : i < nt := by omega
              rw [hi] at e1
              have hq0 := hA2.mpw.on
              have hd1 : decide ((i : Int) < 0) = false := by simp
              have hd2 : decide ((nt : Int) ≤ (i : Int)) = false := by simp; omega
              have hd3 : decide (nt ≤ i) = false := by simp; omega
              by_cases ho : s.on = true
              · obtain ⟨a', c', ha', _, hcl⟩ := hA2.mod.shape
                obtain ⟨bA, rfl, hrow⟩ := hcl (by omega)
                injection ha' with ha1 _ ha2
                subst ha1 ha2
                have hri := hrow i hint
                obtain ⟨mi, hmi⟩ : ∃ mi, mi = m2 i := ⟨_, rfl⟩
                rw [← hmi] at hri
                have hmt : W1.cell? ⟨mi, 5, none⟩ = some (.int .i64 ((t2 i).pos : Int)) ∧ W1.frozen? ⟨mi, 5, none⟩ = false := by
                  rw [hmi]
                  obtain ⟨v, X, aW, aR, nW, cW, nR, cR, hM⟩ := hA2.mod.taps i hint
                  exact ⟨hM.cells.2.2.2.2, hM.soft 5⟩
                obtain ⟨hm5, hf5⟩ := hmt
                obtain ⟨W3, hW3⟩ : ∃ W3, W3 = (W1.setCell ⟨mi, 5, none⟩ (.int .i64 0)).drew := ⟨_, rfl⟩
                have hA3 : Al w1 W3 gl gp gq s d nt nt g2 m2 t2 (upd t2 i (t2 i).rewound) F2 G2 v2 (.slice (some ⟨bA, 0, none⟩) nt cA) HH2 J2 := by
                  rw [hW3, hmi]
                  exact (hA2.rewind i hint).later (Below.refl _ _).drew
                have HLD : Hid (Calls Try.prog 9 #[.pointer (some ⟨gl, 0, none⟩), .int .i64 (i : Int)] W3 fun e w' => e = .returned (.int .i64 0) ∧ Hid (Inv w1 w' gl gp gq s (some i) nt (.slice (some ⟨bA, 0, none⟩) nt cA) (j + 1))) := by
                  refine Lib.hid ((load_yes hA3.lib i hint ho).mono ?_)
                  rintro e w' ⟨rfl, h1, h2⟩
                  refine ⟨rfl, Lib.hid ⟨g2, m2, _, F2, G2, v2, HH2, J2, hA3.prog h1 h2 (fun k hk => .inl hk), ?_, hwi2.mono (by omega)⟩⟩
                  intro i' hi'
                  by_cases e : i' = i
                  · subst e
                    rw [upd_same]
                    exact hbd2 i' hi'
                  · rw [upd_other _ _ e]
                    exact hbd2 i' hi'
                have hgm : gx ≠ mi := by
                  have h1 := hA0.mod.lt (m2 i) (hA0.mod.fit i hint _ (hA0.mod.taps i hint).gmF).1
                  have h2 := HG.out.2
                  omega
                have e1' : W3.cell? ⟨gx, 1, none⟩ = some (.int .i64 (i : Int)) := by
                  have e : W3.heap[gx]? = W1.heap[gx]? := by
                    rw [hW3]
                    exact (Save.set W1 mi 5 (.int .i64 0)).block gx (lt_of_block HOB.out) (by simp [hgm])
                  rw [← e1]
                  simp only [World.cell?, e]
                have HW3 := Lib.hid hW3
                rw [ho] at hq0
                clear hA0 hA2 hA3 hbd2 hwi2 hN hin hi hrow hmi HI1 HI ho hW3 hgm e0 e2 e3 e4 e5 e6 e7 e8 e9
                go_upto_region 31 with fail
                go_region
                rw [← HW3.out]
                clear e1 hri hm5 hf5 hq0
                go_wp2_with fail
                refine HLD.out.mono ?_
                rintro e w5 ⟨rfl, H5⟩
                go_wp2_with fail
                go_meet
                exact ⟨s, some i, nt, _, cA, rfl, rfl, H5⟩
              · have ho' : s.on = false := by simpa using ho
                rw [ho'] at hq0
                have HLD : Hid (Calls Try.prog 9 #[.pointer (some ⟨gl, 0, none⟩), .int .i64 (i : Int)] W1 fun e w' => e = .returned (.int .i64 11) ∧ Hid (Inv w1 w' gl gp gq s d nt (.slice A nt cA) (j + 1))) := by
                  refine Lib.hid ((load_down hA2.lib i hint ho').mono ?_)
                  rintro e w' ⟨rfl, h1, h2⟩
                  exact ⟨rfl, Lib.hid ⟨g2, m2, t2, F2, G2, v2, HH2, J2, hA2.prog h1 h2 (fun k hk => .inl hk), hbd2, hwi2.mono (by omega)⟩⟩
                clear hA0 hA2 hbd2 hwi2 hN hin hi HI1 HI ho ho' e0 e2 e3 e4 e5 e6 e7 e8 e9
                go_wp2_with fail
                refine HLD.out.mono ?_
                rintro e w5 ⟨rfl, H5⟩
                go_wp2_with fail
                go_meet
                exact ⟨s, d, nt, A, cA, rfl, rfl, H5⟩
        · as_aux_lemma =>
            obtain ⟨g2, m2, t2, F2, G2, v2, HH2, J2, hA2, hbd2, hwi2⟩ := HI1.out
            have HU : Hid (Calls Try.prog 10 #[.pointer (some ⟨gl, 0, none⟩)] W1 fun e w' => e = .returned (.tuple #[]) ∧ Hid (Inv w1 w' gl gp gq s none nt (.slice A nt cA) (j + 1))) := by
              refine Lib.hid ((unload_any hA2.lib).mono ?_)
              rintro e w' ⟨rfl, h1, h2⟩
              exact ⟨rfl, Lib.hid ⟨g2, m2, t2, F2, G2, v2, HH2, J2, hA2.prog h1 h2 (fun k hk => .inl hk), hbd2, hwi2.mono (by omega)⟩⟩
            clear hA2 hbd2 hwi2 e0 e1 e2 e3 e4 e5 e6 e7 e8 e9
            go_wp2_with fail
            refine HU.out.mono ?_
            rintro e w5 ⟨rfl, H5⟩
            go_wp2_with fail
            go_meet
            exact ⟨s, none, nt, A, cA, rfl, rfl, H5⟩
        · as_aux_lemma =>
            cases d with
            | none =>
              have hsi : slotI none = -1 := rfl
              obtain ⟨g2, m2, t2, F2, G2, v2, HH2, J2, hA2, hbd2, hwi2⟩ := HI1.out
              have hdr := hA2.lib.cells.1
              have hdn : drvA g2 none = none := rfl
              rw [hdn] at hdr
              rw [hsi]
              have H5 : Hid (Inv w1 W1 gl gp gq s none nt (.slice A nt cA) (j + 1)) := Lib.hid (HI1.out.mono (by omega))
              clear hA2 hbd2 hwi2 HI HI1 e0 e1 e2 e3 e4 e5 e6 e7 e8 e9
              go_wp2_with fail
              refine (mark_nil W1).mono ?_
              rintro e _ ⟨rfl, rfl⟩
              go_wp2_with fail
              refine (place_nil _).mono ?_
              rintro e _ ⟨rfl, rfl⟩
              go_wp2
              go_roundg (n - (j + 1))
              case measure => have := HGK.out; omega
              case rel => exact ⟨j + 1, s, none, nt, A, cA, rfl, by omega, by go_num, rfl, rfl, H5⟩
            | some i =>
              have hsi : slotI (some i) = (i : Int) := rfl
              rw [hsi]
              obtain ⟨g2, m2, t2, F2, G2, v2, HH2, J2, hA0, hbd2, hwi2⟩ := HI.out
              have hA2 := hA0.later HG.out.1
              have hint := hA2.lib.drv i rfl
              have hle := hA2.lib.le
              have hd1 : decide ((i : Int) < 0) = false := by simp
              obtain ⟨a', c', ha', _, hcl⟩ := hA2.mod.shape
              obtain ⟨bA, rfl, hrow⟩ := hcl (by omega)
              injection ha' with ha1 _ ha2
              subst ha1 ha2
              have hri := hrow i hint
              have hdr := hA2.lib.cells.1
              obtain ⟨gi, hgi⟩ : ∃ gi, gi = g2 i := ⟨_, rfl⟩
              obtain ⟨mi, hmi⟩ : ∃ mi, mi = m2 i := ⟨_, rfl⟩
              have hdn : drvA g2 (some i) = some ⟨gi, 0, none⟩ := by rw [hgi]; rfl
              rw [hdn] at hdr
              rw [← hmi] at hri
              have hgo : gx ∉ gq :: gp :: (HH2 ++ J2) := by
                have h2 := HG.out.2
                have h3 := hA0.mpw.lt
                have h4 := hA0.lib.pow.lt
                simp only [List.mem_cons, List.mem_append, not_or]
                exact ⟨by omega, by omega, fun hk => by have := hA0.lib.lt gx hk; omega, fun hk => by have := hA0.mod.lt gx hk; omega⟩
              have HS1 : Hid (W1.cell? ⟨gl, 0, none⟩ = some (.pointer (some ⟨gi, 0, none⟩)) ∧ W1.cell? ⟨bA, i, none⟩ = some (.pointer (some ⟨mi, 0, none⟩)) ∧ W1.cell? ⟨gx, 6, none⟩ = some (.int .u8 (x.k : Int)) ∧ W1.cell? ⟨gx, 7, none⟩ = some (.int .i64 x.I) ∧ W1.cell? ⟨gx, 8, none⟩ = some (.int .i64 x.Z) ∧ W1.cell? ⟨gx, 9, none⟩ = some (.slice x.a x.n x.c)) := Lib.hid ⟨hdr, hri, e6, e7, e8, e9⟩
              have HSTEP : Hid (Calls Try.prog 13 #[.pointer (some ⟨gi, 0, none⟩), .pointer (some ⟨mi, 0, none⟩), .pointer (some ⟨gq, 0, none⟩), .agg #[.int .u8 (x.k : Int), .int .i64 x.I, .int .i64 x.Z, .slice x.a x.n x.c]] W1.drew fun e W' => e = .returned (.bool true) ∧ ∃ (s' : Pw) (pp pn cv : Nat) (av : Option Addr) (y : Tst) (K : List Nat), Hid ((W'.cell? ⟨gl, 0, none⟩ = some (.pointer (some ⟨gi, 0, none⟩)) ∧ W'.cell? ⟨bA, i, none⟩ = some (.pointer (some ⟨mi, 0, none⟩)) ∧ W'.cell? ⟨gx, 6, none⟩ = some (.int .u8 (x.k : Int)) ∧ W'.cell? ⟨gx, 7, none⟩ = some (.int .i64 x.I) ∧ W'.cell? ⟨gx, 8, none⟩ = some (.int .i64 x.Z) ∧ W'.cell? ⟨gx, 9, none⟩ = some (.slice x.a x.n x.c) ∧ W'.cell? ⟨mi, 5, none⟩ = some (.int .i64 (pp : Int)) ∧ W'.cell? ⟨mi, 4, none⟩ = some (.slice av pn cv)) ∧ Tap W' gi gp s' y K ∧ y.pos = pp ∧ y.P.length = pn ∧ Inv w1 W' gl gp gq s' (some i) nt (.slice (some ⟨bA, 0, none⟩) nt cA) (j + 1))) := by
                rw [hgi, hmi]
                obtain ⟨b1, b2, b3⟩ := hbd2 i hint
                have hA1 := hA2.later (Below.refl W1.heap.size W1).drew
                refine Lib.hid ((hA1.step i hint j hwi2 (by omega) (by omega) (by omega) (by omega) x.k x.I x.Z x.a x.n x.c x.b HX1.out.2.I (HX1.out.1.rd.later (Below.refl _ _).drew) ?_ hnb).mono ?_)
                · intro h0 b o e
                  obtain ⟨b', o', e', hc'⟩ := HX1.out.2.rd.2.2 h0
                  rw [e] at e'
                  injection e' with e'
                  injection e' with e1 e2
                  have h5 := World.block_lt_of_cell? w _ (hc' 0 h0)
                  have h6 := HB1.out.size
                  simp only at h5
                  omega
                · rintro e W' ⟨rfl, s', y, F', G', H', J', hA', hw', hlk, hsv⟩
                  have hM' := hA'.mod.taps i hint
                  rw [upd_same, upd_same] at hM'
                  have hT' := hA'.lib.taps i hint
                  rw [upd_same, upd_same] at hT'
                  obtain ⟨vm, Xm, aWm, aRm, nWm, cWm, nRm, cRm, hmt⟩ := hM'
                  obtain ⟨av, cv, hvm, _, _⟩ := hmt.shape
                  have m5 := hmt.cells.2.2.2.2
                  have m4 := hmt.cells.2.2.2.1
                  rw [hvm] at m4
                  obtain ⟨a', c', ha', _, hcl'⟩ := hA'.mod.shape
                  obtain ⟨bB, hbB, hrow'⟩ := hcl' (by omega)
                  injection ha' with ha1 _ ha2
                  rw [hbB] at ha1
                  injection ha1 with ha1
                  injection ha1 with ha1
                  subst ha1
                  have hgx' : W'.heap[gx]? = some (clObj x) := (hsv.block gx (lt_of_block HOB.out) hgo).trans HOB.out
                  refine ⟨rfl, s', y.pos, y.P.length, cv, av, y, F', Lib.hid ⟨⟨hA'.lib.cells.1, hrow' i hint, cl_cells hgx' 6 _ rfl, cl_cells hgx' 7 _ rfl, cl_cells hgx' 8 _ rfl, cl_cells hgx' 9 _ rfl, m5, m4⟩, hT', rfl, rfl, g2, m2, _, _, _, v2, _, _, hA', ?_, hw'⟩⟩
                  intro i' hi'
                  by_cases e : i' = i
                  · subst e
                    rw [upd_same, hlk.1, hlk.2.2.1, hlk.2.2.2]
                    exact hbd2 i' hi'
                  · rw [upd_other _ _ e]
                    exact hbd2 i' hi'
              clear hA0 hA2 hbd2 hwi2 hrow hgo hgi hmi hdn HI HI1 e0 e1 e2 e3 e4 e5 e6 e7 e8 e9 hdr hri
              go_upto_region 18 with fail
              refine wp_region_held_drew (S := fun W => W.cell? ⟨gl, 0, none⟩ = some (.pointer (some ⟨gi, 0, none⟩)) ∧ W.cell? ⟨bA, i, none⟩ = some (.pointer (some ⟨mi, 0, none⟩)) ∧ W.cell? ⟨gx, 6, none⟩ = some (.int .u8 (x.k : Int)) ∧ W.cell? ⟨gx, 7, none⟩ = some (.int .i64 x.I) ∧ W.cell? ⟨gx, 8, none⟩ = some (.int .i64 x.Z) ∧ W.cell? ⟨gx, 9, none⟩ = some (.slice x.a x.n x.c)) (by kernel_rfl) HS1.out (fun _ => ?_)
              refine wpAnyH_take (i := 0) (v := ?v0) rfl (by kernel_rfl) (by kernel_rfl) (by kernel_rfl) (fun _ _ _ h => h) (Or.inl ⟨by rfl, ?h0⟩) HS1.out ?r0
              case h0 => (intro W hW; (try dsimp only at hW); go_simp; try with_reducible rfl)
              simp only [Act.put, List.getElem_toArray, List.getElem_cons_succ, List.getElem_cons_zero, List.setIfInBounds_toArray, List.set_cons_zero, List.set_cons_succ]
              refine wpAnyH_take (i := 1) (v := ?v1) rfl (by kernel_rfl) (by kernel_rfl) (by kernel_rfl) (fun _ _ _ h => h) (Or.inl ⟨by rfl, ?h1⟩) HS1.out ?r1
              case h1 => (intro W hW; (try dsimp only at hW); go_simp; try with_reducible rfl)
              simp only [Act.put, List.getElem_toArray, List.getElem_cons_succ, List.getElem_cons_zero, List.setIfInBounds_toArray, List.set_cons_zero, List.set_cons_succ]
              refine wpAnyH_take (i := 2) (v := ?v2) rfl (by kernel_rfl) (by kernel_rfl) (by kernel_rfl) (fun _ _ _ h => h) (Or.inl ⟨by rfl, ?h2⟩) HS1.out ?r2
              case h2 => (intro W hW; (try dsimp only at hW); go_simp; try with_reducible rfl)
              simp only [Act.put, List.getElem_toArray, List.getElem_cons_succ, List.getElem_cons_zero, List.setIfInBounds_toArray, List.set_cons_zero, List.set_cons_succ]
              refine wpAnyH_take (i := 3) (v := ?v3) rfl (by kernel_rfl) (by kernel_rfl) (by kernel_rfl) (fun _ _ _ h => h) (Or.inl ⟨by rfl, ?h3⟩) HS1.out ?r3
              case h3 => (intro W hW; (try dsimp only at hW); go_simp; try with_reducible rfl)
              simp only [Act.put, List.getElem_toArray, List.getElem_cons_succ, List.getElem_cons_zero, List.setIfInBounds_toArray, List.set_cons_zero, List.set_cons_succ]
              refine wpAnyH_take (i := 4) (v := ?v4) rfl (by kernel_rfl) (by kernel_rfl) (by kernel_rfl) (fun _ _ _ h => h) (Or.inl ⟨by rfl, ?h4⟩) HS1.out ?r4
              case h4 => (intro W hW; (try dsimp only at hW); go_simp; try with_reducible rfl)
              simp only [Act.put, List.getElem_toArray, List.getElem_cons_succ, List.getElem_cons_zero, List.setIfInBounds_toArray, List.set_cons_zero, List.set_cons_succ]
              refine wpAnyH_take (i := 5) (v := ?v5) rfl (by kernel_rfl) (by kernel_rfl) (by kernel_rfl) (fun _ _ _ h => h) (Or.inl ⟨by rfl, ?h5⟩) HS1.out ?r5
              case h5 => (intro W hW; (try dsimp only at hW); go_simp; try with_reducible rfl)
              simp only [Act.put, List.getElem_toArray, List.getElem_cons_succ, List.getElem_cons_zero, List.setIfInBounds_toArray, List.set_cons_zero, List.set_cons_succ]
              refine wpAnyH_take (i := 6) (v := ?v6) rfl (by kernel_rfl) (by kernel_rfl) (by kernel_rfl) (fun _ _ _ h => h) (Or.inl ⟨by rfl, ?h6⟩) HS1.out ?r6
              case h6 => (intro W hW; (try dsimp only at hW); go_simp; try with_reducible rfl)
              simp only [Act.put, List.getElem_toArray, List.getElem_cons_succ, List.getElem_cons_zero, List.setIfInBounds_toArray, List.set_cons_zero, List.set_cons_succ]
              refine wpAnyH_take (i := 7) (v := ?v7) rfl (by kernel_rfl) (by kernel_rfl) (by kernel_rfl) (fun _ _ _ h => h) (Or.inl ⟨by rfl, ?h7⟩) HS1.out ?r7
              case h7 => (intro W hW; (try dsimp only at hW); go_simp; try with_reducible rfl)
              simp only [Act.put, List.getElem_toArray, List.getElem_cons_succ, List.getElem_cons_zero, List.setIfInBounds_toArray, List.set_cons_zero, List.set_cons_succ]
              refine wpAnyH_take (i := 8) (v := ?v8) rfl (by kernel_rfl) (by kernel_rfl) (by kernel_rfl) (fun _ _ _ h => h) (Or.inl ⟨by rfl, ?h8⟩) HS1.out ?r8
              case h8 => (intro W hW; (try dsimp only at hW); go_simp; try with_reducible rfl)
              simp only [Act.put, List.getElem_toArray, List.getElem_cons_succ, List.getElem_cons_zero, List.setIfInBounds_toArray, List.set_cons_zero, List.set_cons_succ]
              refine wpAnyH_take (i := 9) (v := ?v9) rfl (by kernel_rfl) (by kernel_rfl) (by kernel_rfl) (fun _ _ _ h => h) (Or.inl ⟨by rfl, ?h9⟩) HS1.out ?r9
              case h9 => (intro W hW; (try dsimp only at hW); go_simp; try with_reducible rfl)
              simp only [Act.put, List.getElem_toArray, List.getElem_cons_succ, List.getElem_cons_zero, List.setIfInBounds_toArray, List.set_cons_zero, List.set_cons_succ]
              refine wpAnyH_take (i := 10) (v := ?v10) rfl (by kernel_rfl) (by kernel_rfl) (by kernel_rfl) (fun _ _ _ h => h) (Or.inl ⟨by rfl, ?h10⟩) HS1.out ?r10
              case h10 => (intro W hW; (try dsimp only at hW); go_simp; try with_reducible rfl)
              simp only [Act.put, List.getElem_toArray, List.getElem_cons_succ, List.getElem_cons_zero, List.setIfInBounds_toArray, List.set_cons_zero, List.set_cons_succ]
              refine wpAnyH_ready (rs := [11]) (by kernel_rfl) (by simp) ?_
              refine AllReadyH.cons rfl (fun K hK => ?_) AllReadyH.nil
              go_simp
              refine HSTEP.out.mono ?_
              rintro e W2 ⟨rfl, s2, pp, pn, cv, av, y2, K2, H2⟩
              refine hK.out _ _ ⟨H2.out.1.1, H2.out.1.2.1, H2.out.1.2.2.1, H2.out.1.2.2.2.1, H2.out.1.2.2.2.2.1, H2.out.1.2.2.2.2.2.1⟩ (fun _ => ?_)
              clear hK K
              have HS2 : Hid (W2.cell? ⟨gl, 0, none⟩ = some (.pointer (some ⟨gi, 0, none⟩)) ∧ W2.cell? ⟨bA, i, none⟩ = some (.pointer (some ⟨mi, 0, none⟩)) ∧ W2.cell? ⟨gx, 6, none⟩ = some (.int .u8 (x.k : Int)) ∧ W2.cell? ⟨gx, 7, none⟩ = some (.int .i64 x.I) ∧ W2.cell? ⟨gx, 8, none⟩ = some (.int .i64 x.Z) ∧ W2.cell? ⟨gx, 9, none⟩ = some (.slice x.a x.n x.c) ∧ W2.cell? ⟨mi, 5, none⟩ = some (.int .i64 (pp : Int)) ∧ W2.cell? ⟨mi, 4, none⟩ = some (.slice av pn cv)) := Lib.hid H2.out.1
              have HPL : Hid (Calls Try.prog 12 #[.pointer (some ⟨gi, 0, none⟩)] W2 fun e w' => e = .returned (.int .i64 (pp : Int)) ∧ w' = W2) := Lib.hid (by rw [← H2.out.2.2.1]; exact place_any W2 gi gp s2 y2 K2 H2.out.2.1)
              have HLE : Hid (Calls Try.prog 14 #[.pointer (some ⟨gi, 0, none⟩)] W2 fun e w' => e = .returned (.int .i64 (pn : Int)) ∧ w' = W2) := Lib.hid (by rw [← H2.out.2.2.2.1]; exact tlen_any W2 gi gp s2 y2 K2 H2.out.2.1)
              have HNX : Hid (Inv w1 W2 gl gp gq s2 (some i) nt (.slice (some ⟨bA, 0, none⟩) nt cA) (j + 1)) := Lib.hid H2.out.2.2.2.2
              clear H2 HSTEP HS1
              refine wpAnyH_strong (S1 := fun W => W.cell? ⟨gl, 0, none⟩ = some (.pointer (some ⟨gi, 0, none⟩)) ∧ W.cell? ⟨bA, i, none⟩ = some (.pointer (some ⟨mi, 0, none⟩)) ∧ W.cell? ⟨gx, 6, none⟩ = some (.int .u8 (x.k : Int)) ∧ W.cell? ⟨gx, 7, none⟩ = some (.int .i64 x.I) ∧ W.cell? ⟨gx, 8, none⟩ = some (.int .i64 x.Z) ∧ W.cell? ⟨gx, 9, none⟩ = some (.slice x.a x.n x.c) ∧ W.cell? ⟨mi, 5, none⟩ = some (.int .i64 (pp : Int)) ∧ W.cell? ⟨mi, 4, none⟩ = some (.slice av pn cv)) (fun _ h => ⟨h.1, h.2.1, h.2.2.1, h.2.2.2.1, h.2.2.2.2.1, h.2.2.2.2.2.1⟩) ?_
              refine wpAnyH_take (i := 12) (v := ?v12) rfl (by kernel_rfl) (by kernel_rfl) (by kernel_rfl) (fun _ _ _ h => h) (Or.inl ⟨by rfl, ?h12⟩) HS2.out ?r12
              case h12 => (intro W hW; (try dsimp only at hW); go_simp; try with_reducible rfl)
              simp only [Act.put, List.getElem_toArray, List.getElem_cons_succ, List.getElem_cons_zero, List.setIfInBounds_toArray, List.set_cons_zero, List.set_cons_succ]
              refine wpAnyH_take (i := 13) (v := ?v13) rfl (by kernel_rfl) (by kernel_rfl) (by kernel_rfl) (fun _ _ _ h => h) (Or.inl ⟨by rfl, ?h13⟩) HS2.out ?r13
              case h13 => (intro W hW; (try dsimp only at hW); go_simp; try with_reducible rfl)
              simp only [Act.put, List.getElem_toArray, List.getElem_cons_succ, List.getElem_cons_zero, List.setIfInBounds_toArray, List.set_cons_zero, List.set_cons_succ]
              refine wpAnyH_take (i := 14) (v := ?v14) rfl (by kernel_rfl) (by kernel_rfl) (by kernel_rfl) (fun _ _ _ h => h) (Or.inl ⟨by rfl, ?h14⟩) HS2.out ?r14
              case h14 => (intro W hW; (try dsimp only at hW); go_simp; try with_reducible rfl)
              simp only [Act.put, List.getElem_toArray, List.getElem_cons_succ, List.getElem_cons_zero, List.setIfInBounds_toArray, List.set_cons_zero, List.set_cons_succ]
              refine wpAnyH_take (i := 15) (v := ?v15) rfl (by kernel_rfl) (by kernel_rfl) (by kernel_rfl) (fun _ _ _ h => h) (Or.inl ⟨by rfl, ?h15⟩) HS2.out ?r15
              case h15 => (intro W hW; (try dsimp only at hW); go_simp; try with_reducible rfl)
              simp only [Act.put, List.getElem_toArray, List.getElem_cons_succ, List.getElem_cons_zero, List.setIfInBounds_toArray, List.set_cons_zero, List.set_cons_succ]
              refine wpAnyH_take (i := 16) (v := ?v16) rfl (by kernel_rfl) (by kernel_rfl) (by kernel_rfl) (fun _ _ _ h => h) (Or.inl ⟨by rfl, ?h16⟩) HS2.out ?r16
              case h16 => (intro W hW; (try dsimp only at hW); go_simp; try with_reducible rfl)
              simp only [Act.put, List.getElem_toArray, List.getElem_cons_succ, List.getElem_cons_zero, List.setIfInBounds_toArray, List.set_cons_zero, List.set_cons_succ]
              refine wpAnyH_take (i := 17) (v := ?v17) rfl (by kernel_rfl) (by kernel_rfl) (by kernel_rfl) (fun _ _ _ h => h) (Or.inl ⟨by rfl, ?h17⟩) HS2.out ?r17
              case h17 => (intro W hW; (try dsimp only at hW); go_simp; try with_reducible rfl)
              simp only [Act.put, List.getElem_toArray, List.getElem_cons_succ, List.getElem_cons_zero, List.setIfInBounds_toArray, List.set_cons_zero, List.set_cons_succ]
              refine wpAnyH_take (i := 19) (v := ?v19) rfl (by kernel_rfl) (by kernel_rfl) (by kernel_rfl) (fun _ _ _ h => h) (Or.inl ⟨by rfl, ?h19⟩) HS2.out ?r19
              case h19 => (intro W hW; (try dsimp only at hW); go_simp; try with_reducible rfl)
              simp only [Act.put, List.getElem_toArray, List.getElem_cons_succ, List.getElem_cons_zero, List.setIfInBounds_toArray, List.set_cons_zero, List.set_cons_succ]
              refine wpAnyH_take (i := 20) (v := ?v20) rfl (by kernel_rfl) (by kernel_rfl) (by kernel_rfl) (fun _ _ _ h => h) (Or.inl ⟨by rfl, ?h20⟩) HS2.out ?r20
              case h20 => (intro W hW; (try dsimp only at hW); go_simp; try with_reducible rfl)
              simp only [Act.put, List.getElem_toArray, List.getElem_cons_succ, List.getElem_cons_zero, List.setIfInBounds_toArray, List.set_cons_zero, List.set_cons_succ]
              refine wpAnyH_take (i := 21) (v := ?v21) rfl (by kernel_rfl) (by kernel_rfl) (by kernel_rfl) (fun _ _ _ h => h) (Or.inl ⟨by rfl, ?h21⟩) HS2.out ?r21
              case h21 => (intro W hW; (try dsimp only at hW); go_simp; try with_reducible rfl)
              simp only [Act.put, List.getElem_toArray, List.getElem_cons_succ, List.getElem_cons_zero, List.setIfInBounds_toArray, List.set_cons_zero, List.set_cons_succ]
              refine wpAnyH_take (i := 22) (v := ?v22) rfl (by kernel_rfl) (by kernel_rfl) (by kernel_rfl) (fun _ _ _ h => h) (Or.inl ⟨by rfl, ?h22⟩) HS2.out ?r22
              case h22 => (intro W hW; (try dsimp only at hW); go_simp; try with_reducible rfl)
              simp only [Act.put, List.getElem_toArray, List.getElem_cons_succ, List.getElem_cons_zero, List.setIfInBounds_toArray, List.set_cons_zero, List.set_cons_succ]
              refine wpAnyH_take (i := 23) (v := ?v23) rfl (by kernel_rfl) (by kernel_rfl) (by kernel_rfl) (fun _ _ _ h => h) (Or.inl ⟨by rfl, ?h23⟩) HS2.out ?r23
              case h23 => (intro W hW; (try dsimp only at hW); go_simp; try with_reducible rfl)
              simp only [Act.put, List.getElem_toArray, List.getElem_cons_succ, List.getElem_cons_zero, List.setIfInBounds_toArray, List.set_cons_zero, List.set_cons_succ]
              refine wpAnyH_take (i := 24) (v := ?v24) rfl (by kernel_rfl) (by kernel_rfl) (by kernel_rfl) (fun _ _ _ h => h) (Or.inl ⟨by rfl, ?h24⟩) HS2.out ?r24
              case h24 => (intro W hW; (try dsimp only at hW); go_simp; try with_reducible rfl)
              simp only [Act.put, List.getElem_toArray, List.getElem_cons_succ, List.getElem_cons_zero, List.setIfInBounds_toArray, List.set_cons_zero, List.set_cons_succ]
              refine wpAnyH_take (i := 25) (v := ?v25) rfl (by kernel_rfl) (by kernel_rfl) (by kernel_rfl) (fun _ _ _ h => h) (Or.inl ⟨by rfl, ?h25⟩) HS2.out ?r25
              case h25 => (intro W hW; (try dsimp only at hW); go_simp; try with_reducible rfl)
              simp only [Act.put, List.getElem_toArray, List.getElem_cons_succ, List.getElem_cons_zero, List.setIfInBounds_toArray, List.set_cons_zero, List.set_cons_succ]
              refine wpAnyH_ready (rs := [18]) (by kernel_rfl) (by simp) ?_
              refine AllReadyH.cons rfl (fun K hK => ?_) AllReadyH.nil
              go_simp
              refine HPL.out.mono ?_
              rintro e _ ⟨rfl, rfl⟩
              refine hK.out _ _ HS2.out (fun _ => ?_)
              clear hK K
              refine wpAnyH_take (i := 26) (v := ?v26) rfl (by kernel_rfl) (by kernel_rfl) (by kernel_rfl) (fun _ _ _ h => h) (Or.inl ⟨by rfl, ?h26⟩) HS2.out ?r26
              case h26 => (intro W hW; (try dsimp only at hW); go_simp; try with_reducible rfl)
              simp only [Act.put, List.getElem_toArray, List.getElem_cons_succ, List.getElem_cons_zero, List.setIfInBounds_toArray, List.set_cons_zero, List.set_cons_succ]
              refine wpAnyH_take (i := 27) (v := ?v27) rfl (by kernel_rfl) (by kernel_rfl) (by kernel_rfl) (fun _ _ _ h => h) (Or.inl ⟨by rfl, ?h27⟩) HS2.out ?r27
              case h27 => (intro W hW; (try dsimp only at hW); go_simp; try with_reducible rfl)
              simp only [Act.put, List.getElem_toArray, List.getElem_cons_succ, List.getElem_cons_zero, List.setIfInBounds_toArray, List.set_cons_zero, List.set_cons_succ]
              refine wpAnyH_take (i := 28) (v := ?v28) rfl (by kernel_rfl) (by kernel_rfl) (by kernel_rfl) (fun _ _ _ h => h) (Or.inl ⟨by rfl, ?h28⟩) HS2.out ?r28
              case h28 => (intro W hW; (try dsimp only at hW); go_simp; try with_reducible rfl)
              simp only [Act.put, List.getElem_toArray, List.getElem_cons_succ, List.getElem_cons_zero, List.setIfInBounds_toArray, List.set_cons_zero, List.set_cons_succ]
              refine wpAnyH_take (i := 29) (v := ?v29) rfl (by kernel_rfl) (by kernel_rfl) (by kernel_rfl) (fun _ _ _ h => h) (Or.inl ⟨by rfl, ?h29⟩) HS2.out ?r29
              case h29 => (intro W hW; (try dsimp only at hW); go_simp; try with_reducible rfl)
              simp only [Act.put, List.getElem_toArray, List.getElem_cons_succ, List.getElem_cons_zero, List.setIfInBounds_toArray, List.set_cons_zero, List.set_cons_succ]
              refine wpAnyH_take (i := 30) (v := ?v30) rfl (by kernel_rfl) (by kernel_rfl) (by kernel_rfl) (fun _ _ _ h => h) (Or.inl ⟨by rfl, ?h30⟩) HS2.out ?r30
              case h30 => (intro W hW; (try dsimp only at hW); go_simp; try with_reducible rfl)
              simp only [Act.put, List.getElem_toArray, List.getElem_cons_succ, List.getElem_cons_zero, List.setIfInBounds_toArray, List.set_cons_zero, List.set_cons_succ]
              refine wpAnyH_take (i := 31) (v := ?v31) rfl (by kernel_rfl) (by kernel_rfl) (by kernel_rfl) (fun _ _ _ h => h) (Or.inl ⟨by rfl, ?h31⟩) HS2.out ?r31
              case h31 => (intro W hW; (try dsimp only at hW); go_simp; try with_reducible rfl)
              simp only [Act.put, List.getElem_toArray, List.getElem_cons_succ, List.getElem_cons_zero, List.setIfInBounds_toArray, List.set_cons_zero, List.set_cons_succ]
              refine wpAnyH_take (i := 32) (v := ?v32) rfl (by kernel_rfl) (by kernel_rfl) (by kernel_rfl) (fun _ _ _ h => h) (Or.inl ⟨by rfl, ?h32⟩) HS2.out ?r32
              case h32 => (intro W hW; (try dsimp only at hW); go_simp; try with_reducible rfl)
              simp only [Act.put, List.getElem_toArray, List.getElem_cons_succ, List.getElem_cons_zero, List.setIfInBounds_toArray, List.set_cons_zero, List.set_cons_succ]
              refine wpAnyH_take (i := 34) (v := ?v34) rfl (by kernel_rfl) (by kernel_rfl) (by kernel_rfl) (fun _ _ _ h => h) (Or.inl ⟨by rfl, ?h34⟩) HS2.out ?r34
              case h34 => (intro W hW; (try dsimp only at hW); go_simp; try with_reducible rfl)
              simp only [Act.put, List.getElem_toArray, List.getElem_cons_succ, List.getElem_cons_zero, List.setIfInBounds_toArray, List.set_cons_zero, List.set_cons_succ]
              refine wpAnyH_take (i := 35) (v := ?v35) rfl (by kernel_rfl) (by kernel_rfl) (by kernel_rfl) (fun _ _ _ h => h) (Or.inl ⟨by rfl, ?h35⟩) HS2.out ?r35
              case h35 => (intro W hW; (try dsimp only at hW); go_simp; try with_reducible rfl)
              simp only [Act.put, List.getElem_toArray, List.getElem_cons_succ, List.getElem_cons_zero, List.setIfInBounds_toArray, List.set_cons_zero, List.set_cons_succ]
              refine wpAnyH_take (i := 36) (v := ?v36) rfl (by kernel_rfl) (by kernel_rfl) (by kernel_rfl) (fun _ _ _ h => h) (Or.inl ⟨by rfl, ?h36⟩) HS2.out ?r36
              case h36 => (intro W hW; (try dsimp only at hW); go_simp; try with_reducible rfl)
              simp only [Act.put, List.getElem_toArray, List.getElem_cons_succ, List.getElem_cons_zero, List.setIfInBounds_toArray, List.set_cons_zero, List.set_cons_succ]
              refine wpAnyH_take (i := 37) (v := ?v37) rfl (by kernel_rfl) (by kernel_rfl) (by kernel_rfl) (fun _ _ _ h => h) (Or.inl ⟨by rfl, ?h37⟩) HS2.out ?r37
              case h37 => (intro W hW; (try dsimp only at hW); go_simp; try with_reducible rfl)
              simp only [Act.put, List.getElem_toArray, List.getElem_cons_succ, List.getElem_cons_zero, List.setIfInBounds_toArray, List.set_cons_zero, List.set_cons_succ]
              refine wpAnyH_take (i := 38) (v := ?v38) rfl (by kernel_rfl) (by kernel_rfl) (by kernel_rfl) (fun _ _ _ h => h) (Or.inl ⟨by rfl, ?h38⟩) HS2.out ?r38
              case h38 => (intro W hW; (try dsimp only at hW); go_simp; try with_reducible rfl)
              simp only [Act.put, List.getElem_toArray, List.getElem_cons_succ, List.getElem_cons_zero, List.setIfInBounds_toArray, List.set_cons_zero, List.set_cons_succ]
              refine wpAnyH_take (i := 39) (v := ?v39) rfl (by kernel_rfl) (by kernel_rfl) (by kernel_rfl) (fun _ _ _ h => h) (Or.inl ⟨by rfl, ?h39⟩) HS2.out ?r39
              case h39 => (intro W hW; (try dsimp only at hW); go_simp; try with_reducible rfl)
              simp only [Act.put, List.getElem_toArray, List.getElem_cons_succ, List.getElem_cons_zero, List.setIfInBounds_toArray, List.set_cons_zero, List.set_cons_succ]
              refine wpAnyH_take (i := 40) (v := ?v40) rfl (by kernel_rfl) (by kernel_rfl) (by kernel_rfl) (fun _ _ _ h => h) (Or.inl ⟨by rfl, ?h40⟩) HS2.out ?r40
              case h40 => (intro W hW; (try dsimp only at hW); go_simp; try with_reducible rfl)
              simp only [Act.put, List.getElem_toArray, List.getElem_cons_succ, List.getElem_cons_zero, List.setIfInBounds_toArray, List.set_cons_zero, List.set_cons_succ]
              refine wpAnyH_take (i := 41) (v := ?v41) rfl (by kernel_rfl) (by kernel_rfl) (by kernel_rfl) (fun _ _ _ h => h) (Or.inl ⟨by rfl, ?h41⟩) HS2.out ?r41
              case h41 => (intro W hW; (try dsimp only at hW); go_simp; try with_reducible rfl)
              simp only [Act.put, List.getElem_toArray, List.getElem_cons_succ, List.getElem_cons_zero, List.setIfInBounds_toArray, List.set_cons_zero, List.set_cons_succ]
              refine wpAnyH_ready (rs := [33]) (by kernel_rfl) (by simp) ?_
              refine AllReadyH.cons rfl (fun K hK => ?_) AllReadyH.nil
              go_simp
              refine HLE.out.mono ?_
              rintro e _ ⟨rfl, rfl⟩
              refine hK.out _ _ HS2.out (fun _ => ?_)
              clear hK K
              refine wpAnyH_take (i := 42) (v := ?v42) rfl (by kernel_rfl) (by kernel_rfl) (by kernel_rfl) (fun _ _ _ h => h) (Or.inl ⟨by rfl, ?h42⟩) HS2.out ?r42
              case h42 => (intro W hW; (try dsimp only at hW); go_simp; try with_reducible rfl)
              simp only [Act.put, List.getElem_toArray, List.getElem_cons_succ, List.getElem_cons_zero, List.setIfInBounds_toArray, List.set_cons_zero, List.set_cons_succ]
              refine wpAnyH_take (i := 43) (v := ?v43) rfl (by kernel_rfl) (by kernel_rfl) (by kernel_rfl) (fun _ _ _ h => h) (Or.inl ⟨by rfl, ?h43⟩) HS2.out ?r43
              case h43 => (intro W hW; (try dsimp only at hW); go_simp; try with_reducible rfl)
              simp only [Act.put, List.getElem_toArray, List.getElem_cons_succ, List.getElem_cons_zero, List.setIfInBounds_toArray, List.set_cons_zero, List.set_cons_succ]
              refine wpAnyH_done (by kernel_rfl) ?_ _
              go_wp2_with fail
              go_meet
              exact ⟨s2, some i, nt, _, cA, rfl, rfl, HNX⟩
      case rest =>
        as_aux_lemma =>
          obtain ⟨s2, d2, nt2, A2, cA2, rfl, rfl, H2⟩ := hcut
          clear e0 e1 e2 e3 e4 e5 e6 e7 e8 e9 HI HI1 hcase
          obtain ⟨g2, m2, t2, F2, G2, v2, HH2, J2, hA2, hbd2, hwi2⟩ := H2.out
          have HSL : Hid (Calls Try.prog 15 #[.pointer (some ⟨gl, 0, none⟩)] wc fun e w' => e = .returned (.tuple #[.int .i64 ((d2.getD 0 : Nat) : Int), .bool d2.isSome]) ∧ ∃ m, w' = wc.drewN m) := Lib.hid (slot_any hA2.lib)
          have HCN : Hid (∀ m, Calls Try.prog 16 #[.pointer (some ⟨gl, 0, none⟩)] (wc.drewN m) fun e w' => e = .returned (.int .i64 (nt2 : Int)) ∧ w' = wc.drewN m) := Lib.hid fun m => lcount_any (hA2.lib.drewN m)
          have HDR : Hid (∀ m, (wc.drewN m).cell? ⟨gl, 0, none⟩ = some (.pointer (drvA g2 d2))) := Lib.hid fun m => (hA2.lib.drewN m).cells.1
          clear hA2 hbd2 hwi2
          go_wp2_with fail
          refine HSL.out.mono ?_
          rintro e _ ⟨rfl, mm, rfl⟩
          clear HSL
          cases d2 with
          | none =>
            have hsi : slotI none = -1 := rfl
            have hdr := HDR.out mm
            have hdn : drvA g2 none = none := rfl
            rw [hdn] at hdr
            rw [hsi]
            simp only [Option.getD_none, Option.isSome_none]
            go_wp2_with fail
            refine (HCN.out mm).mono ?_
            rintro e _ ⟨rfl, rfl⟩
            go_wp2
            go_roundg (n - (j + 1))
            case measure => have := HGK.out; omega
            case rel => exact ⟨j + 1, s2, none, nt2, A2, cA2, rfl, by omega, by go_num, rfl, rfl, Lib.hid (H2.out.drewN mm)⟩
          | some i =>
            have hsi : slotI (some i) = (i : Int) := rfl
            rw [hsi]
            simp only [Option.getD_some, Option.isSome_some]
            have hd0 : decide ((0 : Int) ≤ (i : Int)) = true := by simp
            go_wp2_with fail
            refine (HCN.out mm).mono ?_
            rintro e _ ⟨rfl, rfl⟩
            go_wp2
            go_roundg (n - (j + 1))
            case measure => have := HGK.out; omega
            case rel => exact ⟨j + 1, s2, some i, nt2, A2, cA2, rfl, by omega, by go_num, rfl, rfl, Lib.hid (H2.out.drewN mm)⟩
    · have hjn : j = n := by omega
      subst hjn
      go_wp2
      go_ret
      exact ⟨rfl, HBR.out⟩

end Go.Proofs.Ytcofjhiienifmaa
