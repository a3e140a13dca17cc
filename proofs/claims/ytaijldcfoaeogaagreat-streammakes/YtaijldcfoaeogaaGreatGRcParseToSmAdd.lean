/- What bytes come to: the contracts of number, parseData, parse, over any world. -/
import Derived.Test.YtaijldcfoaeogaaGreatGRcCandToVRdrNe
import Derived.Test.YtaijldcfoaeogaaGreatGRcMathToRcBytes
import Derived.BigRegion
import Derived.Handy
import Derived.BigQuiet
import Derived.Deep.DeepCutAuto
import Derived.Deep.CutBlock
import Derived.Deep.RegionHeld3
import Derived.Test.YtaijldcfoaeogaaGreatGMemToRcEq
import Derived.Test.YtaijldcfoaeogaaGreatGSmRecToDNum
import Derived.Test.YtaijldcfoaeogaaGreatDOf
namespace Go.Proofs.YtaijldcfoaeogaaGreat
open Go.RowKit
set_option maxRecDepth 100000
set_option linter.unusedSimpArgs false

set_option maxHeartbeats 400000 in
theorem rnum_any (w : World) (g E : Nat) (l : List Nat) (B : Nat) (h : RdrNe w 128 g E l B) :
    Calls Tryz.prog 92 #[.pointer (some ⟨g, 0, none⟩)] w fun e w' => e = .returned (.int .i64 ((rNum E l 1099511627776).1 : Int)) ∧ RdrNe w' 128 g (rNum E l 1099511627776).2.1 (rNum E l 1099511627776).2.2 B ∧ w.grownBy w' (some g) := by
  have HN := numberNe_any w g E l 1099511627776 B h
  have hle := rNum_le E l 1099511627776
  obtain ⟨X, hX⟩ : ∃ X, X = rNum E l 1099511627776 := ⟨_, rfl⟩
  rw [← hX] at HN hle ⊢
  obtain ⟨k, E1, l1⟩ := X
  simp only at HN hle ⊢
  have HN2 := Lib.hid HN
  clear hX h HN
  have hk : IntKind.i64.wrap (k : Int) = (k : Int) := by rw [IntKind.wrap_i64] <;> omega
  go_enter Tryz.func92, Tryz.ntmps92
  go_wp2_with fail
  refine HN2.out.mono ?_
  rintro e w1 ⟨rfl, hr, hg⟩
  have HR := Lib.hid hr
  have HG := Lib.hid hg
  clear hr hg
  go_wp2
  go_ret
  exact ⟨rfl, HR.out, HG.out⟩

set_option maxHeartbeats 2000000 in
set_option maxRecDepth 100000 in
theorem parse_empty (a : Option Addr) (cap : Nat) (w : World) :
    Calls Tryz.prog 73 #[.slice a 0 cap] w fun e w' => e = .returned (.tuple #[rcV (rec0 0) none 0 0, .bool false]) ∧ Below w.heap.size w w' := by
  go_enter Tryz.func73, Tryz.ntmps73
  go_wp2
  go_returns
  exact ⟨rfl, Below.alloc0 _ _⟩

theorem set_putted {w : World} {q i : Nat} {o : Obj} {cs : Array Value} {T : TypeId} {fr : Nat × Nat} {u : Value} (h : w.heap[q]? = some o) : (put w q (.cells cs T fr)).setCell ⟨q, i, none⟩ u = put w q (.cells (cs.setIfInBounds i u) T fr) := by
  rw [set_put u (put_same h), put_put]

/-- A record's cells laid one by one. -/
theorem rec_put {w : World} {q : Nat} {u0 u1 u2 u3 u4 u5 u6 u7 u8 v0 v1 v2 v3 v4 v5 v6 v7 v8 : Value} {T : TypeId} (h : w.heap[q]? = some (.cells #[u0, u1, u2, u3, u4, u5, u6, u7, u8] T (0, 0))) :
    (((((((((w.setCell ⟨q, 0, none⟩ v0).setCell ⟨q, 1, none⟩ v1).setCell ⟨q, 2, none⟩ v2).setCell ⟨q, 3, none⟩ v3).setCell ⟨q, 4, none⟩ v4).setCell ⟨q, 5, none⟩ v5).setCell ⟨q, 6, none⟩ v6).setCell ⟨q, 7, none⟩ v7).setCell ⟨q, 8, none⟩ v8)
      = put w q (.cells #[v0, v1, v2, v3, v4, v5, v6, v7, v8] T (0, 0)) := by
  rw [set_put _ h, set_putted h, set_putted h, set_putted h, set_putted h, set_putted h, set_putted h, set_putted h, set_putted h]
  simp

theorem num_step {w0 w w' : World} {q g : Nat} {o : Obj} (hs : Save [q, g] w0 w) (hq : w.heap[q]? = some o) (hne : g ≠ q) (hg : w.grownBy w' (some g)) : w'.heap[q]? = some o ∧ Save [q, g] w0 w' := by
  refine ⟨(hg.block q (lt_of_block hq) (by intro e; injection e with e; exact hne e.symm)).trans hq, hs.trans ⟨hg.os, hg.tape, hg.output, hg.size, fun k hk hx => hg.block k hk ?_⟩⟩
  intro e
  injection e with e
  subst e
  exact hx (by simp)

theorem rec_set {w : World} {q i : Nat} {cs : Array Value} {v : Value} {T : TypeId} (h : w.heap[q]? = some (.cells cs T (0, 0))) (cs' : Array Value) (he : cs.setIfInBounds i v = cs') : w.setCell ⟨q, i, none⟩ v = put w q (.cells cs' T (0, 0)) := by
  rw [set_put _ h, he]

theorem pars_isSome (l : List Nat) : (pars l).isSome = ((cand l).2 && (cand l).1.ok) := by
  unfold pars
  cases (cand l).2 <;> cases (cand l).1.ok <;> simp

theorem RdrNe.neq {w : World} {T g E q : Nat} {l : List Nat} (h : RdrNe w T g E l q) : g ≠ q := by
  obtain ⟨_, _, _, _, _, _, _, h, _⟩ := h
  exact h

set_option maxHeartbeats 4000000 in
set_option maxRecDepth 100000 in
theorem parse_rest (bb oo n cap k : Nat) (r : List Nat) (w : World) (h : Rd w (some ⟨bb, oo, none⟩) n (k :: r)) (hn : n ≤ 1000000) (hc : n ≤ cap) (hk2 : k ≠ 2) :
    Calls Tryz.prog 73 #[.slice (some ⟨bb, oo, none⟩) n cap] w fun e w' => ∃ y, e = .returned (.tuple #[rcV y none 0 0, .bool (pars (k :: r)).isSome]) ∧ Below w.heap.size w w' ∧ y = (cand (k :: r)).1 := by
  have hn1 : 1 ≤ n := by have := h.1; simp at this; omega
  have hc0 : ∀ ob, (w.alloc ob).cell? ⟨bb, oo, none⟩ = some (.int .u8 (k : Int)) := by
    intro ob
    obtain ⟨b', o', he, hcell⟩ := h.2.2 hn1
    injection he with he
    injection he with e1 e2
    subst e1 e2
    exact Lib.cell?_alloc_some _ (hcell 0 hn1)
  have hc1 : ∀ o1 o2, ((w.alloc o1).alloc o2).cell? ⟨bb, oo, none⟩ = some (.int .u8 (k : Int)) := fun o1 o2 => Lib.cell?_alloc_some _ (hc0 o1)
  have hs := fun W => slice_from (some ⟨bb, oo, none⟩) n cap 1 .i64 hn1 W
  obtain ⟨A1, hA1⟩ : ∃ A1, A1 = cutA (some ⟨bb, oo, none⟩) cap 1 := ⟨_, rfl⟩
  rw [← hA1] at hs
  have HCUT : Hid ((if cap = 1 then some (⟨bb, oo, none⟩ : Addr) else some ⟨bb, oo + 1, none⟩) = A1) := Lib.hid (by rw [hA1]; simp [cutA, Addr.add])
  have hr1 : Rd w A1 (n - 1) r := by rw [hA1]; have := h.cut (k := 1) (c := cap) (by omega) hc; simpa using this
  have HR1 := Lib.hid hr1
  have hk9 : ((k : Int) == 2) = false := by simp; omega
  clear hA1 hr1 h hc
  obtain ⟨p, hp⟩ : ∃ p, p = w.heap.size := ⟨_, rfl⟩
  obtain ⟨w1, hw1⟩ : ∃ w1, w1 = ((w.alloc (.cells #[.int .u8 0, .int .i64 0, .int .i64 0, .int .i64 0, .int .i64 0, .slice none 0 0, .int .i64 0, .int .u64 0, .int .u64 0] 57)).alloc (.cells #[.int .u8 (k : Int), .int .i64 0, .int .i64 0, .int .i64 0, .int .i64 0, .slice none 0 0, .int .i64 0, .int .u64 0, .int .u64 0] 57)).drew := ⟨_, rfl⟩
  have HW : Hid (((w.alloc (.cells #[.int .u8 0, .int .i64 0, .int .i64 0, .int .i64 0, .int .i64 0, .slice none 0 0, .int .i64 0, .int .u64 0, .int .u64 0] 57)).alloc (.cells #[.int .u8 (k : Int), .int .i64 0, .int .i64 0, .int .i64 0, .int .i64 0, .slice none 0 0, .int .i64 0, .int .u64 0, .int .u64 0] 57)).drew = w1 ∧ w.heap.size = p) := Lib.hid ⟨hw1.symm, hp.symm⟩
  have hB1 : Below w.heap.size w w1 := by rw [hw1]; exact (((Below.refl _ _).alloc (Nat.le_refl _) _).alloc (by simp) _).drew
  have hsz : w1.heap.size = p + 2 := by rw [hw1, hp]; simp
  have hp1 : w1.heap[p]? = some (.cells #[.int .u8 0, .int .i64 0, .int .i64 0, .int .i64 0, .int .i64 0, .slice none 0 0, .int .i64 0, .int .u64 0, .int .u64 0] 57 (0, 0)) := by rw [hw1, hp]; exact (heap_alloc_old _ _ (by simp)).trans (heap_alloc_new w _)
  have hq1 : w1.heap[p + 1]? = some (.cells #[.int .u8 (k : Int), .int .i64 0, .int .i64 0, .int .i64 0, .int .i64 0, .slice none 0 0, .int .i64 0, .int .u64 0, .int .u64 0] 57 (0, 0)) := by
    rw [hw1, hp]
    have e := heap_alloc_new (w.alloc (.cells #[.int .u8 0, .int .i64 0, .int .i64 0, .int .i64 0, .int .i64 0, .slice none 0 0, .int .i64 0, .int .u64 0, .int .u64 0] 57)) (.cells #[.int .u8 (k : Int), .int .i64 0, .int .i64 0, .int .i64 0, .int .i64 0, .slice none 0 0, .int .i64 0, .int .u64 0, .int .u64 0] 57)
    rw [World.size_alloc] at e
    exact e
  have HB1 := Lib.hid hB1
  have HP1 := Lib.hid hp1
  have HQ1 := Lib.hid hq1
  have HSZ := Lib.hid hsz
  clear hw1 hp hB1 hsz hp1 hq1
  go_enter Tryz.func73, Tryz.ntmps73
  go_upto_region 3 with fail
  go_region
  rw [HCUT.out, HW.out.1, HW.out.2]
  have hq := HQ1.out
  obtain ⟨c0, c1, c2, c3, c4, c5, c6, c7, c8⟩ := rec_cells hq
  clear c1 c2 c3 c4 c5 c6 c7 c8 hq
  go_wp2_with fail
  refine (openLo_any A1 (n - 1) (cap - 1) r w1 ?hr (by omega)).mono ?_
  case hr => exact HR1.out.later HB1.out
  rintro e w2 ⟨g, rfl, hlo, hb2⟩
  have HRN := Lib.hid (hlo.ne (B := p + 1) (by have := HSZ.out; omega))
  have HGP : Hid (p + 2 ≤ g) := Lib.hid (by obtain ⟨_, _, _, _, _, _, _, h, _⟩ := hlo; have := HSZ.out; omega)
  have HB2 := Lib.hid hb2
  have HQ2 := Lib.hid ((hb2.block (p + 1) (by have := HSZ.out; omega)).trans HQ1.out)
  have HP2 := Lib.hid ((hb2.block p (by have := HSZ.out; omega)).trans HP1.out)
  clear hlo hb2 c0
  have c0 := (rec_cells HQ2.out).1
  have HM : Hid (w2.heap[p + 1]? = w2.heap[p + 1]?) := Lib.hid rfl
  clear HM
  go_upto_block 0 with fail
  go_cut [] (fun wx => ∃ (i b f t c : Int) (dn ds E : Nat) (l : List Nat), Hid (wx.heap[p + 1]? = some (.cells #[.int .u8 (k : Int), .int .i64 i, .int .i64 b, .int .i64 f, .int .i64 t, .slice none 0 0, .int .i64 c, .int .u64 (dn : Int), .int .u64 (ds : Int)] 57 (0, 0)) ∧ RdrNe wx 128 g E l (p + 1) ∧ Save [p + 1, g] w2 wx ∧ cand (k :: r) = (⟨k, i, b, f, t, [], c, dn, ds⟩, decide (rEnd E l = 0))))
  case first =>
    by_cases hk : k = 1
    · subst hk
      have HN0 := HRN
      have HQ0 : Hid (w2.heap[p + 1]? = some (.cells #[.int .u8 1, .int .i64 0, .int .i64 0, .int .i64 0, .int .i64 0, .slice none 0 0, .int .i64 0, .int .u64 0, .int .u64 0] 57 (0, 0))) := HQ2
      have HS0 : Hid (Save [p + 1, g] w2 w2) := Lib.hid (Save.refl _ _)
      have hc1 := rnum_any w2 g 0 r (p + 1) HN0.out
      obtain ⟨X1, hX1⟩ : ∃ X, X = rNum 0 r 1099511627776 := ⟨_, rfl⟩
      have HX1 := Lib.hid hX1
      rw [← hX1] at hc1
      clear hX1
      obtain ⟨a1, E1, l1⟩ := X1
      simp only at hc1
      have HC1 := Lib.hid hc1
      clear hc1
      go_wp2_with fail
      refine HC1.out.mono ?_
      rintro e u1 ⟨rfl, hr1, hg1⟩
      obtain ⟨hq1, hs1⟩ := num_step HS0.out HQ0.out HRN.out.neq hg1
      have hset1 := rec_set (i := 1) (v := .int .i64 (a1 : Int)) hq1 #[.int .u8 1, .int .i64 (a1 : Int), .int .i64 0, .int .i64 0, .int .i64 0, .slice none 0 0, .int .i64 0, .int .u64 0, .int .u64 0] rfl
      obtain ⟨w3, hw3⟩ : ∃ w', w' = u1.setCell ⟨p + 1, 1, none⟩ (.int .i64 (a1 : Int)) := ⟨_, rfl⟩
      have HWE1 := Lib.hid hw3.symm
      rw [hset1] at hw3
      have HQ1 : Hid (w3.heap[p + 1]? = some (.cells #[.int .u8 1, .int .i64 (a1 : Int), .int .i64 0, .int .i64 0, .int .i64 0, .slice none 0 0, .int .i64 0, .int .u64 0, .int .u64 0] 57 (0, 0))) := Lib.hid (by rw [hw3]; exact put_same hq1)
      have HN1 : Hid (RdrNe w3 128 g E1 l1 (p + 1)) := Lib.hid (by rw [hw3]; exact hr1.save ((Save.refl _ _).put (by simp) _))
      have HS1 : Hid (Save [p + 1, g] w2 w3) := Lib.hid (by rw [hw3]; exact hs1.put (by simp) _)
      have x1 : u1.cell? ⟨p + 1, 1, none⟩ = some (.int .i64 0) := by simp [World.cell?, hq1]
      have y1 : u1.frozen? ⟨p + 1, 1, none⟩ = false := by simp [World.frozen?, hq1]
      clear hq1 hs1 hr1 hg1 hw3 hset1
      have hc2 := rnum_any w3 g E1 l1 (p + 1) HN1.out
      obtain ⟨X2, hX2⟩ : ∃ X, X = rNum E1 l1 1099511627776 := ⟨_, rfl⟩
      have HX2 := Lib.hid hX2
      rw [← hX2] at hc2
      clear hX2
      obtain ⟨a2, E2, l2⟩ := X2
      simp only at hc2
      have HC2 := Lib.hid hc2
      clear hc2
      go_wp2_with fail
      rw [HWE1.out]
      refine HC2.out.mono ?_
      rintro e u2 ⟨rfl, hr2, hg2⟩
      obtain ⟨hq2, hs2⟩ := num_step HS1.out HQ1.out HRN.out.neq hg2
      have hset2 := rec_set (i := 2) (v := .int .i64 (a2 : Int)) hq2 #[.int .u8 1, .int .i64 (a1 : Int), .int .i64 (a2 : Int), .int .i64 0, .int .i64 0, .slice none 0 0, .int .i64 0, .int .u64 0, .int .u64 0] rfl
      obtain ⟨w4, hw4⟩ : ∃ w', w' = u2.setCell ⟨p + 1, 2, none⟩ (.int .i64 (a2 : Int)) := ⟨_, rfl⟩
      have HWE2 := Lib.hid hw4.symm
      rw [hset2] at hw4
      have HQ2 : Hid (w4.heap[p + 1]? = some (.cells #[.int .u8 1, .int .i64 (a1 : Int), .int .i64 (a2 : Int), .int .i64 0, .int .i64 0, .slice none 0 0, .int .i64 0, .int .u64 0, .int .u64 0] 57 (0, 0))) := Lib.hid (by rw [hw4]; exact put_same hq2)
      have HN2 : Hid (RdrNe w4 128 g E2 l2 (p + 1)) := Lib.hid (by rw [hw4]; exact hr2.save ((Save.refl _ _).put (by simp) _))
      have HS2 : Hid (Save [p + 1, g] w2 w4) := Lib.hid (by rw [hw4]; exact hs2.put (by simp) _)
      have x2 : u2.cell? ⟨p + 1, 2, none⟩ = some (.int .i64 0) := by simp [World.cell?, hq2]
      have y2 : u2.frozen? ⟨p + 1, 2, none⟩ = false := by simp [World.frozen?, hq2]
      clear hq2 hs2 hr2 hg2 hw4 hset2
      go_wp2_with fail
      go_meet
      rw [HWE2.out]
      refine ⟨a1, a2, 0, 0, 0, 0, 0, E2, l2, Lib.hid ⟨HQ2.out, HN2.out, HS2.out, ?_⟩⟩
      simp [cand, candH, ← HX1.out, ← HX2.out]
    by_cases hk3 : k = 3
    · have hk := hk3
      clear hk3
      subst hk
      have HN0 := HRN
      have HQ0 : Hid (w2.heap[p + 1]? = some (.cells #[.int .u8 3, .int .i64 0, .int .i64 0, .int .i64 0, .int .i64 0, .slice none 0 0, .int .i64 0, .int .u64 0, .int .u64 0] 57 (0, 0))) := HQ2
      have HS0 : Hid (Save [p + 1, g] w2 w2) := Lib.hid (Save.refl _ _)
      have hc1 := rnum_any w2 g 0 r (p + 1) HN0.out
      obtain ⟨X1, hX1⟩ : ∃ X, X = rNum 0 r 1099511627776 := ⟨_, rfl⟩
      have HX1 := Lib.hid hX1
      rw [← hX1] at hc1
      clear hX1
      obtain ⟨a1, E1, l1⟩ := X1
      simp only at hc1
      have HC1 := Lib.hid hc1
      clear hc1
      go_wp2_with fail
      refine HC1.out.mono ?_
      rintro e u1 ⟨rfl, hr1, hg1⟩
      obtain ⟨hq1, hs1⟩ := num_step HS0.out HQ0.out HRN.out.neq hg1
      have hset1 := rec_set (i := 3) (v := .int .i64 (a1 : Int)) hq1 #[.int .u8 3, .int .i64 0, .int .i64 0, .int .i64 (a1 : Int), .int .i64 0, .slice none 0 0, .int .i64 0, .int .u64 0, .int .u64 0] rfl
      obtain ⟨w3, hw3⟩ : ∃ w', w' = u1.setCell ⟨p + 1, 3, none⟩ (.int .i64 (a1 : Int)) := ⟨_, rfl⟩
      have HWE1 := Lib.hid hw3.symm
      rw [hset1] at hw3
      have HQ1 : Hid (w3.heap[p + 1]? = some (.cells #[.int .u8 3, .int .i64 0, .int .i64 0, .int .i64 (a1 : Int), .int .i64 0, .slice none 0 0, .int .i64 0, .int .u64 0, .int .u64 0] 57 (0, 0))) := Lib.hid (by rw [hw3]; exact put_same hq1)
      have HN1 : Hid (RdrNe w3 128 g E1 l1 (p + 1)) := Lib.hid (by rw [hw3]; exact hr1.save ((Save.refl _ _).put (by simp) _))
      have HS1 : Hid (Save [p + 1, g] w2 w3) := Lib.hid (by rw [hw3]; exact hs1.put (by simp) _)
      have x1 : u1.cell? ⟨p + 1, 3, none⟩ = some (.int .i64 0) := by simp [World.cell?, hq1]
      have y1 : u1.frozen? ⟨p + 1, 3, none⟩ = false := by simp [World.frozen?, hq1]
      clear hq1 hs1 hr1 hg1 hw3 hset1
      have hc2 := rnum_any w3 g E1 l1 (p + 1) HN1.out
      obtain ⟨X2, hX2⟩ : ∃ X, X = rNum E1 l1 1099511627776 := ⟨_, rfl⟩
      have HX2 := Lib.hid hX2
      rw [← hX2] at hc2
      clear hX2
      obtain ⟨a2, E2, l2⟩ := X2
      simp only at hc2
      have HC2 := Lib.hid hc2
      clear hc2
      go_wp2_with fail
      rw [HWE1.out]
      refine HC2.out.mono ?_
      rintro e u2 ⟨rfl, hr2, hg2⟩
      obtain ⟨hq2, hs2⟩ := num_step HS1.out HQ1.out HRN.out.neq hg2
      have hset2 := rec_set (i := 4) (v := .int .i64 (a2 : Int)) hq2 #[.int .u8 3, .int .i64 0, .int .i64 0, .int .i64 (a1 : Int), .int .i64 (a2 : Int), .slice none 0 0, .int .i64 0, .int .u64 0, .int .u64 0] rfl
      obtain ⟨w4, hw4⟩ : ∃ w', w' = u2.setCell ⟨p + 1, 4, none⟩ (.int .i64 (a2 : Int)) := ⟨_, rfl⟩
      have HWE2 := Lib.hid hw4.symm
      rw [hset2] at hw4
      have HQ2 : Hid (w4.heap[p + 1]? = some (.cells #[.int .u8 3, .int .i64 0, .int .i64 0, .int .i64 (a1 : Int), .int .i64 (a2 : Int), .slice none 0 0, .int .i64 0, .int .u64 0, .int .u64 0] 57 (0, 0))) := Lib.hid (by rw [hw4]; exact put_same hq2)
      have HN2 : Hid (RdrNe w4 128 g E2 l2 (p + 1)) := Lib.hid (by rw [hw4]; exact hr2.save ((Save.refl _ _).put (by simp) _))
      have HS2 : Hid (Save [p + 1, g] w2 w4) := Lib.hid (by rw [hw4]; exact hs2.put (by simp) _)
      have x2 : u2.cell? ⟨p + 1, 4, none⟩ = some (.int .i64 0) := by simp [World.cell?, hq2]
      have y2 : u2.frozen? ⟨p + 1, 4, none⟩ = false := by simp [World.frozen?, hq2]
      clear hq2 hs2 hr2 hg2 hw4 hset2
      go_wp2_with fail
      go_meet
      rw [HWE2.out]
      refine ⟨0, 0, a1, a2, 0, 0, 0, E2, l2, Lib.hid ⟨HQ2.out, HN2.out, HS2.out, ?_⟩⟩
      simp [cand, candO, ← HX1.out, ← HX2.out]
    by_cases hk4 : k = 4
    · have hk := hk4
      clear hk4
      subst hk
      have HN0 := HRN
      have HQ0 : Hid (w2.heap[p + 1]? = some (.cells #[.int .u8 4, .int .i64 0, .int .i64 0, .int .i64 0, .int .i64 0, .slice none 0 0, .int .i64 0, .int .u64 0, .int .u64 0] 57 (0, 0))) := HQ2
      have HS0 : Hid (Save [p + 1, g] w2 w2) := Lib.hid (Save.refl _ _)
      have hc1 := rnum_any w2 g 0 r (p + 1) HN0.out
      obtain ⟨X1, hX1⟩ : ∃ X, X = rNum 0 r 1099511627776 := ⟨_, rfl⟩
      have HX1 := Lib.hid hX1
      rw [← hX1] at hc1
      clear hX1
      obtain ⟨a1, E1, l1⟩ := X1
      simp only at hc1
      have HC1 := Lib.hid hc1
      clear hc1
      go_wp2_with fail
      refine HC1.out.mono ?_
      rintro e u1 ⟨rfl, hr1, hg1⟩
      obtain ⟨hq1, hs1⟩ := num_step HS0.out HQ0.out HRN.out.neq hg1
      have hset1 := rec_set (i := 6) (v := .int .i64 (a1 : Int)) hq1 #[.int .u8 4, .int .i64 0, .int .i64 0, .int .i64 0, .int .i64 0, .slice none 0 0, .int .i64 (a1 : Int), .int .u64 0, .int .u64 0] rfl
      obtain ⟨w3, hw3⟩ : ∃ w', w' = u1.setCell ⟨p + 1, 6, none⟩ (.int .i64 (a1 : Int)) := ⟨_, rfl⟩
      have HWE1 := Lib.hid hw3.symm
      rw [hset1] at hw3
      have HQ1 : Hid (w3.heap[p + 1]? = some (.cells #[.int .u8 4, .int .i64 0, .int .i64 0, .int .i64 0, .int .i64 0, .slice none 0 0, .int .i64 (a1 : Int), .int .u64 0, .int .u64 0] 57 (0, 0))) := Lib.hid (by rw [hw3]; exact put_same hq1)
      have HN1 : Hid (RdrNe w3 128 g E1 l1 (p + 1)) := Lib.hid (by rw [hw3]; exact hr1.save ((Save.refl _ _).put (by simp) _))
      have HS1 : Hid (Save [p + 1, g] w2 w3) := Lib.hid (by rw [hw3]; exact hs1.put (by simp) _)
      have x1 : u1.cell? ⟨p + 1, 6, none⟩ = some (.int .i64 0) := by simp [World.cell?, hq1]
      have y1 : u1.frozen? ⟨p + 1, 6, none⟩ = false := by simp [World.frozen?, hq1]
      clear hq1 hs1 hr1 hg1 hw3 hset1
      have hc2 := numberNe_any w3 g E1 l1 1099511627776 (p + 1) HN1.out
      obtain ⟨X2, hX2⟩ : ∃ X, X = rNum E1 l1 1099511627776 := ⟨_, rfl⟩
      have HX2 := Lib.hid hX2
      rw [← hX2] at hc2
      clear hX2
      obtain ⟨a2, E2, l2⟩ := X2
      simp only at hc2
      have HC2 := Lib.hid hc2
      clear hc2
      go_wp2_with fail
      rw [HWE1.out]
      refine HC2.out.mono ?_
      rintro e u2 ⟨rfl, hr2, hg2⟩
      obtain ⟨hq2, hs2⟩ := num_step HS1.out HQ1.out HRN.out.neq hg2
      have hset2 := rec_set (i := 7) (v := .int .u64 (a2 : Int)) hq2 #[.int .u8 4, .int .i64 0, .int .i64 0, .int .i64 0, .int .i64 0, .slice none 0 0, .int .i64 (a1 : Int), .int .u64 (a2 : Int), .int .u64 0] rfl
      obtain ⟨w4, hw4⟩ : ∃ w', w' = u2.setCell ⟨p + 1, 7, none⟩ (.int .u64 (a2 : Int)) := ⟨_, rfl⟩
      have HWE2 := Lib.hid hw4.symm
      rw [hset2] at hw4
      have HQ2 : Hid (w4.heap[p + 1]? = some (.cells #[.int .u8 4, .int .i64 0, .int .i64 0, .int .i64 0, .int .i64 0, .slice none 0 0, .int .i64 (a1 : Int), .int .u64 (a2 : Int), .int .u64 0] 57 (0, 0))) := Lib.hid (by rw [hw4]; exact put_same hq2)
      have HN2 : Hid (RdrNe w4 128 g E2 l2 (p + 1)) := Lib.hid (by rw [hw4]; exact hr2.save ((Save.refl _ _).put (by simp) _))
      have HS2 : Hid (Save [p + 1, g] w2 w4) := Lib.hid (by rw [hw4]; exact hs2.put (by simp) _)
      have x2 : u2.cell? ⟨p + 1, 7, none⟩ = some (.int .u64 0) := by simp [World.cell?, hq2]
      have y2 : u2.frozen? ⟨p + 1, 7, none⟩ = false := by simp [World.frozen?, hq2]
      clear hq2 hs2 hr2 hg2 hw4 hset2
      have hc3 := numberNe_any w4 g E2 l2 2305843009213693950 (p + 1) HN2.out
      obtain ⟨X3, hX3⟩ : ∃ X, X = rNum E2 l2 2305843009213693950 := ⟨_, rfl⟩
      have HX3 := Lib.hid hX3
      rw [← hX3] at hc3
      clear hX3
      obtain ⟨a3, E3, l3⟩ := X3
      simp only at hc3
      have HC3 := Lib.hid hc3
      clear hc3
      go_wp2_with fail
      rw [HWE2.out]
      refine HC3.out.mono ?_
      rintro e u3 ⟨rfl, hr3, hg3⟩
      obtain ⟨hq3, hs3⟩ := num_step HS2.out HQ2.out HRN.out.neq hg3
      have hset3 := rec_set (i := 8) (v := .int .u64 (a3 : Int)) hq3 #[.int .u8 4, .int .i64 0, .int .i64 0, .int .i64 0, .int .i64 0, .slice none 0 0, .int .i64 (a1 : Int), .int .u64 (a2 : Int), .int .u64 (a3 : Int)] rfl
      obtain ⟨w5, hw5⟩ : ∃ w', w' = u3.setCell ⟨p + 1, 8, none⟩ (.int .u64 (a3 : Int)) := ⟨_, rfl⟩
      have HWE3 := Lib.hid hw5.symm
      rw [hset3] at hw5
      have HQ3 : Hid (w5.heap[p + 1]? = some (.cells #[.int .u8 4, .int .i64 0, .int .i64 0, .int .i64 0, .int .i64 0, .slice none 0 0, .int .i64 (a1 : Int), .int .u64 (a2 : Int), .int .u64 (a3 : Int)] 57 (0, 0))) := Lib.hid (by rw [hw5]; exact put_same hq3)
      have HN3 : Hid (RdrNe w5 128 g E3 l3 (p + 1)) := Lib.hid (by rw [hw5]; exact hr3.save ((Save.refl _ _).put (by simp) _))
      have HS3 : Hid (Save [p + 1, g] w2 w5) := Lib.hid (by rw [hw5]; exact hs3.put (by simp) _)
      have x3 : u3.cell? ⟨p + 1, 8, none⟩ = some (.int .u64 0) := by simp [World.cell?, hq3]
      have y3 : u3.frozen? ⟨p + 1, 8, none⟩ = false := by simp [World.frozen?, hq3]
      clear hq3 hs3 hr3 hg3 hw5 hset3
      go_wp2_with fail
      go_meet
      rw [HWE3.out]
      refine ⟨0, 0, 0, 0, a1, a2, a3, E3, l3, Lib.hid ⟨HQ3.out, HN3.out, HS3.out, ?_⟩⟩
      simp [cand, candT, threeN, ← HX1.out, ← HX2.out, ← HX3.out]
    have e1 : ((k : Int) == 1) = false := by simp; omega
    have e3 : ((k : Int) == 3) = false := by simp; omega
    have e4 : ((k : Int) == 4) = false := by simp; omega
    have HCA : Hid (cand (k :: r) = (rec0 k, decide (rEnd 0 r = 0))) := Lib.hid (by simp [cand, hk, hk2, hk3, hk4])
    clear hk hk3 hk4 hk2
    go_wp2_with fail
    go_meet
    exact ⟨0, 0, 0, 0, 0, 0, 0, 0, r, Lib.hid ⟨HQ2.out, HRN.out, Save.refl _ _, HCA.out⟩⟩
  case rest =>
    obtain ⟨i, b, f, t, c, dn, ds, E, l, HC⟩ := hcut
    clear c0 hc0 hc1 hs hk9 hk2
    have HPS : Hid ((pars (k :: r)).isSome = (decide (rEnd E l = 0) && Rec.ok ⟨k, i, b, f, t, [], c, dn, ds⟩)) := Lib.hid (by rw [pars_isSome, HC.out.2.2.2])
    have HY : Hid ((⟨k, i, b, f, t, [], c, dn, ds⟩ : Rec) = (cand (k :: r)).1) := Lib.hid (by rw [HC.out.2.2.2])
    have HK : Hid (∀ W, Below wc.heap.size wc W → W.cell? ⟨(p + 1), 0, none⟩ = some (.int .u8 (k : Int)) ∧ W.cell? ⟨(p + 1), 1, none⟩ = some (.int .i64 i) ∧ W.cell? ⟨(p + 1), 2, none⟩ = some (.int .i64 b) ∧ W.cell? ⟨(p + 1), 3, none⟩ = some (.int .i64 f) ∧ W.cell? ⟨(p + 1), 4, none⟩ = some (.int .i64 t) ∧ W.cell? ⟨(p + 1), 5, none⟩ = some (.slice none 0 0) ∧ W.cell? ⟨(p + 1), 6, none⟩ = some (.int .i64 c) ∧ W.cell? ⟨(p + 1), 7, none⟩ = some (.int .u64 (dn : Int)) ∧ W.cell? ⟨(p + 1), 8, none⟩ = some (.int .u64 (ds : Int))) := by
      refine Lib.hid fun W hW => ?_
      have hx := (hW.block (p + 1) (lt_of_block HC.out.1)).trans HC.out.1
      exact rec_cells hx
    have HQW : Hid (∀ W, Below wc.heap.size wc W → W.heap[p + 1]? = some (.cells #[.int .u8 (k : Int), .int .i64 i, .int .i64 b, .int .i64 f, .int .i64 t, .slice none 0 0, .int .i64 c, .int .u64 (dn : Int), .int .u64 (ds : Int)] 57 (0, 0))) :=
      Lib.hid fun W hW => (hW.block (p + 1) (lt_of_block HC.out.1)).trans HC.out.1
    have HPW : Hid (∀ W, Below wc.heap.size wc W → W.heap[p]? = some (.cells #[.int .u8 0, .int .i64 0, .int .i64 0, .int .i64 0, .int .i64 0, .slice none 0 0, .int .i64 0, .int .u64 0, .int .u64 0] 57 (0, 0))) := by
      refine Lib.hid fun W hW => ?_
      have h1 := (HC.out.2.2.1.block p (lt_of_block HP2.out) (by have := HGP.out; simp; omega)).trans HP2.out
      exact (hW.block p (lt_of_block h1)).trans h1
    have HV : Hid (∀ W, Below wc.heap.size wc W → Calls Tryz.prog 59 #[.agg #[.int .u8 (k : Int), .int .i64 i, .int .i64 b, .int .i64 f, .int .i64 t, .slice none 0 0, .int .i64 c, .int .u64 (dn : Int), .int .u64 (ds : Int)]] W fun e w' => e = .returned (.bool (Rec.ok ⟨k, i, b, f, t, [], c, dn, ds⟩)) ∧ Hid (Below wc.heap.size wc w')) := by
      refine Lib.hid fun W hW => (valid_any ⟨k, i, b, f, t, [], c, dn, ds⟩ none 0 0 W ⟨rfl, by simp, by omega⟩).mono ?_
      rintro e w' ⟨rfl, hb⟩
      exact ⟨rfl, Lib.hid (hW.trans (hb.mono hW.size))⟩
    have HE : Hid (∀ W, Below wc.heap.size wc W → Calls Tryz.prog 54 #[.pointer (some ⟨g, 0, none⟩)] W fun e w' => e = .returned (.int .i64 (rEnd E l : Int)) ∧ W = w') :=
      Lib.hid fun W hW => end_any W g E l (HC.out.2.1.later hW).rdr
    have HFIN : Hid (∀ W o, Below wc.heap.size wc W → Below w.heap.size w (put W p o)) := by
      refine Lib.hid fun W o hW => ?_
      have h1 : Below w.heap.size w w2 := HB1.out.trans (HB2.out.mono HB1.out.size)
      have h2 : Below w.heap.size w2 wc := HC.out.2.2.1.below h1.size (by have := HGP.out; have := HW.out.2; simp; omega)
      have h3 := h1.trans (h2.trans (hW.mono (Nat.le_trans h1.size h2.size)))
      exact h3.trans (put_below o (by rw [HW.out.2]; exact Nat.le_refl _))
    obtain ⟨R, hR⟩ : ∃ R, R = rEnd E l := ⟨_, rfl⟩
    obtain ⟨V, hV⟩ : ∃ V, V = Rec.ok ⟨k, i, b, f, t, [], c, dn, ds⟩ := ⟨_, rfl⟩
    rw [← hR] at HE HPS
    rw [← hV] at HV HPS
    clear hR hV HC
    have H : Hid (Below wc.heap.size wc wc.drew) := Lib.hid (Below.refl _ _).drew
    go_upto_region 18 with fail
    by_cases hR0 : R = 0
    · subst hR0
      refine wp_region_held_drew (S := fun W => W.cell? ⟨(p + 1), 0, none⟩ = some (.int .u8 (k : Int)) ∧ W.cell? ⟨(p + 1), 1, none⟩ = some (.int .i64 i) ∧ W.cell? ⟨(p + 1), 2, none⟩ = some (.int .i64 b) ∧ W.cell? ⟨(p + 1), 3, none⟩ = some (.int .i64 f) ∧ W.cell? ⟨(p + 1), 4, none⟩ = some (.int .i64 t) ∧ W.cell? ⟨(p + 1), 5, none⟩ = some (.slice none 0 0) ∧ W.cell? ⟨(p + 1), 6, none⟩ = some (.int .i64 c) ∧ W.cell? ⟨(p + 1), 7, none⟩ = some (.int .u64 (dn : Int)) ∧ W.cell? ⟨(p + 1), 8, none⟩ = some (.int .u64 (ds : Int))) (by kernel_rfl) (HK.out _ H.out) (fun _ => ?_)
      obtain ⟨w3, hw3⟩ : ∃ w3, w3 = wc.drew := ⟨_, rfl⟩
      rw [← hw3] at H ⊢
      clear hw3
      refine wpAnyH_take (i := 0) (v := ?vx0) rfl (by kernel_rfl) (by kernel_rfl) (by kernel_rfl) (fun _ _ _ h => h) (Or.inl ⟨by rfl, ?hx0⟩) (HK.out _ H.out) ?rx0
      case hx0 => (intro W hW; (try dsimp only at hW); go_simp; try with_reducible rfl)
      simp only [Act.put, List.getElem_toArray, List.getElem_cons_succ, List.getElem_cons_zero, List.setIfInBounds_toArray, List.set_cons_zero, List.set_cons_succ]
      refine wpAnyH_take (i := 1) (v := ?vx1) rfl (by kernel_rfl) (by kernel_rfl) (by kernel_rfl) (fun _ _ _ h => h) (Or.inl ⟨by rfl, ?hx1⟩) (HK.out _ H.out) ?rx1
      case hx1 => (intro W hW; (try dsimp only at hW); go_simp; try with_reducible rfl)
      simp only [Act.put, List.getElem_toArray, List.getElem_cons_succ, List.getElem_cons_zero, List.setIfInBounds_toArray, List.set_cons_zero, List.set_cons_succ]
      refine wpAnyH_ready (rs := [2]) (by kernel_rfl) (by simp) ?_
      refine AllReadyH.cons rfl (fun K hK => ?_) AllReadyH.nil
      refine ready_call (f := 54) (vs := #[.pointer (some ⟨g, 0, none⟩)]) (by rfl) (by (go_simp; try with_reducible rfl)) ?_
      refine (HE.out _ H.out).mono ?_
      rintro e w5 ⟨rfl, hw5⟩
      rw [← hw5]
      clear hw5 w5
      refine ⟨_, rfl, hK.out _ _ (HK.out _ H.out) (fun _ => ?_)⟩
      clear hK K
      simp only [Act.put, List.getElem_toArray, List.getElem_cons_succ, List.getElem_cons_zero, List.setIfInBounds_toArray, List.set_cons_zero, List.set_cons_succ]
      refine wpAnyH_take (i := 3) (v := ?vx3) rfl (by kernel_rfl) (by kernel_rfl) (by kernel_rfl) (fun _ _ _ h => h) (Or.inl ⟨by rfl, ?hx3⟩) (HK.out _ H.out) ?rx3
      case hx3 => (intro W hW; (try dsimp only at hW); go_simp; try with_reducible rfl)
      simp only [Act.put, List.getElem_toArray, List.getElem_cons_succ, List.getElem_cons_zero, List.setIfInBounds_toArray, List.set_cons_zero, List.set_cons_succ]
      refine wpAnyH_take (i := 4) (v := ?vx4) rfl (by kernel_rfl) (by kernel_rfl) (by kernel_rfl) (fun _ _ _ h => h) (Or.inl ⟨by rfl, ?hx4⟩) (HK.out _ H.out) ?rx4
      case hx4 => (intro W hW; (try dsimp only at hW); go_simp; try with_reducible rfl)
      simp only [Act.put, List.getElem_toArray, List.getElem_cons_succ, List.getElem_cons_zero, List.setIfInBounds_toArray, List.set_cons_zero, List.set_cons_succ]
      refine wpAnyH_take (i := 5) (v := ?vx5) rfl (by kernel_rfl) (by kernel_rfl) (by kernel_rfl) (fun _ _ _ h => h) (Or.inl ⟨by rfl, ?hx5⟩) (HK.out _ H.out) ?rx5
      case hx5 => (intro W hW; (try dsimp only at hW); go_simp; try with_reducible rfl)
      simp only [Act.put, List.getElem_toArray, List.getElem_cons_succ, List.getElem_cons_zero, List.setIfInBounds_toArray, List.set_cons_zero, List.set_cons_succ]
      refine wpAnyH_ready (rs := [6]) (by kernel_rfl) (by simp) ?_
      refine AllReadyH.cons rfl (fun K hK => ?_) AllReadyH.nil
      refine ready_call (f := 59) (vs := #[.agg #[.int .u8 (k : Int), .int .i64 i, .int .i64 b, .int .i64 f, .int .i64 t, .slice none 0 0, .int .i64 c, .int .u64 (dn : Int), .int .u64 (ds : Int)]]) (by rfl) (by (go_simp; try with_reducible rfl)) ?_
      refine (HV.out _ H.out).mono ?_
      rintro e w4 ⟨rfl, H4⟩
      refine ⟨_, rfl, hK.out _ _ (HK.out _ H4.out) (fun _ => ?_)⟩
      clear hK K
      simp only [Act.put, List.getElem_toArray, List.getElem_cons_succ, List.getElem_cons_zero, List.setIfInBounds_toArray, List.set_cons_zero, List.set_cons_succ]
      refine wpAnyH_take (i := 7) (v := ?vx7) rfl (by kernel_rfl) (by kernel_rfl) (by kernel_rfl) (fun _ _ _ h => h) (Or.inl ⟨by rfl, ?hx7⟩) (HK.out _ H4.out) ?rx7
      case hx7 => (intro W hW; (try dsimp only at hW); go_simp; try with_reducible rfl)
      simp only [Act.put, List.getElem_toArray, List.getElem_cons_succ, List.getElem_cons_zero, List.setIfInBounds_toArray, List.set_cons_zero, List.set_cons_succ]
      have hpw := HPW.out _ H4.out
      obtain ⟨z0, z1, z2, z3, z4, z5, z6, z7, z8⟩ := rec_cells hpw
      have y0 : w4.frozen? ⟨p, 0, none⟩ = false := by simp [World.frozen?, hpw]
      have y1 : w4.frozen? ⟨p, 1, none⟩ = false := by simp [World.frozen?, hpw]
      have y2 : w4.frozen? ⟨p, 2, none⟩ = false := by simp [World.frozen?, hpw]
      have y3 : w4.frozen? ⟨p, 3, none⟩ = false := by simp [World.frozen?, hpw]
      have y4 : w4.frozen? ⟨p, 4, none⟩ = false := by simp [World.frozen?, hpw]
      have y5 : w4.frozen? ⟨p, 5, none⟩ = false := by simp [World.frozen?, hpw]
      have y6 : w4.frozen? ⟨p, 6, none⟩ = false := by simp [World.frozen?, hpw]
      have y7 : w4.frozen? ⟨p, 7, none⟩ = false := by simp [World.frozen?, hpw]
      have y8 : w4.frozen? ⟨p, 8, none⟩ = false := by simp [World.frozen?, hpw]
      have hput := rec_put (v0 := .int .u8 (k : Int)) (v1 := .int .i64 i) (v2 := .int .i64 b) (v3 := .int .i64 f) (v4 := .int .i64 t) (v5 := .slice none 0 0) (v6 := .int .i64 c) (v7 := .int .u64 (dn : Int)) (v8 := .int .u64 (ds : Int)) hpw
      have HPUT := Lib.hid hput
      have HPW2 := Lib.hid hpw
      clear hput hpw
      refine wpAnyH_ready (rs := [8]) (by kernel_rfl) (by simp) ?_
      refine AllReadyH.cons rfl (fun K hK => ?_) AllReadyH.nil
      refine ready_skp (w' := put (w4) p (.cells #[.int .u8 (k : Int), .int .i64 i, .int .i64 b, .int .i64 f, .int .i64 t, .slice none 0 0, .int .i64 c, .int .u64 (dn : Int), .int .u64 (ds : Int)] 57 (0, 0))) (by rfl) (by rw [← HPUT.out]; (go_simp; try with_reducible rfl)) ?_
      refine hK.out _ _ ?hS (fun _ => ?_)
      case hS => exact rec_cells ((put_other (by omega)).trans (HQW.out _ H4.out))
      clear hK K
      simp only [Act.put, List.getElem_toArray, List.getElem_cons_succ, List.getElem_cons_zero, List.setIfInBounds_toArray, List.set_cons_zero, List.set_cons_succ]
      clear z0 z1 z2 z3 z4 z5 z6 z7 z8 y0 y1 y2 y3 y4 y5 y6 y7 y8
      refine wpAnyH_take (i := 9) (v := ?vx9) rfl (by kernel_rfl) (by kernel_rfl) (by kernel_rfl) (fun _ _ _ h => h) (Or.inl ⟨by rfl, ?hx9⟩) (rec_cells ((put_other (by omega)).trans (HQW.out _ H4.out))) ?rx9
      case hx9 => (intro W hW; (try dsimp only at hW); go_simp; try with_reducible rfl)
      simp only [Act.put, List.getElem_toArray, List.getElem_cons_succ, List.getElem_cons_zero, List.setIfInBounds_toArray, List.set_cons_zero, List.set_cons_succ]
      refine wpAnyH_done (by kernel_rfl) ?_ _
      have HFF := HFIN.out _ (.cells #[.int .u8 (k : Int), .int .i64 i, .int .i64 b, .int .i64 f, .int .i64 t, .slice none 0 0, .int .i64 c, .int .u64 (dn : Int), .int .u64 (ds : Int)] 57 (0, 0)) H4.out
      have hp9 := put_same (o := (.cells #[.int .u8 (k : Int), .int .i64 i, .int .i64 b, .int .i64 f, .int .i64 t, .slice none 0 0, .int .i64 c, .int .u64 (dn : Int), .int .u64 (ds : Int)] 57 (0, 0))) HPW2.out
      generalize put w4 p (.cells #[.int .u8 (k : Int), .int .i64 i, .int .i64 b, .int .i64 f, .int .i64 t, .slice none 0 0, .int .i64 c, .int .u64 (dn : Int), .int .u64 (ds : Int)] 57 (0, 0)) = w9 at HFF hp9 ⊢
      have HF9 := Lib.hid HFF
      clear HFF
      obtain ⟨d0, d1, d2, d3, d4, d5, d6, d7, d8⟩ := rec_cells hp9
      go_wp2
      rw [HPS.out, ← HY.out]
      refine bodyPost_ret (v := .tuple #[.agg #[.int .u8 (k : Int), .int .i64 i, .int .i64 b, .int .i64 f, .int .i64 t, .slice none 0 0, .int .i64 c, .int .u64 (dn : Int), .int .u64 (ds : Int)], .bool V]) (by simp [results, Tryz.results73, go_sem, d0, d1, d2, d3, d4, d5, d6, d7, d8]; try rfl) rfl ?_
      exact ⟨by simp [rcV], HF9.out⟩
    · have hR1 : ((R : Int) == 0) = false := by simp; omega
      refine wp_region_held_drew (S := fun W => W.cell? ⟨(p + 1), 0, none⟩ = some (.int .u8 (k : Int)) ∧ W.cell? ⟨(p + 1), 1, none⟩ = some (.int .i64 i) ∧ W.cell? ⟨(p + 1), 2, none⟩ = some (.int .i64 b) ∧ W.cell? ⟨(p + 1), 3, none⟩ = some (.int .i64 f) ∧ W.cell? ⟨(p + 1), 4, none⟩ = some (.int .i64 t) ∧ W.cell? ⟨(p + 1), 5, none⟩ = some (.slice none 0 0) ∧ W.cell? ⟨(p + 1), 6, none⟩ = some (.int .i64 c) ∧ W.cell? ⟨(p + 1), 7, none⟩ = some (.int .u64 (dn : Int)) ∧ W.cell? ⟨(p + 1), 8, none⟩ = some (.int .u64 (ds : Int))) (by kernel_rfl) (HK.out _ H.out) (fun _ => ?_)
      obtain ⟨w3, hw3⟩ : ∃ w3, w3 = wc.drew := ⟨_, rfl⟩
      rw [← hw3] at H ⊢
      clear hw3
      refine wpAnyH_take (i := 0) (v := ?vy0) rfl (by kernel_rfl) (by kernel_rfl) (by kernel_rfl) (fun _ _ _ h => h) (Or.inl ⟨by rfl, ?hy0⟩) (HK.out _ H.out) ?ry0
      case hy0 => (intro W hW; (try dsimp only at hW); go_simp; try with_reducible rfl)
      simp only [Act.put, List.getElem_toArray, List.getElem_cons_succ, List.getElem_cons_zero, List.setIfInBounds_toArray, List.set_cons_zero, List.set_cons_succ]
      refine wpAnyH_take (i := 1) (v := ?vy1) rfl (by kernel_rfl) (by kernel_rfl) (by kernel_rfl) (fun _ _ _ h => h) (Or.inl ⟨by rfl, ?hy1⟩) (HK.out _ H.out) ?ry1
      case hy1 => (intro W hW; (try dsimp only at hW); go_simp; try with_reducible rfl)
      simp only [Act.put, List.getElem_toArray, List.getElem_cons_succ, List.getElem_cons_zero, List.setIfInBounds_toArray, List.set_cons_zero, List.set_cons_succ]
      refine wpAnyH_ready (rs := [2]) (by kernel_rfl) (by simp) ?_
      refine AllReadyH.cons rfl (fun K hK => ?_) AllReadyH.nil
      refine ready_call (f := 54) (vs := #[.pointer (some ⟨g, 0, none⟩)]) (by rfl) (by (go_simp; try with_reducible rfl)) ?_
      refine (HE.out _ H.out).mono ?_
      rintro e w5 ⟨rfl, hw5⟩
      rw [← hw5]
      clear hw5 w5
      refine ⟨_, rfl, hK.out _ _ (HK.out _ H.out) (fun _ => ?_)⟩
      clear hK K
      simp only [Act.put, List.getElem_toArray, List.getElem_cons_succ, List.getElem_cons_zero, List.setIfInBounds_toArray, List.set_cons_zero, List.set_cons_succ]
      refine wpAnyH_take (i := 3) (v := ?vy3) rfl (by kernel_rfl) (by kernel_rfl) (by kernel_rfl) (fun _ _ _ h => h) (Or.inl ⟨by rfl, ?hy3⟩) (HK.out _ H.out) ?ry3
      case hy3 => (intro W hW; (try dsimp only at hW); go_simp; try with_reducible rfl)
      simp only [Act.put, List.getElem_toArray, List.getElem_cons_succ, List.getElem_cons_zero, List.setIfInBounds_toArray, List.set_cons_zero, List.set_cons_succ]
      refine wpAnyH_take (i := 4) (v := ?vy4) rfl (by kernel_rfl) (by kernel_rfl) (by kernel_rfl) (fun _ _ _ h => h) (Or.inl ⟨by rfl, ?hy4⟩) (HK.out _ H.out) ?ry4
      case hy4 => (intro W hW; (try dsimp only at hW); go_simp; try with_reducible rfl)
      simp only [Act.put, List.getElem_toArray, List.getElem_cons_succ, List.getElem_cons_zero, List.setIfInBounds_toArray, List.set_cons_zero, List.set_cons_succ]
      refine wpAnyH_take (i := 5) (v := undef) rfl (by kernel_rfl) (by kernel_rfl) (by kernel_rfl) (fun _ _ _ h => h) (Or.inr ⟨by rfl, rfl⟩) (HK.out _ H.out) ?ry5
      simp only [Act.put, List.getElem_toArray, List.getElem_cons_succ, List.getElem_cons_zero, List.setIfInBounds_toArray, List.set_cons_zero, List.set_cons_succ]
      refine wpAnyH_take (i := 6) (v := undef) rfl (by kernel_rfl) (by kernel_rfl) (by kernel_rfl) (fun _ _ _ h => h) (Or.inr ⟨by rfl, rfl⟩) (HK.out _ H.out) ?ry6
      simp only [Act.put, List.getElem_toArray, List.getElem_cons_succ, List.getElem_cons_zero, List.setIfInBounds_toArray, List.set_cons_zero, List.set_cons_succ]
      refine wpAnyH_take (i := 7) (v := ?vy7) rfl (by kernel_rfl) (by kernel_rfl) (by kernel_rfl) (fun _ _ _ h => h) (Or.inl ⟨by rfl, ?hy7⟩) (HK.out _ H.out) ?ry7
      case hy7 => (intro W hW; (try dsimp only at hW); go_simp; try with_reducible rfl)
      simp only [Act.put, List.getElem_toArray, List.getElem_cons_succ, List.getElem_cons_zero, List.setIfInBounds_toArray, List.set_cons_zero, List.set_cons_succ]
      have hpw := HPW.out _ H.out
      obtain ⟨z0, z1, z2, z3, z4, z5, z6, z7, z8⟩ := rec_cells hpw
      have y0 : w3.frozen? ⟨p, 0, none⟩ = false := by simp [World.frozen?, hpw]
      have y1 : w3.frozen? ⟨p, 1, none⟩ = false := by simp [World.frozen?, hpw]
      have y2 : w3.frozen? ⟨p, 2, none⟩ = false := by simp [World.frozen?, hpw]
      have y3 : w3.frozen? ⟨p, 3, none⟩ = false := by simp [World.frozen?, hpw]
      have y4 : w3.frozen? ⟨p, 4, none⟩ = false := by simp [World.frozen?, hpw]
      have y5 : w3.frozen? ⟨p, 5, none⟩ = false := by simp [World.frozen?, hpw]
      have y6 : w3.frozen? ⟨p, 6, none⟩ = false := by simp [World.frozen?, hpw]
      have y7 : w3.frozen? ⟨p, 7, none⟩ = false := by simp [World.frozen?, hpw]
      have y8 : w3.frozen? ⟨p, 8, none⟩ = false := by simp [World.frozen?, hpw]
      have hput := rec_put (v0 := .int .u8 (k : Int)) (v1 := .int .i64 i) (v2 := .int .i64 b) (v3 := .int .i64 f) (v4 := .int .i64 t) (v5 := .slice none 0 0) (v6 := .int .i64 c) (v7 := .int .u64 (dn : Int)) (v8 := .int .u64 (ds : Int)) hpw
      have HPUT := Lib.hid hput
      have HPW2 := Lib.hid hpw
      clear hput hpw
      refine wpAnyH_ready (rs := [8]) (by kernel_rfl) (by simp) ?_
      refine AllReadyH.cons rfl (fun K hK => ?_) AllReadyH.nil
      refine ready_skp (w' := put (w3) p (.cells #[.int .u8 (k : Int), .int .i64 i, .int .i64 b, .int .i64 f, .int .i64 t, .slice none 0 0, .int .i64 c, .int .u64 (dn : Int), .int .u64 (ds : Int)] 57 (0, 0))) (by rfl) (by rw [← HPUT.out]; (go_simp; try with_reducible rfl)) ?_
      refine hK.out _ _ ?hS (fun _ => ?_)
      case hS => exact rec_cells ((put_other (by omega)).trans (HQW.out _ H.out))
      clear hK K
      simp only [Act.put, List.getElem_toArray, List.getElem_cons_succ, List.getElem_cons_zero, List.setIfInBounds_toArray, List.set_cons_zero, List.set_cons_succ]
      clear z0 z1 z2 z3 z4 z5 z6 z7 z8 y0 y1 y2 y3 y4 y5 y6 y7 y8
      refine wpAnyH_take (i := 9) (v := ?vy9) rfl (by kernel_rfl) (by kernel_rfl) (by kernel_rfl) (fun _ _ _ h => h) (Or.inl ⟨by rfl, ?hy9⟩) (rec_cells ((put_other (by omega)).trans (HQW.out _ H.out))) ?ry9
      case hy9 => (intro W hW; (try dsimp only at hW); go_simp; try with_reducible rfl)
      simp only [Act.put, List.getElem_toArray, List.getElem_cons_succ, List.getElem_cons_zero, List.setIfInBounds_toArray, List.set_cons_zero, List.set_cons_succ]
      refine wpAnyH_done (by kernel_rfl) ?_ _
      have HFF := HFIN.out _ (.cells #[.int .u8 (k : Int), .int .i64 i, .int .i64 b, .int .i64 f, .int .i64 t, .slice none 0 0, .int .i64 c, .int .u64 (dn : Int), .int .u64 (ds : Int)] 57 (0, 0)) H.out
      have hp9 := put_same (o := (.cells #[.int .u8 (k : Int), .int .i64 i, .int .i64 b, .int .i64 f, .int .i64 t, .slice none 0 0, .int .i64 c, .int .u64 (dn : Int), .int .u64 (ds : Int)] 57 (0, 0))) HPW2.out
      generalize put w3 p (.cells #[.int .u8 (k : Int), .int .i64 i, .int .i64 b, .int .i64 f, .int .i64 t, .slice none 0 0, .int .i64 c, .int .u64 (dn : Int), .int .u64 (ds : Int)] 57 (0, 0)) = w9 at HFF hp9 ⊢
      have HF9 := Lib.hid HFF
      clear HFF
      obtain ⟨d0, d1, d2, d3, d4, d5, d6, d7, d8⟩ := rec_cells hp9
      go_wp2
      rw [HPS.out, ← HY.out]
      refine bodyPost_ret (v := .tuple #[.agg #[.int .u8 (k : Int), .int .i64 i, .int .i64 b, .int .i64 f, .int .i64 t, .slice none 0 0, .int .i64 c, .int .u64 (dn : Int), .int .u64 (ds : Int)], .bool false]) (by simp [results, Tryz.results73, go_sem, d0, d1, d2, d3, d4, d5, d6, d7, d8]; try rfl) rfl ?_
      have e0 : decide (R = 0) = false := decide_eq_false hR0
      exact ⟨_, by rw [e0]; simp [rcV], HF9.out, rfl⟩
end Go.Proofs.YtaijldcfoaeogaaGreat

/- What is ahead of a Tail: the contracts of add and tail, over any world. -/
namespace Go.Proofs.YtaijldcfoaeogaaGreat
open Go.RowKit
set_option maxRecDepth 100000
set_option linter.unusedSimpArgs false

/-- Block g is what is ahead: bytes l, in a row of the call's own in block r (from base on), and how many records. -/
structure Ahd (w : World) (g base : Nat) (r : Option Nat) (l : List Nat) (c : Nat) : Prop where
  ex : ∃ v, w.heap[g]? = some (.cells #[v, .int .i64 (c : Int)] 68 (0, 0)) ∧ v.ownBlock = r ∧ Own w base v l
  lt : g < base

theorem Ahd.same {w w' : World} {g base : Nat} {r : Option Nat} {l : List Nat} {c : Nat} (h : Ahd w g base r l c) (hg : w'.heap[g]? = w.heap[g]?) (hr : ∀ k, r = some k → w'.heap[k]? = w.heap[k]?) : Ahd w' g base r l c := by
  obtain ⟨v, h1, h2, h3⟩ := h.ex
  exact ⟨⟨v, hg.trans h1, h2, h3.1, owns_same h3.2 fun k hk => hr k (h2 ▸ hk)⟩, h.lt⟩

theorem Ahd.row_lt {w : World} {g base : Nat} {r : Option Nat} {l : List Nat} {c : Nat} (h : Ahd w g base r l c) {k : Nat} (hk : r = some k) : base ≤ k ∧ k < w.heap.size := by
  obtain ⟨v, h1, h2, h3⟩ := h.ex
  obtain ⟨e1, cs, e2⟩ := owns_block h3.2 (h2.trans hk)
  exact ⟨e1, lt_of_block e2⟩

theorem Ahd.g_lt {w : World} {g base : Nat} {r : Option Nat} {l : List Nat} {c : Nat} (h : Ahd w g base r l c) : g < w.heap.size := by
  obtain ⟨v, h1, _⟩ := h.ex
  exact lt_of_block h1

theorem Ahd.later {w w' : World} {g base : Nat} {r : Option Nat} {l : List Nat} {c : Nat} (h : Ahd w g base r l c) (hb : Below w.heap.size w w') : Ahd w' g base r l c :=
  h.same (hb.block g h.g_lt) fun _ hk => hb.block _ (h.row_lt hk).2

set_option maxHeartbeats 1000000 in
set_option maxRecDepth 100000 in
theorem add_no (x : Rec) (a : Option Addr) (n cap : Nat) (w : World) (g : Nat) (hx : x.ok = false) (hr : Rd w a n x.l) :
    Calls Tryz.prog 20 #[.pointer (some ⟨g, 0, none⟩), rcV x a n cap] w fun e w' => e = .returned (.int .i64 1) ∧ Below w.heap.size w w' := by
  have HB : Hid (∀ W, Below w.heap.size w W → Calls Tryz.prog 37 #[rcV x a n cap] W fun e w' => e = .returned (.tuple #[.slice none 0 0, .int .i64 1]) ∧ Hid (Below W.heap.size W w')) :=
    Lib.hid fun W hW => (rbytes_any x a n cap W (hr.later hW)).mono fun e w' ⟨h1, h2⟩ => by
      rcases h2 with ⟨_, h2⟩ | ⟨h2, _⟩
      · exact ⟨h2, h1⟩
      · rw [hx] at h2; cases h2
  clear hr hx
  obtain ⟨k, i, b, f, t, l, c, dn, ds⟩ := x
  simp only [rcV] at HB ⊢
  go_enter Tryz.func20, Tryz.ntmps20
  go_upto_region 1 with fail
  obtain ⟨c0, c1, c2, c3, c4, c5, c6, c7, c8⟩ := rec_cells (heap_alloc_new w (.cells #[.int .u8 (k : Int), .int .i64 i, .int .i64 b, .int .i64 f, .int .i64 t, .slice a n cap, .int .i64 c, .int .u64 (dn : Int), .int .u64 (ds : Int)] 57))
  go_wp2_with fail
  refine (HB.out _ (Below.alloc0 _ _)).mono ?_
  rintro e w1 ⟨rfl, hb⟩
  clear c0 c1 c2 c3 c4 c5 c6 c7 c8
  go_wp2
  go_ret
  exact ⟨rfl, (Below.alloc0 _ _).trans (hb.out.mono (by simp))⟩

set_option maxHeartbeats 2000000 in
set_option maxRecDepth 100000 in
theorem add_any (x : Rec) (a : Option Addr) (n cap : Nat) (w : World) (g base : Nat) (r : Option Nat) (l : List Nat) (c : Nat) (h : Ahd w g base r l c) (hx : x.ok = true) (hr : Rd w a n x.l) (hl : l.length ≤ 1000000) (hc : c ≤ 1000000) (hbase : base ≤ w.heap.size) :
    Calls Tryz.prog 20 #[.pointer (some ⟨g, 0, none⟩), rcV x a n cap] w fun e w' => e = .returned (.int .i64 0) ∧ ∃ r', Hid (Ahd w' g base r' (l ++ x.bytes) (c + 1)) ∧ Hid (Save (g :: r.toList) w w') ∧ Hid (∀ k, r' = some k → r = some k ∨ w.heap.size ≤ k) := by
  have HB : Hid (∀ W, Below w.heap.size w W → Calls Tryz.prog 37 #[rcV x a n cap] W fun e w' => Hid (Below W.heap.size W w') ∧ ∃ a' c', e = .returned (.tuple #[.slice a' x.bytes.length c', .int .i64 0]) ∧ Hid (Own w' W.heap.size (.slice a' x.bytes.length c') x.bytes)) :=
    Lib.hid fun W hW => (rbytes_any x a n cap W (hr.later hW)).mono fun e w' ⟨h1, h2⟩ => by
      rcases h2 with ⟨h2, _⟩ | ⟨_, a', c', h2, h3⟩
      · rw [hx] at h2; cases h2
      · exact ⟨h1, a', c', h2, h3⟩
  have HBL := Lib.hid (bytes_len hx)
  have HA := Lib.hid h
  have HBS := Lib.hid hbase
  have HL := Lib.hid hl
  clear hr hx h hbase hl
  obtain ⟨Y, hY⟩ : ∃ Y, Y = x.bytes := ⟨_, rfl⟩
  rw [← hY] at HB HBL ⊢
  clear hY
  obtain ⟨yl, hyl⟩ : ∃ yl, yl = Y.length := ⟨_, rfl⟩
  rw [← hyl] at HB HBL
  have HYL := Lib.hid hyl
  clear hyl
  obtain ⟨k, i, b, f, t, lb, cc, dn, ds⟩ := x
  simp only [rcV] at HB ⊢
  go_enter Tryz.func20, Tryz.ntmps20
  go_upto_region 1 with fail
  obtain ⟨c0, c1, c2, c3, c4, c5, c6, c7, c8⟩ := rec_cells (heap_alloc_new w (.cells #[.int .u8 (k : Int), .int .i64 i, .int .i64 b, .int .i64 f, .int .i64 t, .slice a n cap, .int .i64 cc, .int .u64 (dn : Int), .int .u64 (ds : Int)] 57))
  go_wp2_with fail
  refine (HB.out _ (Below.alloc0 _ _)).mono ?_
  rintro e w1 ⟨hb, a', c', rfl, ho⟩
  have HB1 : Hid (Below w.heap.size w w1) := Lib.hid ((Below.alloc0 _ _).trans (hb.out.mono (by simp)))
  clear c0 c1 c2 c3 c4 c5 c6 c7 c8 hb
  have HO : Hid (Own w1 (w.heap.size + 1) (.slice a' yl c') Y) := Lib.hid (by have := ho.out; simpa using this)
  clear ho
  have HA1 := Lib.hid (HA.out.later HB1.out)
  obtain ⟨v, hv, hvr, hov⟩ := HA1.out.ex
  have HV := Lib.hid (And.intro hvr hov)
  have d0 : w1.cell? ⟨g, 0, none⟩ = some v := by simp [World.cell?, hv]
  have HVB := Lib.hid hv
  clear hvr hov hv
  go_upto_region 5 with (refine wpList_append_rdL rfl (.tmp 19) (.tmp 20) rfl v rfl a' yl c' rfl base l HV.out.2 (Nat.le_trans HBS.out HB1.out.size) Y (HO.out.asSlice1 HYL.out.symm) (by have := HL.out; have := HBL.out; omega) ?_; intro v2 w2 h21 h22 h23 h24; obtain ⟨a2, c2, hv2⟩ := owns_shape h21.2; obtain ⟨m2, hm2⟩ : ∃ m2, m2 = (l ++ Y).length := ⟨_, rfl⟩; rw [← hm2] at hv2; subst hv2; have HM2 := Lib.hid hm2; clear hm2; have hg2 := (h22.block g HA.out.lt).trans HVB.out; have y0 : w2.frozen? ⟨g, 0, none⟩ = false := by { simp [World.frozen?, hg2] }; have z0 : w2.cell? ⟨g, 0, none⟩ = some v := by { simp [World.cell?, hg2] })
  have HW2 := Lib.hid (And.intro h21 (And.intro h22 (And.intro h23 h24)))
  obtain ⟨w3, hw3⟩ : ∃ w3, w3 = w2.setCell ⟨g, 0, none⟩ (.slice a2 m2 c2) := ⟨_, rfl⟩
  have hput := set_put (i := 0) (.slice a2 m2 c2) hg2
  simp only [List.setIfInBounds_toArray, List.set_cons_zero] at hput
  have hg3 : w3.heap[g]? = some (.cells #[.slice a2 m2 c2, .int .i64 (c : Int)] 68 (0, 0)) := by rw [hw3, hput]; exact put_same hg2
  have HS3 : Hid (Save [g] w2 w3) := Lib.hid (by rw [hw3]; exact Save.set _ _ _ _)
  rw [← hw3]
  have HG3 := Lib.hid hg3
  have y1 : w3.frozen? ⟨g, 1, none⟩ = false := by simp [World.frozen?, hg3]
  have z1 : w3.cell? ⟨g, 1, none⟩ = some (.int .i64 (c : Int)) := by simp [World.cell?, hg3]
  clear hput hg2 hg3 hw3 y0 d0 h21 h22 h23 h24
  go_wp2
  obtain ⟨w4, hw4⟩ : ∃ w4, w4 = w3.setCell ⟨g, 1, none⟩ (.int .i64 ((c : Int) + 1)) := ⟨_, rfl⟩
  have hput := set_put (i := 1) (.int .i64 ((c : Int) + 1)) HG3.out
  simp only [List.setIfInBounds_toArray, List.set_cons_zero, List.set_cons_succ] at hput
  have hg4 : w4.heap[g]? = some (.cells #[.slice a2 m2 c2, .int .i64 ((c : Int) + 1)] 68 (0, 0)) := by rw [hw4, hput]; exact put_same HG3.out
  have hs4 : Save [g] w3 w4 := by rw [hw4]; exact Save.set _ _ _ _
  rw [← hw4]
  clear hput hw4
  go_ret
  have hsv : Save (g :: r.toList) w1 w2 := ⟨HW2.out.2.1.os, HW2.out.2.1.tape, HW2.out.2.1.output, HW2.out.2.1.size, fun q hq hx => HW2.out.2.2.1 q hq fun e => by
    rw [HV.out.1] at e
    exact hx (by simp [e])⟩
  have hs34 : Save (g :: r.toList) w2 w4 := (HS3.out.trans hs4).mono fun q hq => by simp at hq; simp [hq]
  refine ⟨rfl, (Value.slice a2 m2 c2).ownBlock, Lib.hid ⟨⟨_, hg4, rfl, HW2.out.1.1, ?_⟩, HA.out.lt⟩, Lib.hid (((Save.of_below HB1.out _).trans hsv).trans hs34), Lib.hid fun q hq => ?_⟩
  · exact owns_same HW2.out.1.2 fun q hq => by
      have h1 := (owns_block HW2.out.1.2 hq).1
      have h2 := HA.out.lt
      have h3 : q < w2.heap.size := by obtain ⟨_, _, h⟩ := owns_block HW2.out.1.2 hq; exact lt_of_block h
      exact (HS3.out.trans hs4).block q h3 (by simp; omega)
  · rcases HW2.out.2.2.2 q hq with h1 | h1
    · exact .inl (HV.out.1 ▸ h1)
    · exact .inr (Nat.le_trans HB1.out.size h1)

set_option maxHeartbeats 2000000 in
set_option maxRecDepth 100000 in
theorem tail_any (w : World) (g base : Nat) (r : Option Nat) (l : List Nat) (c : Nat) (h : Ahd w g base r l c) (hl : l.length ≤ 3000000) :
    Calls Tryz.prog 24 #[.pointer (some ⟨g, 0, none⟩)] w fun e w' => e = .returned (rcV ⟨4, 0, 0, 0, 0, [], (c : Int), l.length, dSum l⟩ none 0 0) ∧ Below w.heap.size w w' := by
  obtain ⟨w0, hw0⟩ : ∃ w0, w0 = w.alloc (.cells #[.int .u8 0, .int .i64 0, .int .i64 0, .int .i64 0, .int .i64 0, .slice none 0 0, .int .i64 0, .int .u64 0, .int .u64 0] 57) := ⟨_, rfl⟩
  obtain ⟨p, hp⟩ : ∃ p, p = w.heap.size := ⟨_, rfl⟩
  have HW : Hid (w.alloc (.cells #[.int .u8 0, .int .i64 0, .int .i64 0, .int .i64 0, .int .i64 0, .slice none 0 0, .int .i64 0, .int .u64 0, .int .u64 0] 57) = w0 ∧ w.heap.size = p) := Lib.hid ⟨hw0.symm, hp.symm⟩
  have hb0 : Below p w w0 := by rw [hw0, hp]; exact Below.alloc0 _ _
  have hp0 : w0.heap[p]? = some (.cells #[.int .u8 0, .int .i64 0, .int .i64 0, .int .i64 0, .int .i64 0, .slice none 0 0, .int .i64 0, .int .u64 0, .int .u64 0] 57 (0, 0)) := by rw [hw0, hp]; exact heap_alloc_new w _
  have h0 : Ahd w0 g base r l c := h.later (by rw [← hp] at *; exact hb0)
  have hgp : g ≠ p := by have := h.g_lt; omega
  obtain ⟨v, hv, hvr, hov⟩ := h0.ex
  obtain ⟨a, cap, hvs, hrd, hcap⟩ := hov.sl
  have HC : Hid (∀ W, Below w0.heap.size w0 W → W.cell? ⟨g, 0, none⟩ = some v ∧ W.cell? ⟨g, 1, none⟩ = some (.int .i64 (c : Int))) := Lib.hid fun W hW => by
    have e := (hW.block g h0.g_lt).trans hv
    exact ⟨by simp [World.cell?, e], by simp [World.cell?, e]⟩
  have HP : Hid (∀ W, Below w0.heap.size w0 W → W.heap[p]? = some (.cells #[.int .u8 0, .int .i64 0, .int .i64 0, .int .i64 0, .int .i64 0, .slice none 0 0, .int .i64 0, .int .u64 0, .int .u64 0] 57 (0, 0))) := Lib.hid fun W hW => (hW.block p (lt_of_block hp0)).trans hp0
  obtain ⟨m, hm⟩ : ∃ m, m = l.length := ⟨_, rfl⟩
  obtain ⟨d, hd⟩ : ∃ d, d = dSum l := ⟨_, rfl⟩
  rw [← hm] at hvs hrd hl
  subst hvs
  have HD : Hid (∀ W, Below w0.heap.size w0 W → Calls Tryz.prog 46 #[.slice a m cap] W fun e w' => e = .returned (.agg #[.int .u64 (m : Int), .int .u64 ((d : Nat) : Int)]) ∧ Hid (Below w0.heap.size w0 w')) := Lib.hid fun W hW => (dgOf_any a m cap l W (hrd.later hW) hl).mono fun e w' ⟨h1, h2⟩ => ⟨by rw [h1, hd], Lib.hid (by rw [h2]; exact hW.alloc hW.size _)⟩
  have HB0 := Lib.hid hb0
  have HGP := Lib.hid hgp
  rw [← hm, ← hd, ← hp]
  simp only [rcV]
  clear hw0 hp hb0 hp0 h0 hgp hv hvr hov hrd hcap hm hd h hl
  go_enter Tryz.func24, Tryz.ntmps24
  go_upto_region 1 with fail
  change Code.wp _ _ _ _ (w.alloc (.cells #[.int .u8 0, .int .i64 0, .int .i64 0, .int .i64 0, .int .i64 0, .slice none 0 0, .int .i64 0, .int .u64 0, .int .u64 0] 57))
  rw [HW.out.1]
  try rw [HW.out.2]
  have H : Hid (Below w0.heap.size w0 w0.drew) := Lib.hid (Below.refl _ _).drew
  refine wp_region_held_drew (S := fun W => W.cell? ⟨g, 0, none⟩ = some (.slice a m cap) ∧ W.cell? ⟨g, 1, none⟩ = some (.int .i64 (c : Int))) (by kernel_rfl) (HC.out _ H.out) (fun _ => ?_)
  refine wpAnyH_take (i := 0) (v := ?va0) rfl (by kernel_rfl) (by kernel_rfl) (by kernel_rfl) (fun _ _ _ h => h) (Or.inl ⟨by rfl, ?ha0⟩) (HC.out _ H.out) ?ra0
  case ha0 => (intro W hW; (try dsimp only at hW); go_simp; try with_reducible rfl)
  simp only [Act.put, List.getElem_toArray, List.getElem_cons_succ, List.getElem_cons_zero, List.setIfInBounds_toArray, List.set_cons_zero, List.set_cons_succ]
  refine wpAnyH_take (i := 1) (v := ?va1) rfl (by kernel_rfl) (by kernel_rfl) (by kernel_rfl) (fun _ _ _ h => h) (Or.inl ⟨by rfl, ?ha1⟩) (HC.out _ H.out) ?ra1
  case ha1 => (intro W hW; (try dsimp only at hW); go_simp; try with_reducible rfl)
  simp only [Act.put, List.getElem_toArray, List.getElem_cons_succ, List.getElem_cons_zero, List.setIfInBounds_toArray, List.set_cons_zero, List.set_cons_succ]
  refine wpAnyH_take (i := 2) (v := ?va2) rfl (by kernel_rfl) (by kernel_rfl) (by kernel_rfl) (fun _ _ _ h => h) (Or.inl ⟨by rfl, ?ha2⟩) (HC.out _ H.out) ?ra2
  case ha2 => (intro W hW; (try dsimp only at hW); go_simp; try with_reducible rfl)
  simp only [Act.put, List.getElem_toArray, List.getElem_cons_succ, List.getElem_cons_zero, List.setIfInBounds_toArray, List.set_cons_zero, List.set_cons_succ]
  refine wpAnyH_take (i := 3) (v := ?va3) rfl (by kernel_rfl) (by kernel_rfl) (by kernel_rfl) (fun _ _ _ h => h) (Or.inl ⟨by rfl, ?ha3⟩) (HC.out _ H.out) ?ra3
  case ha3 => (intro W hW; (try dsimp only at hW); go_simp; try with_reducible rfl)
  simp only [Act.put, List.getElem_toArray, List.getElem_cons_succ, List.getElem_cons_zero, List.setIfInBounds_toArray, List.set_cons_zero, List.set_cons_succ]
  refine wpAnyH_take (i := 4) (v := ?va4) rfl (by kernel_rfl) (by kernel_rfl) (by kernel_rfl) (fun _ _ _ h => h) (Or.inl ⟨by rfl, ?ha4⟩) (HC.out _ H.out) ?ra4
  case ha4 => (intro W hW; (try dsimp only at hW); go_simp; try with_reducible rfl)
  simp only [Act.put, List.getElem_toArray, List.getElem_cons_succ, List.getElem_cons_zero, List.setIfInBounds_toArray, List.set_cons_zero, List.set_cons_succ]
  refine wpAnyH_take (i := 5) (v := ?va5) rfl (by kernel_rfl) (by kernel_rfl) (by kernel_rfl) (fun _ _ _ h => h) (Or.inl ⟨by rfl, ?ha5⟩) (HC.out _ H.out) ?ra5
  case ha5 => (intro W hW; (try dsimp only at hW); go_simp; try with_reducible rfl)
  simp only [Act.put, List.getElem_toArray, List.getElem_cons_succ, List.getElem_cons_zero, List.setIfInBounds_toArray, List.set_cons_zero, List.set_cons_succ]
  refine wpAnyH_take (i := 6) (v := ?va6) rfl (by kernel_rfl) (by kernel_rfl) (by kernel_rfl) (fun _ _ _ h => h) (Or.inl ⟨by rfl, ?ha6⟩) (HC.out _ H.out) ?ra6
  case ha6 => (intro W hW; (try dsimp only at hW); go_simp; try with_reducible rfl)
  simp only [Act.put, List.getElem_toArray, List.getElem_cons_succ, List.getElem_cons_zero, List.setIfInBounds_toArray, List.set_cons_zero, List.set_cons_succ]
  refine wpAnyH_take (i := 7) (v := ?va7) rfl (by kernel_rfl) (by kernel_rfl) (by kernel_rfl) (fun _ _ _ h => h) (Or.inl ⟨by rfl, ?ha7⟩) (HC.out _ H.out) ?ra7
  case ha7 => (intro W hW; (try dsimp only at hW); go_simp; try with_reducible rfl)
  simp only [Act.put, List.getElem_toArray, List.getElem_cons_succ, List.getElem_cons_zero, List.setIfInBounds_toArray, List.set_cons_zero, List.set_cons_succ]
  refine wpAnyH_ready (rs := [8]) (by kernel_rfl) (by simp) ?_
  refine AllReadyH.cons rfl (fun K hK => ?_) AllReadyH.nil
  refine ready_call (f := 46) (vs := #[.slice a m cap]) (by rfl) (by (go_simp; try with_reducible rfl)) ?_
  refine (HD.out _ H.out).mono ?_
  rintro e w2 ⟨rfl, HB⟩
  refine ⟨_, rfl, hK.out _ _ (HC.out _ HB.out) (fun _ => ?_)⟩
  clear hK K
  simp only [Act.put, List.getElem_toArray, List.getElem_cons_succ, List.getElem_cons_zero, List.setIfInBounds_toArray, List.set_cons_zero, List.set_cons_succ]
  refine wpAnyH_take (i := 9) (v := ?va9) rfl (by kernel_rfl) (by kernel_rfl) (by kernel_rfl) (fun _ _ _ h => h) (Or.inl ⟨by rfl, ?ha9⟩) (HC.out _ HB.out) ?ra9
  case ha9 => (intro W hW; (try dsimp only at hW); go_simp; try with_reducible rfl)
  simp only [Act.put, List.getElem_toArray, List.getElem_cons_succ, List.getElem_cons_zero, List.setIfInBounds_toArray, List.set_cons_zero, List.set_cons_succ]
  have hpw := HP.out _ HB.out
  have hput := rec_put (v0 := .int .u8 4) (v1 := .int .i64 0) (v2 := .int .i64 0) (v3 := .int .i64 0) (v4 := .int .i64 0) (v5 := .slice none 0 0) (v6 := .int .i64 (c : Int)) (v7 := .int .u64 (m : Int)) (v8 := .int .u64 ((d : Nat) : Int)) hpw
  obtain ⟨z0, z1, z2, z3, z4, z5, z6, z7, z8⟩ := rec_cells hpw
  have y0 : w2.frozen? ⟨p, 0, none⟩ = false := by simp [World.frozen?, hpw]
  have y1 : w2.frozen? ⟨p, 1, none⟩ = false := by simp [World.frozen?, hpw]
  have y2 : w2.frozen? ⟨p, 2, none⟩ = false := by simp [World.frozen?, hpw]
  have y3 : w2.frozen? ⟨p, 3, none⟩ = false := by simp [World.frozen?, hpw]
  have y4 : w2.frozen? ⟨p, 4, none⟩ = false := by simp [World.frozen?, hpw]
  have y5 : w2.frozen? ⟨p, 5, none⟩ = false := by simp [World.frozen?, hpw]
  have y6 : w2.frozen? ⟨p, 6, none⟩ = false := by simp [World.frozen?, hpw]
  have y7 : w2.frozen? ⟨p, 7, none⟩ = false := by simp [World.frozen?, hpw]
  have y8 : w2.frozen? ⟨p, 8, none⟩ = false := by simp [World.frozen?, hpw]
  have HPUT := Lib.hid hput
  have HPW := Lib.hid hpw
  clear hput hpw
  refine wpAnyH_ready (rs := [10]) (by kernel_rfl) (by simp) ?_
  refine AllReadyH.cons rfl (fun K hK => ?_) AllReadyH.nil
  refine ready_skp (w' := put w2 p (.cells #[.int .u8 4, .int .i64 0, .int .i64 0, .int .i64 0, .int .i64 0, .slice none 0 0, .int .i64 (c : Int), .int .u64 (m : Int), .int .u64 ((d : Nat) : Int)] 57 (0, 0))) (by rfl) (by rw [← HPUT.out]; (go_simp; try with_reducible rfl)) ?_
  have hgx := HC.out _ HB.out
  refine hK.out _ _ ?hS (fun _ => ?_)
  case hS =>
    have e : ∀ k, (put w2 p (.cells #[.int .u8 4, .int .i64 0, .int .i64 0, .int .i64 0, .int .i64 0, .slice none 0 0, .int .i64 (c : Int), .int .u64 (m : Int), .int .u64 ((d : Nat) : Int)] 57 (0, 0))).cell? ⟨g, k, none⟩ = w2.cell? ⟨g, k, none⟩ := fun k => World.cell?_of_block (put_other HGP.out)
    exact ⟨(e 0).trans hgx.1, (e 1).trans hgx.2⟩
  clear hK K z0 z1 z2 z3 z4 z5 z6 z7 z8 y0 y1 y2 y3 y4 y5 y6 y7 y8 hgx
  simp only [Act.put, List.getElem_toArray, List.getElem_cons_succ, List.getElem_cons_zero, List.setIfInBounds_toArray, List.set_cons_zero, List.set_cons_succ]
  refine wpAnyH_done (by kernel_rfl) ?_ _
  have hp9 := put_same (o := .cells #[.int .u8 4, .int .i64 0, .int .i64 0, .int .i64 0, .int .i64 0, .slice none 0 0, .int .i64 (c : Int), .int .u64 (m : Int), .int .u64 ((d : Nat) : Int)] 57 (0, 0)) HPW.out
  have hb9 : Below p w2 (put w2 p (.cells #[.int .u8 4, .int .i64 0, .int .i64 0, .int .i64 0, .int .i64 0, .slice none 0 0, .int .i64 (c : Int), .int .u64 (m : Int), .int .u64 ((d : Nat) : Int)] 57 (0, 0))) := put_below _ (Nat.le_refl _)
  generalize put w2 p (.cells #[.int .u8 4, .int .i64 0, .int .i64 0, .int .i64 0, .int .i64 0, .slice none 0 0, .int .i64 (c : Int), .int .u64 (m : Int), .int .u64 ((d : Nat) : Int)] 57 (0, 0)) = w9 at hp9 hb9 ⊢
  have HB9 := Lib.hid hb9
  clear hb9
  obtain ⟨d0, d1, d2, d3, d4, d5, d6, d7, d8⟩ := rec_cells hp9
  go_wp2
  refine bodyPost_ret (v := .agg #[.int .u8 4, .int .i64 0, .int .i64 0, .int .i64 0, .int .i64 0, .slice none 0 0, .int .i64 (c : Int), .int .u64 (m : Int), .int .u64 ((d : Nat) : Int)]) (by simp [results, Tryz.results24, go_sem, d0, d1, d2, d3, d4, d5, d6, d7, d8]; try rfl) rfl ?_
  have hle : p ≤ w0.heap.size := by rw [← HW.out.2]; exact HB0.out.size
  exact ⟨rfl, (HB0.out.trans (HB.out.mono hle)).trans HB9.out⟩

end Go.Proofs.YtaijldcfoaeogaaGreat
