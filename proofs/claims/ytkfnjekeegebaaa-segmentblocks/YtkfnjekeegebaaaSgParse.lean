/- A block out of what was sealed: parse's contract, over any world. -/
import Derived.Test.YtkfnjekeegebaaaSgMem
import Derived.Test.YtkfnjekeegebaaaSgAsk
import Derived.Test.YtkfnjekeegebaaaVRdrNe
import Derived.Deep.DeepCutAuto
import Derived.Deep.CutBlock
import Derived.BigQuiet
namespace Go.Proofs.Ytkfnjekeegebaaa
open Go.RowKit
set_option linter.unusedSimpArgs false

theorem num_step {w0 w w' : World} {q g : Nat} {o : Obj} (hs : Save [q, g] w0 w) (hq : w.heap[q]? = some o) (hne : g ≠ q) (hg : w.grownBy w' (some g)) : w'.heap[q]? = some o ∧ Save [q, g] w0 w' := by
  refine ⟨(hg.block q (lt_of_block hq) (by intro e; injection e with e; exact hne e.symm)).trans hq, hs.trans ⟨hg.os, hg.tape, hg.output, hg.size, fun k hk hx => hg.block k hk ?_⟩⟩
  intro e
  injection e with e
  subst e
  exact hx (by simp)

theorem rec_set {w : World} {q i : Nat} {cs : Array Value} {v : Value} {T : TypeId} (h : w.heap[q]? = some (.cells cs T (0, 0))) (cs' : Array Value) (he : cs.setIfInBounds i v = cs') : w.setCell ⟨q, i, none⟩ v = put w q (.cells cs' T (0, 0)) := by
  rw [set_put _ h, he]

theorem RdrNe.neq {w : World} {T g E q : Nat} {l : List Nat} (h : RdrNe w T g E l q) : g ≠ q := by
  obtain ⟨_, _, _, _, _, _, _, h, _⟩ := h
  exact h

/-- A slice in this value lies from block lo on. -/
def SgLo (lo : Nat) (v : Value) : Prop := ∀ T a n c b o f, v = .iface T (.slice a n c) → a = some ⟨b, o, f⟩ → lo ≤ b

theorem SgLo.agg (T : TypeId) (cs : Array Value) (lo : Nat) : SgLo lo (.iface T (.agg cs)) := by
  intro T' a n c b o f h
  injection h with _ h
  cases h

theorem SgLo.nil (lo : Nat) : SgLo lo .nilIface := by
  intro T' a n c b o f h
  cases h

theorem rNum_le (E : Nat) (l : List Nat) (most : Nat) : (rNum E l most).1 ≤ most := by
  by_cases hE : E = 0
  · subst hE
    by_cases he : vErr l = 0
    · by_cases h1 : most < vNum l
      · rw [rNum_long he h1]; exact Nat.zero_le _
      · rw [rNum_ok he h1]; simp only; omega
    · rw [rNum_err he]; exact Nat.zero_le _
  · rw [rNum_failed hE]; exact Nat.zero_le _

theorem wrapI {m : Nat} (h : m ≤ 1073741824) : IntKind.i64.wrap (m : Int) = m := by rw [IntKind.wrap_i64]; omega

set_option maxHeartbeats 1000000 in
theorem numb_any (w : World) (g E : Nat) (l : List Nat) (B : Nat) (h : RdrNe w 110 g E l B) :
    Calls Try.prog 49 #[.pointer (some ⟨g, 0, none⟩)] w fun e w' => e = .returned (.int .i64 ((rNum E l 1073741824).1 : Int)) ∧ RdrNe w' 110 g (rNum E l 1073741824).2.1 (rNum E l 1073741824).2.2 B ∧ w.grownBy w' (some g) := by
  have HN := Lib.hid (numberNe_any w g E l 1073741824 B h)
  have hle := rNum_le E l 1073741824
  obtain ⟨X, hX⟩ : ∃ X, X = rNum E l 1073741824 := ⟨_, rfl⟩
  rw [← hX] at HN hle ⊢
  have hw := wrapI hle
  clear hX hle h
  go_enter Try.func49, Try.ntmps49
  go_wp2_with fail
  refine HN.out.mono ?_
  rintro e w1 ⟨rfl, hr, hg⟩
  go_wp2
  go_ret
  exact ⟨rfl, hr, hg⟩

theorem hdOf_of {r : List Nat} {X0 X1 X2 X3 X4 E1 E2 E3 E4 E5 : Nat} {l1 l2 l3 l4 l5 : List Nat} (h0 : rNum 0 r 1073741824 = (X0, E1, l1)) (h1 : rNum E1 l1 1073741824 = (X1, E2, l2)) (h2 : rNum E2 l2 1073741824 = (X2, E3, l3)) (h3 : rNum E3 l3 1073741824 = (X3, E4, l4)) (h4 : rNum E4 l4 1073741824 = (X4, E5, l5)) :
    hdOf r = if rEnd E5 l5 = 0 then some (.head (X0 : Int) (X1 : Int) (X2 : Int) (X3 : Int) (X4 : Int)) else none := by
  unfold hdOf
  simp only [rd5, h0, h1, h2, h3, h4]

theorem tlOf_of {r : List Nat} {X0 X1 X2 X3 X4 E1 E2 E3 E4 E5 : Nat} {l1 l2 l3 l4 l5 : List Nat} (h0 : rNum 0 r 1073741824 = (X0, E1, l1)) (h1 : rNum E1 l1 1073741824 = (X1, E2, l2)) (h2 : rNum E2 l2 1073741824 = (X2, E3, l3)) (h3 : rNum E3 l3 1073741824 = (X3, E4, l4)) (h4 : rNum E4 l4 1 = (X4, E5, l5)) :
    tlOf r = if rEnd E5 l5 = 0 then some (.tail (X0 : Int) (X1 : Int) (X2 : Int) (X3 : Int) ((X4 : Int) == 1)) else none := by
  unfold tlOf
  simp only [rd5, h0, h1, h2, h3, h4]

set_option maxHeartbeats 4000000 in
set_option maxRecDepth 100000 in
theorem parseHead_any (a : Option Addr) (n c : Nat) (r : List Nat) (w : World) (h : Rd w a n r) (hn : n ≤ 1000000) :
    Calls Try.prog 38 #[.slice a n c] w fun e w' => Below w.heap.size w w' ∧ ∃ v, e = .returned (.tuple #[v, .bool (hdOf r).isSome]) ∧ ((hdOf r).isSome = true → SgV w' v (hdOf r)) ∧ ∀ lo, SgLo lo v := by
  obtain ⟨q, hq⟩ : ∃ q, q = w.heap.size := ⟨_, rfl⟩
  obtain ⟨w1, hw1⟩ : ∃ w1, w1 = w.alloc (.cells #[.int .i64 0, .int .i64 0, .int .i64 0, .int .i64 0, .int .i64 0] 23) := ⟨_, rfl⟩
  have HW : Hid (w.alloc (.cells #[.int .i64 0, .int .i64 0, .int .i64 0, .int .i64 0, .int .i64 0] 23) = w1 ∧ w.heap.size = q) := Lib.hid ⟨hw1.symm, hq.symm⟩
  have HB1 : Hid (Below w.heap.size w w1) := Lib.hid (by rw [hw1]; exact Below.alloc0 _ _)
  have HSZ : Hid (w1.heap.size = q + 1) := Lib.hid (by rw [hw1, hq]; simp)
  have HQ1 : Hid (w1.heap[q]? = some (.cells #[.int .i64 0, .int .i64 0, .int .i64 0, .int .i64 0, .int .i64 0] 23 (0, 0))) := Lib.hid (by rw [hw1, hq]; exact heap_alloc_new w _)
  have HR := Lib.hid h
  obtain ⟨Y0, hY0⟩ : ∃ Y, Y = rNum 0 r 1073741824 := ⟨_, rfl⟩
  obtain ⟨X0, E1, l1⟩ := Y0
  obtain ⟨Y1, hY1⟩ : ∃ Y, Y = rNum E1 l1 1073741824 := ⟨_, rfl⟩
  obtain ⟨X1, E2, l2⟩ := Y1
  obtain ⟨Y2, hY2⟩ : ∃ Y, Y = rNum E2 l2 1073741824 := ⟨_, rfl⟩
  obtain ⟨X2, E3, l3⟩ := Y2
  obtain ⟨Y3, hY3⟩ : ∃ Y, Y = rNum E3 l3 1073741824 := ⟨_, rfl⟩
  obtain ⟨X3, E4, l4⟩ := Y3
  obtain ⟨Y4, hY4⟩ : ∃ Y, Y = rNum E4 l4 1073741824 := ⟨_, rfl⟩
  obtain ⟨X4, E5, l5⟩ := Y4
  have HLR := Lib.hid (hdOf_of hY0.symm hY1.symm hY2.symm hY3.symm hY4.symm)
  have HY0 := Lib.hid hY0.symm
  have HY1 := Lib.hid hY1.symm
  have HY2 := Lib.hid hY2.symm
  have HY3 := Lib.hid hY3.symm
  have HY4 := Lib.hid hY4.symm
  obtain ⟨R, hR⟩ : ∃ R, R = hdOf r := ⟨_, rfl⟩
  rw [← hR] at HLR ⊢
  clear hq hw1 h hY0 hY1 hY2 hY3 hY4 hR
  go_enter Try.func38, Try.ntmps38
  go_upto_region 2 with fail
  change Code.wp _ _ _ _ (w.alloc (.cells #[.int .i64 0, .int .i64 0, .int .i64 0, .int .i64 0, .int .i64 0] 23))
  rw [HW.out.1]
  try rw [HW.out.2]
  go_wp2_with fail
  refine (openLo_any a n c r w1 (HR.out.later HB1.out) hn).mono ?_
  rintro e w2 ⟨g, rfl, hlo, hb2⟩
  have HG : Hid (q + 1 ≤ g) := Lib.hid (by obtain ⟨_, _, _, _, _, _, _, h, _⟩ := hlo; have := HSZ.out; omega)
  have HS0 : Hid (RdrNe w2 110 g 0 r q ∧ w2.heap[q]? = some (.cells #[.int .i64 0, .int .i64 0, .int .i64 0, .int .i64 0, .int .i64 0] 23 (0, 0)) ∧ Save [q, g] w1 w2) := by
    refine Lib.hid ⟨hlo.ne (B := q) (by have := HSZ.out; omega), ?_, Save.of_below hb2 _⟩
    exact (hb2.block q (by have := HSZ.out; omega)).trans HQ1.out
  clear hlo hb2 HR
  go_wp2_with fail
  have hn0 := numb_any _ g 0 r q HS0.out.1
  rw [HY0.out] at hn0
  simp only at hn0
  refine hn0.mono ?_
  clear hn0
  rintro e u0 ⟨rfl, hrn, hgb⟩
  obtain ⟨hqq, hsv⟩ := num_step HS0.out.2.2 HS0.out.2.1 hrn.neq hgb
  have hset := rec_set (i := 0) (v := .int .i64 (X0 : Int)) hqq (#[.int .i64 (X0 : Int), .int .i64 0, .int .i64 0, .int .i64 0, .int .i64 0]) rfl
  obtain ⟨v0, hv0⟩ : ∃ W, W = put u0 q (.cells #[.int .i64 (X0 : Int), .int .i64 0, .int .i64 0, .int .i64 0, .int .i64 0] 23 (0, 0)) := ⟨_, rfl⟩
  rw [← hv0] at hset
  have HS1 : Hid (RdrNe v0 110 g E1 l1 q ∧ v0.heap[q]? = some (.cells #[.int .i64 (X0 : Int), .int .i64 0, .int .i64 0, .int .i64 0, .int .i64 0] 23 (0, 0)) ∧ Save [q, g] w1 v0) := by
    refine Lib.hid ⟨?_, ?_, ?_⟩
    · rw [hv0]; exact hrn.save ((Save.refl _ _).put (by simp) _)
    · rw [hv0]; exact put_same hqq
    · rw [hv0]; exact hsv.put (by simp) _
  have c0 : u0.cell? ⟨q, 0, none⟩ = some (.int .i64 0) := by simp [World.cell?, hqq]
  have f0 : u0.frozen? ⟨q, 0, none⟩ = false := frozen0 hqq
  have HSET0 := Lib.hid hset
  clear hrn hgb hqq hsv hset hv0 HS0
  go_upto_region 4 with fail
  rw [HSET0.out]
  clear c0 f0 HSET0
  go_wp2_with fail
  have hn1 := numb_any _ g E1 l1 q HS1.out.1
  rw [HY1.out] at hn1
  simp only at hn1
  refine hn1.mono ?_
  clear hn1
  rintro e u1 ⟨rfl, hrn, hgb⟩
  obtain ⟨hqq, hsv⟩ := num_step HS1.out.2.2 HS1.out.2.1 hrn.neq hgb
  have hset := rec_set (i := 1) (v := .int .i64 (X1 : Int)) hqq (#[.int .i64 (X0 : Int), .int .i64 (X1 : Int), .int .i64 0, .int .i64 0, .int .i64 0]) rfl
  obtain ⟨v1, hv1⟩ : ∃ W, W = put u1 q (.cells #[.int .i64 (X0 : Int), .int .i64 (X1 : Int), .int .i64 0, .int .i64 0, .int .i64 0] 23 (0, 0)) := ⟨_, rfl⟩
  rw [← hv1] at hset
  have HS2 : Hid (RdrNe v1 110 g E2 l2 q ∧ v1.heap[q]? = some (.cells #[.int .i64 (X0 : Int), .int .i64 (X1 : Int), .int .i64 0, .int .i64 0, .int .i64 0] 23 (0, 0)) ∧ Save [q, g] w1 v1) := by
    refine Lib.hid ⟨?_, ?_, ?_⟩
    · rw [hv1]; exact hrn.save ((Save.refl _ _).put (by simp) _)
    · rw [hv1]; exact put_same hqq
    · rw [hv1]; exact hsv.put (by simp) _
  have c1 : u1.cell? ⟨q, 1, none⟩ = some (.int .i64 0) := by simp [World.cell?, hqq]
  have f1 : u1.frozen? ⟨q, 1, none⟩ = false := frozen0 hqq
  have HSET1 := Lib.hid hset
  clear hrn hgb hqq hsv hset hv1 HS1
  go_upto_region 5 with fail
  rw [HSET1.out]
  clear c1 f1 HSET1
  go_wp2_with fail
  have hn2 := numb_any _ g E2 l2 q HS2.out.1
  rw [HY2.out] at hn2
  simp only at hn2
  refine hn2.mono ?_
  clear hn2
  rintro e u2 ⟨rfl, hrn, hgb⟩
  obtain ⟨hqq, hsv⟩ := num_step HS2.out.2.2 HS2.out.2.1 hrn.neq hgb
  have hset := rec_set (i := 2) (v := .int .i64 (X2 : Int)) hqq (#[.int .i64 (X0 : Int), .int .i64 (X1 : Int), .int .i64 (X2 : Int), .int .i64 0, .int .i64 0]) rfl
  obtain ⟨v2, hv2⟩ : ∃ W, W = put u2 q (.cells #[.int .i64 (X0 : Int), .int .i64 (X1 : Int), .int .i64 (X2 : Int), .int .i64 0, .int .i64 0] 23 (0, 0)) := ⟨_, rfl⟩
  rw [← hv2] at hset
  have HS3 : Hid (RdrNe v2 110 g E3 l3 q ∧ v2.heap[q]? = some (.cells #[.int .i64 (X0 : Int), .int .i64 (X1 : Int), .int .i64 (X2 : Int), .int .i64 0, .int .i64 0] 23 (0, 0)) ∧ Save [q, g] w1 v2) := by
    refine Lib.hid ⟨?_, ?_, ?_⟩
    · rw [hv2]; exact hrn.save ((Save.refl _ _).put (by simp) _)
    · rw [hv2]; exact put_same hqq
    · rw [hv2]; exact hsv.put (by simp) _
  have c2 : u2.cell? ⟨q, 2, none⟩ = some (.int .i64 0) := by simp [World.cell?, hqq]
  have f2 : u2.frozen? ⟨q, 2, none⟩ = false := frozen0 hqq
  have HSET2 := Lib.hid hset
  clear hrn hgb hqq hsv hset hv2 HS2
  go_upto_region 6 with fail
  rw [HSET2.out]
  clear c2 f2 HSET2
  go_wp2_with fail
  have hn3 := numb_any _ g E3 l3 q HS3.out.1
  rw [HY3.out] at hn3
  simp only at hn3
  refine hn3.mono ?_
  clear hn3
  rintro e u3 ⟨rfl, hrn, hgb⟩
  obtain ⟨hqq, hsv⟩ := num_step HS3.out.2.2 HS3.out.2.1 hrn.neq hgb
  have hset := rec_set (i := 3) (v := .int .i64 (X3 : Int)) hqq (#[.int .i64 (X0 : Int), .int .i64 (X1 : Int), .int .i64 (X2 : Int), .int .i64 (X3 : Int), .int .i64 0]) rfl
  obtain ⟨v3, hv3⟩ : ∃ W, W = put u3 q (.cells #[.int .i64 (X0 : Int), .int .i64 (X1 : Int), .int .i64 (X2 : Int), .int .i64 (X3 : Int), .int .i64 0] 23 (0, 0)) := ⟨_, rfl⟩
  rw [← hv3] at hset
  have HS4 : Hid (RdrNe v3 110 g E4 l4 q ∧ v3.heap[q]? = some (.cells #[.int .i64 (X0 : Int), .int .i64 (X1 : Int), .int .i64 (X2 : Int), .int .i64 (X3 : Int), .int .i64 0] 23 (0, 0)) ∧ Save [q, g] w1 v3) := by
    refine Lib.hid ⟨?_, ?_, ?_⟩
    · rw [hv3]; exact hrn.save ((Save.refl _ _).put (by simp) _)
    · rw [hv3]; exact put_same hqq
    · rw [hv3]; exact hsv.put (by simp) _
  have c3 : u3.cell? ⟨q, 3, none⟩ = some (.int .i64 0) := by simp [World.cell?, hqq]
  have f3 : u3.frozen? ⟨q, 3, none⟩ = false := frozen0 hqq
  have HSET3 := Lib.hid hset
  clear hrn hgb hqq hsv hset hv3 HS3
  go_upto_region 7 with fail
  rw [HSET3.out]
  clear c3 f3 HSET3
  go_wp2_with fail
  have hn4 := numb_any _ g E4 l4 q HS4.out.1
  rw [HY4.out] at hn4
  simp only at hn4
  refine hn4.mono ?_
  clear hn4
  rintro e u4 ⟨rfl, hrn, hgb⟩
  obtain ⟨hqq, hsv⟩ := num_step HS4.out.2.2 HS4.out.2.1 hrn.neq hgb
  have hset := rec_set (i := 4) (v := .int .i64 (X4 : Int)) hqq (#[.int .i64 (X0 : Int), .int .i64 (X1 : Int), .int .i64 (X2 : Int), .int .i64 (X3 : Int), .int .i64 (X4 : Int)]) rfl
  obtain ⟨v4, hv4⟩ : ∃ W, W = put u4 q (.cells #[.int .i64 (X0 : Int), .int .i64 (X1 : Int), .int .i64 (X2 : Int), .int .i64 (X3 : Int), .int .i64 (X4 : Int)] 23 (0, 0)) := ⟨_, rfl⟩
  rw [← hv4] at hset
  have HS5 : Hid (RdrNe v4 110 g E5 l5 q ∧ v4.heap[q]? = some (.cells #[.int .i64 (X0 : Int), .int .i64 (X1 : Int), .int .i64 (X2 : Int), .int .i64 (X3 : Int), .int .i64 (X4 : Int)] 23 (0, 0)) ∧ Save [q, g] w1 v4) := by
    refine Lib.hid ⟨?_, ?_, ?_⟩
    · rw [hv4]; exact hrn.save ((Save.refl _ _).put (by simp) _)
    · rw [hv4]; exact put_same hqq
    · rw [hv4]; exact hsv.put (by simp) _
  have c4 : u4.cell? ⟨q, 4, none⟩ = some (.int .i64 0) := by simp [World.cell?, hqq]
  have f4 : u4.frozen? ⟨q, 4, none⟩ = false := frozen0 hqq
  have HSET4 := Lib.hid hset
  clear hrn hgb hqq hsv hset hv4 HS4
  go_upto_region 8 with fail
  rw [HSET4.out]
  clear c4 f4 HSET4
  have HF : Hid (∀ m : Nat, Below w.heap.size w (v4.drewN m)) := Lib.hid fun m => (HB1.out.trans (HS5.out.2.2.below (B := w.heap.size) HB1.out.size (by intro k hk; simp at hk; have := HW.out.2; have := HG.out; omega))).trans ⟨rfl, rfl, rfl, Nat.le_refl _, fun _ _ => rfl⟩
  obtain ⟨c0, c1, c2, c3, c4⟩ := five_cells HS5.out.2.1
  have HE : Hid (∀ m : Nat, Calls Try.prog 50 #[.pointer (some ⟨g, 0, none⟩)] (v4.drewN m) fun e w' => e = .returned (.int .i64 (rEnd E5 l5 : Int)) ∧ v4.drewN m = w') := Lib.hid fun m => end_any (v4.drewN m) g E5 l5 (HS5.out.1.save (Save.refl [q] v4 |>.drewN m)).rdr
  obtain ⟨Z, hZ⟩ : ∃ Z, Z = rEnd E5 l5 := ⟨_, rfl⟩
  rw [← hZ] at HE HLR
  clear hZ HS5
  go_quiet ((go_at_call 50; refine (HE.out _).mono ?_; rintro e w' ⟨rfl, rfl⟩; exact ⟨rfl, _, rfl⟩))
  have hz : ((Z : Int) == 0) = R.isSome := by
    rw [HLR.out]
    by_cases h : Z = 0
    · simp [h]
    · simp only [if_neg h]; simp; omega
  rw [hz]
  have HFV : Hid (R.isSome = true → ∀ W, SgV W (.iface 23 (.agg #[.int .i64 (X0 : Int), .int .i64 (X1 : Int), .int .i64 (X2 : Int), .int .i64 (X3 : Int), .int .i64 (X4 : Int)])) R) := by
    refine Lib.hid fun hs W => ?_
    by_cases h : Z = 0
    · have := HLR.out
      rw [if_pos h] at this
      rw [this]; rfl
    · have := HLR.out
      rw [if_neg h] at this
      rw [this] at hs
      cases hs
  clear hz
  go_wp2
  go_ret2
  exact ⟨HF.out nq, _, rfl, (fun hs => HFV.out hs _), SgLo.agg _ _⟩

set_option maxHeartbeats 4000000 in
set_option maxRecDepth 100000 in
theorem parseEnd_any (a : Option Addr) (n c : Nat) (r : List Nat) (w : World) (h : Rd w a n r) (hn : n ≤ 1000000) :
    Calls Try.prog 39 #[.slice a n c] w fun e w' => Below w.heap.size w w' ∧ ∃ v, e = .returned (.tuple #[v, .bool (tlOf r).isSome]) ∧ ((tlOf r).isSome = true → SgV w' v (tlOf r)) ∧ ∀ lo, SgLo lo v := by
  obtain ⟨q, hq⟩ : ∃ q, q = w.heap.size := ⟨_, rfl⟩
  obtain ⟨w1, hw1⟩ : ∃ w1, w1 = w.alloc (.cells #[.int .i64 0, .int .i64 0, .int .i64 0, .int .i64 0, .bool false] 25) := ⟨_, rfl⟩
  have HW : Hid (w.alloc (.cells #[.int .i64 0, .int .i64 0, .int .i64 0, .int .i64 0, .bool false] 25) = w1 ∧ w.heap.size = q) := Lib.hid ⟨hw1.symm, hq.symm⟩
  have HB1 : Hid (Below w.heap.size w w1) := Lib.hid (by rw [hw1]; exact Below.alloc0 _ _)
  have HSZ : Hid (w1.heap.size = q + 1) := Lib.hid (by rw [hw1, hq]; simp)
  have HQ1 : Hid (w1.heap[q]? = some (.cells #[.int .i64 0, .int .i64 0, .int .i64 0, .int .i64 0, .bool false] 25 (0, 0))) := Lib.hid (by rw [hw1, hq]; exact heap_alloc_new w _)
  have HR := Lib.hid h
  obtain ⟨Y0, hY0⟩ : ∃ Y, Y = rNum 0 r 1073741824 := ⟨_, rfl⟩
  obtain ⟨X0, E1, l1⟩ := Y0
  obtain ⟨Y1, hY1⟩ : ∃ Y, Y = rNum E1 l1 1073741824 := ⟨_, rfl⟩
  obtain ⟨X1, E2, l2⟩ := Y1
  obtain ⟨Y2, hY2⟩ : ∃ Y, Y = rNum E2 l2 1073741824 := ⟨_, rfl⟩
  obtain ⟨X2, E3, l3⟩ := Y2
  obtain ⟨Y3, hY3⟩ : ∃ Y, Y = rNum E3 l3 1073741824 := ⟨_, rfl⟩
  obtain ⟨X3, E4, l4⟩ := Y3
  obtain ⟨Y4, hY4⟩ : ∃ Y, Y = rNum E4 l4 1 := ⟨_, rfl⟩
  obtain ⟨X4, E5, l5⟩ := Y4
  have HLR := Lib.hid (tlOf_of hY0.symm hY1.symm hY2.symm hY3.symm hY4.symm)
  have HY0 := Lib.hid hY0.symm
  have HY1 := Lib.hid hY1.symm
  have HY2 := Lib.hid hY2.symm
  have HY3 := Lib.hid hY3.symm
  have HY4 := Lib.hid hY4.symm
  obtain ⟨R, hR⟩ : ∃ R, R = tlOf r := ⟨_, rfl⟩
  rw [← hR] at HLR ⊢
  clear hq hw1 h hY0 hY1 hY2 hY3 hY4 hR
  go_enter Try.func39, Try.ntmps39
  go_upto_region 2 with fail
  change Code.wp _ _ _ _ (w.alloc (.cells #[.int .i64 0, .int .i64 0, .int .i64 0, .int .i64 0, .bool false] 25))
  rw [HW.out.1]
  try rw [HW.out.2]
  go_wp2_with fail
  refine (openLo_any a n c r w1 (HR.out.later HB1.out) hn).mono ?_
  rintro e w2 ⟨g, rfl, hlo, hb2⟩
  have HG : Hid (q + 1 ≤ g) := Lib.hid (by obtain ⟨_, _, _, _, _, _, _, h, _⟩ := hlo; have := HSZ.out; omega)
  have HS0 : Hid (RdrNe w2 110 g 0 r q ∧ w2.heap[q]? = some (.cells #[.int .i64 0, .int .i64 0, .int .i64 0, .int .i64 0, .bool false] 25 (0, 0)) ∧ Save [q, g] w1 w2) := by
    refine Lib.hid ⟨hlo.ne (B := q) (by have := HSZ.out; omega), ?_, Save.of_below hb2 _⟩
    exact (hb2.block q (by have := HSZ.out; omega)).trans HQ1.out
  clear hlo hb2 HR
  go_wp2_with fail
  have hn0 := numb_any _ g 0 r q HS0.out.1
  rw [HY0.out] at hn0
  simp only at hn0
  refine hn0.mono ?_
  clear hn0
  rintro e u0 ⟨rfl, hrn, hgb⟩
  obtain ⟨hqq, hsv⟩ := num_step HS0.out.2.2 HS0.out.2.1 hrn.neq hgb
  have hset := rec_set (i := 0) (v := .int .i64 (X0 : Int)) hqq (#[.int .i64 (X0 : Int), .int .i64 0, .int .i64 0, .int .i64 0, .bool false]) rfl
  obtain ⟨v0, hv0⟩ : ∃ W, W = put u0 q (.cells #[.int .i64 (X0 : Int), .int .i64 0, .int .i64 0, .int .i64 0, .bool false] 25 (0, 0)) := ⟨_, rfl⟩
  rw [← hv0] at hset
  have HS1 : Hid (RdrNe v0 110 g E1 l1 q ∧ v0.heap[q]? = some (.cells #[.int .i64 (X0 : Int), .int .i64 0, .int .i64 0, .int .i64 0, .bool false] 25 (0, 0)) ∧ Save [q, g] w1 v0) := by
    refine Lib.hid ⟨?_, ?_, ?_⟩
    · rw [hv0]; exact hrn.save ((Save.refl _ _).put (by simp) _)
    · rw [hv0]; exact put_same hqq
    · rw [hv0]; exact hsv.put (by simp) _
  have c0 : u0.cell? ⟨q, 0, none⟩ = some (.int .i64 0) := by simp [World.cell?, hqq]
  have f0 : u0.frozen? ⟨q, 0, none⟩ = false := frozen0 hqq
  have HSET0 := Lib.hid hset
  clear hrn hgb hqq hsv hset hv0 HS0
  go_upto_region 4 with fail
  rw [HSET0.out]
  clear c0 f0 HSET0
  go_wp2_with fail
  have hn1 := numb_any _ g E1 l1 q HS1.out.1
  rw [HY1.out] at hn1
  simp only at hn1
  refine hn1.mono ?_
  clear hn1
  rintro e u1 ⟨rfl, hrn, hgb⟩
  obtain ⟨hqq, hsv⟩ := num_step HS1.out.2.2 HS1.out.2.1 hrn.neq hgb
  have hset := rec_set (i := 1) (v := .int .i64 (X1 : Int)) hqq (#[.int .i64 (X0 : Int), .int .i64 (X1 : Int), .int .i64 0, .int .i64 0, .bool false]) rfl
  obtain ⟨v1, hv1⟩ : ∃ W, W = put u1 q (.cells #[.int .i64 (X0 : Int), .int .i64 (X1 : Int), .int .i64 0, .int .i64 0, .bool false] 25 (0, 0)) := ⟨_, rfl⟩
  rw [← hv1] at hset
  have HS2 : Hid (RdrNe v1 110 g E2 l2 q ∧ v1.heap[q]? = some (.cells #[.int .i64 (X0 : Int), .int .i64 (X1 : Int), .int .i64 0, .int .i64 0, .bool false] 25 (0, 0)) ∧ Save [q, g] w1 v1) := by
    refine Lib.hid ⟨?_, ?_, ?_⟩
    · rw [hv1]; exact hrn.save ((Save.refl _ _).put (by simp) _)
    · rw [hv1]; exact put_same hqq
    · rw [hv1]; exact hsv.put (by simp) _
  have c1 : u1.cell? ⟨q, 1, none⟩ = some (.int .i64 0) := by simp [World.cell?, hqq]
  have f1 : u1.frozen? ⟨q, 1, none⟩ = false := frozen0 hqq
  have HSET1 := Lib.hid hset
  clear hrn hgb hqq hsv hset hv1 HS1
  go_upto_region 5 with fail
  rw [HSET1.out]
  clear c1 f1 HSET1
  go_wp2_with fail
  have hn2 := numb_any _ g E2 l2 q HS2.out.1
  rw [HY2.out] at hn2
  simp only at hn2
  refine hn2.mono ?_
  clear hn2
  rintro e u2 ⟨rfl, hrn, hgb⟩
  obtain ⟨hqq, hsv⟩ := num_step HS2.out.2.2 HS2.out.2.1 hrn.neq hgb
  have hset := rec_set (i := 2) (v := .int .i64 (X2 : Int)) hqq (#[.int .i64 (X0 : Int), .int .i64 (X1 : Int), .int .i64 (X2 : Int), .int .i64 0, .bool false]) rfl
  obtain ⟨v2, hv2⟩ : ∃ W, W = put u2 q (.cells #[.int .i64 (X0 : Int), .int .i64 (X1 : Int), .int .i64 (X2 : Int), .int .i64 0, .bool false] 25 (0, 0)) := ⟨_, rfl⟩
  rw [← hv2] at hset
  have HS3 : Hid (RdrNe v2 110 g E3 l3 q ∧ v2.heap[q]? = some (.cells #[.int .i64 (X0 : Int), .int .i64 (X1 : Int), .int .i64 (X2 : Int), .int .i64 0, .bool false] 25 (0, 0)) ∧ Save [q, g] w1 v2) := by
    refine Lib.hid ⟨?_, ?_, ?_⟩
    · rw [hv2]; exact hrn.save ((Save.refl _ _).put (by simp) _)
    · rw [hv2]; exact put_same hqq
    · rw [hv2]; exact hsv.put (by simp) _
  have c2 : u2.cell? ⟨q, 2, none⟩ = some (.int .i64 0) := by simp [World.cell?, hqq]
  have f2 : u2.frozen? ⟨q, 2, none⟩ = false := frozen0 hqq
  have HSET2 := Lib.hid hset
  clear hrn hgb hqq hsv hset hv2 HS2
  go_upto_region 6 with fail
  rw [HSET2.out]
  clear c2 f2 HSET2
  go_wp2_with fail
  have hn3 := numb_any _ g E3 l3 q HS3.out.1
  rw [HY3.out] at hn3
  simp only at hn3
  refine hn3.mono ?_
  clear hn3
  rintro e u3 ⟨rfl, hrn, hgb⟩
  obtain ⟨hqq, hsv⟩ := num_step HS3.out.2.2 HS3.out.2.1 hrn.neq hgb
  have hset := rec_set (i := 3) (v := .int .i64 (X3 : Int)) hqq (#[.int .i64 (X0 : Int), .int .i64 (X1 : Int), .int .i64 (X2 : Int), .int .i64 (X3 : Int), .bool false]) rfl
  obtain ⟨v3, hv3⟩ : ∃ W, W = put u3 q (.cells #[.int .i64 (X0 : Int), .int .i64 (X1 : Int), .int .i64 (X2 : Int), .int .i64 (X3 : Int), .bool false] 25 (0, 0)) := ⟨_, rfl⟩
  rw [← hv3] at hset
  have HS4 : Hid (RdrNe v3 110 g E4 l4 q ∧ v3.heap[q]? = some (.cells #[.int .i64 (X0 : Int), .int .i64 (X1 : Int), .int .i64 (X2 : Int), .int .i64 (X3 : Int), .bool false] 25 (0, 0)) ∧ Save [q, g] w1 v3) := by
    refine Lib.hid ⟨?_, ?_, ?_⟩
    · rw [hv3]; exact hrn.save ((Save.refl _ _).put (by simp) _)
    · rw [hv3]; exact put_same hqq
    · rw [hv3]; exact hsv.put (by simp) _
  have c3 : u3.cell? ⟨q, 3, none⟩ = some (.int .i64 0) := by simp [World.cell?, hqq]
  have f3 : u3.frozen? ⟨q, 3, none⟩ = false := frozen0 hqq
  have HSET3 := Lib.hid hset
  clear hrn hgb hqq hsv hset hv3 HS3
  go_upto_region 7 with fail
  rw [HSET3.out]
  clear c3 f3 HSET3
  go_wp2_with fail
  have hn4 := numberNe_any _ g E4 l4 1 q HS4.out.1
  rw [HY4.out] at hn4
  simp only at hn4
  refine hn4.mono ?_
  clear hn4
  rintro e u4 ⟨rfl, hrn, hgb⟩
  obtain ⟨hqq, hsv⟩ := num_step HS4.out.2.2 HS4.out.2.1 hrn.neq hgb
  have hset := rec_set (i := 4) (v := .bool ((X4 : Int) == 1)) hqq (#[.int .i64 (X0 : Int), .int .i64 (X1 : Int), .int .i64 (X2 : Int), .int .i64 (X3 : Int), .bool ((X4 : Int) == 1)]) rfl
  obtain ⟨v4, hv4⟩ : ∃ W, W = put u4 q (.cells #[.int .i64 (X0 : Int), .int .i64 (X1 : Int), .int .i64 (X2 : Int), .int .i64 (X3 : Int), .bool ((X4 : Int) == 1)] 25 (0, 0)) := ⟨_, rfl⟩
  rw [← hv4] at hset
  have HS5 : Hid (RdrNe v4 110 g E5 l5 q ∧ v4.heap[q]? = some (.cells #[.int .i64 (X0 : Int), .int .i64 (X1 : Int), .int .i64 (X2 : Int), .int .i64 (X3 : Int), .bool ((X4 : Int) == 1)] 25 (0, 0)) ∧ Save [q, g] w1 v4) := by
    refine Lib.hid ⟨?_, ?_, ?_⟩
    · rw [hv4]; exact hrn.save ((Save.refl _ _).put (by simp) _)
    · rw [hv4]; exact put_same hqq
    · rw [hv4]; exact hsv.put (by simp) _
  have c4 : u4.cell? ⟨q, 4, none⟩ = some (.bool false) := by simp [World.cell?, hqq]
  have f4 : u4.frozen? ⟨q, 4, none⟩ = false := frozen0 hqq
  have HSET4 := Lib.hid hset
  clear hrn hgb hqq hsv hset hv4 HS4
  go_upto_region 8 with fail
  rw [HSET4.out]
  clear c4 f4 HSET4
  have HF : Hid (∀ m : Nat, Below w.heap.size w (v4.drewN m)) := Lib.hid fun m => (HB1.out.trans (HS5.out.2.2.below (B := w.heap.size) HB1.out.size (by intro k hk; simp at hk; have := HW.out.2; have := HG.out; omega))).trans ⟨rfl, rfl, rfl, Nat.le_refl _, fun _ _ => rfl⟩
  obtain ⟨c0, c1, c2, c3, c4⟩ := five_cells HS5.out.2.1
  have HE : Hid (∀ m : Nat, Calls Try.prog 50 #[.pointer (some ⟨g, 0, none⟩)] (v4.drewN m) fun e w' => e = .returned (.int .i64 (rEnd E5 l5 : Int)) ∧ v4.drewN m = w') := Lib.hid fun m => end_any (v4.drewN m) g E5 l5 (HS5.out.1.save (Save.refl [q] v4 |>.drewN m)).rdr
  obtain ⟨Z, hZ⟩ : ∃ Z, Z = rEnd E5 l5 := ⟨_, rfl⟩
  rw [← hZ] at HE HLR
  clear hZ HS5
  go_quiet ((go_at_call 50; refine (HE.out _).mono ?_; rintro e w' ⟨rfl, rfl⟩; exact ⟨rfl, _, rfl⟩))
  have hz : ((Z : Int) == 0) = R.isSome := by
    rw [HLR.out]
    by_cases h : Z = 0
    · simp [h]
    · simp only [if_neg h]; simp; omega
  rw [hz]
  have HFV : Hid (R.isSome = true → ∀ W, SgV W (.iface 25 (.agg #[.int .i64 (X0 : Int), .int .i64 (X1 : Int), .int .i64 (X2 : Int), .int .i64 (X3 : Int), .bool ((X4 : Int) == 1)])) R) := by
    refine Lib.hid fun hs W => ?_
    by_cases h : Z = 0
    · have := HLR.out
      rw [if_pos h] at this
      rw [this]; rfl
    · have := HLR.out
      rw [if_neg h] at this
      rw [this] at hs
      cases hs
  clear hz
  go_wp2
  go_ret2
  exact ⟨HF.out nq, _, rfl, (fun hs => HFV.out hs _), SgLo.agg _ _⟩

theorem pcv {v : Value} {a : Option Addr} {n c : Nat} (h : v = .slice a n c) : v = .slice a n c := h

set_option maxHeartbeats 1000000 in
set_option maxRecDepth 100000 in
/-- What is sealed comes to a block, or to none. -/
theorem sparse_any (a : Option Addr) (n c : Nat) (l : List Nat) (w : World) (h : Rd w a n l) (hn : n ≤ 1000000) (hc : n ≤ c) :
    Calls Try.prog 22 #[.slice a n c] w fun e w' => Below w.heap.size w w' ∧ ∃ v, e = .returned (.tuple #[v, .bool (sgOf l).isSome]) ∧ ((sgOf l).isSome = true → SgV w' v (sgOf l)) ∧ ∀ lo, (∀ b o f, a = some ⟨b, o, f⟩ → lo ≤ b) → SgLo lo v := by
  cases l with
  | nil =>
    have h0 : n = 0 := by have := h.1; simp at this; omega
    subst h0
    clear h
    go_enter Try.func22, Try.ntmps22
    go_wp2
    go_ret2
    exact ⟨Below.refl _ _, _, rfl, (fun h => by cases h), fun _ _ => SgLo.nil _⟩
  | cons k r =>
    have hn1 : 1 ≤ n := by have := h.1; simp at this; omega
    obtain ⟨bb, oo, rfl, hcell⟩ := h.2.2 hn1
    have hc0 : w.cell? ⟨bb, oo, none⟩ = some (.int .u8 (k : Int)) := hcell 0 hn1
    have hn0 : ((n : Int) == 0) = false := by simp; omega
    have hs := fun W => slice_from (some ⟨bb, oo, none⟩) n c 1 .i64 hn1 W
    obtain ⟨A1, hA1⟩ : ∃ A1, A1 = cutA (some ⟨bb, oo, none⟩) c 1 := ⟨_, rfl⟩
    have HLO : Hid (∀ lo, (∀ b o f, some (⟨bb, oo, none⟩ : Addr) = some ⟨b, o, f⟩ → lo ≤ b) → SgLo lo (.iface 32 (.slice A1 (n - 1) (c - 1)))) := by
      refine Lib.hid fun lo hl T' a' n' c' b o f h ha => ?_
      injection h with _ h
      injection h with h _ _
      rw [← h, hA1] at ha
      unfold cutA at ha
      split at ha
      · exact hl b o f ha
      · simp only [Option.map_some, add_plain] at ha
        injection ha with ha
        injection ha with e1 e2 e3
        exact hl b oo none (by rw [← e1])
    rw [← hA1] at hs
    have hr1 : Rd w A1 (n - 1) r := by rw [hA1]; have := h.cut (k := 1) (c := c) (by omega) hc; simpa using this
    have hcut1 : (if c = 1 then some (⟨bb, oo, none⟩ : Addr) else some ⟨bb, oo + 1, none⟩) = A1 := by rw [hA1]; simp [cutA, Addr.add]
    have HR1 := Lib.hid hr1
    have HCC : Hid (n - 1 ≤ c - 1) := Lib.hid (by omega)
    have HN1 : Hid (n - 1 ≤ 1000000) := Lib.hid (by omega)
    clear hA1 hr1 h hcell hn hc
    by_cases h72 : k = 72
    · subst h72
      have hh := parseHead_any A1 (n - 1) (c - 1) r w HR1.out HN1.out
      have he : sgOf (72 :: r) = hdOf r := by simp [sgOf]
      rw [← he] at hh
      obtain ⟨R, hR⟩ : ∃ R, R = sgOf (72 :: r) := ⟨_, rfl⟩
      rw [← hR] at hh ⊢
      have HH := Lib.hid hh
      clear hh he hR
      go_enter Try.func22, Try.ntmps22
      go_wp2_with fail
      refine HH.out.mono ?_
      rintro e w1 ⟨hb, v, rfl, hv, hlo⟩
      go_wp2
      go_ret2
      exact ⟨hb, v, rfl, hv, fun lo _ => hlo lo⟩
    by_cases h84 : k = 84
    · subst h84
      have hh := parseEnd_any A1 (n - 1) (c - 1) r w HR1.out HN1.out
      have he : sgOf (84 :: r) = tlOf r := by simp [sgOf]
      rw [← he] at hh
      obtain ⟨R, hR⟩ : ∃ R, R = sgOf (84 :: r) := ⟨_, rfl⟩
      rw [← hR] at hh ⊢
      have HH := Lib.hid hh
      clear hh he hR h72
      go_enter Try.func22, Try.ntmps22
      go_wp2_with fail
      refine HH.out.mono ?_
      rintro e w1 ⟨hb, v, rfl, hv, hlo⟩
      go_wp2
      go_ret2
      exact ⟨hb, v, rfl, hv, fun lo _ => hlo lo⟩
    by_cases h68 : k = 68
    · subst h68
      have hI := fun W => isData_any A1 (n - 1) (c - 1) W
      have hl : r.length = n - 1 := HR1.out.1
      have he : sgOf (68 :: r) = if 1 ≤ n - 1 ∧ n - 1 ≤ 160 then some (.data r) else none := by simp [sgOf, dtOf, hl]
      have hb : (decide (1 ≤ n - 1) && decide (n - 1 ≤ 160)) = (sgOf (68 :: r)).isSome := by
        rw [he]
        by_cases hx : 1 ≤ n - 1 ∧ n - 1 ≤ 160
        · rw [if_pos hx]; simpa using hx
        · rw [if_neg hx]; simp; omega
      rw [hb] at hI
      have HV : Hid ((sgOf (68 :: r)).isSome = true → ∀ W, Below w.heap.size w W → SgV W (.iface 32 (.slice A1 (n - 1) (c - 1))) (sgOf (68 :: r))) := by
        refine Lib.hid fun hs W hW => ?_
        by_cases hx : 1 ≤ n - 1 ∧ n - 1 ≤ 160
        · rw [he, if_pos hx]
          exact ⟨A1, n - 1, c - 1, rfl, HR1.out.later hW, HCC.out⟩
        · rw [he, if_neg hx] at hs
          cases hs
      obtain ⟨R, hR⟩ : ∃ R, R = sgOf (68 :: r) := ⟨_, rfl⟩
      rw [← hR] at hI HV ⊢
      have HI := Lib.hid hI
      clear hI he hb hR h72 h84 hl
      go_enter Try.func22, Try.ntmps22
      go_wp2_with fail
      refine (HI.out _).mono ?_
      rintro e w1 ⟨rfl, rfl⟩
      go_wp2
      go_ret2
      exact ⟨Below.refl _ _, _, rfl, (fun hs => HV.out hs _ (Below.refl _ _)), HLO.out⟩
    · have k1 : ((k : Int) == 72) = false := by simp; omega
      have k2 : ((k : Int) == 84) = false := by simp; omega
      have k3 : ((k : Int) == 68) = false := by simp; omega
      have he : sgOf (k :: r) = none := by simp [sgOf, h72, h84, h68]
      rw [he]
      clear he h72 h84 h68
      go_enter Try.func22, Try.ntmps22
      go_wp2
      go_ret2
      exact ⟨Below.refl _ _, _, rfl, (fun h => by cases h), fun _ _ => SgLo.nil _⟩

end Go.Proofs.Ytkfnjekeegebaaa
