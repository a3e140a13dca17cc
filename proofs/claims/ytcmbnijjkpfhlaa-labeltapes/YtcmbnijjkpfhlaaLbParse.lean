/- What is sealed comes to a label, or to none: parse's contract, over any world. -/
import Derived.Test.YtcmbnijjkpfhlaaLbRight
import Derived.Test.YtcmbnijjkpfhlaaGVRdrNe
import Derived.Test.YtcmbnijjkpfhlaaPow
import Derived.Test.YtcmbnijjkpfhlaaOrders
import Derived.Test.YtcmbnijjkpfhlaaReadyC
import Derived.BigRegion
import Derived.Handy
import Derived.Deep.DeepCutAuto
import Derived.Deep.CutBlock
import Derived.Deep.RegionHeld3
namespace Go.Proofs.Ytcmbnijjkpfhlaa
open Go.RowKit
set_option linter.unusedSimpArgs false

theorem strB_none : strB [] = ⟨#[]⟩ := rfl

theorem wrap_i64 {m : Nat} (h : m ≤ 9223372036854775807) : IntKind.i64.wrap (m : Int) = m := by rw [IntKind.wrap_i64]; omega

theorem set_putted {w : World} {q i : Nat} {o : Obj} {cs : Array Value} {T : TypeId} {fr : Nat × Nat} {u : Value} (h : w.heap[q]? = some o) : (put w q (.cells cs T fr)).setCell ⟨q, i, none⟩ u = put w q (.cells (cs.setIfInBounds i u) T fr) := by
  rw [set_put u (put_same h), put_put]

/-- A label's cells laid one by one. -/
theorem lab_put {w : World} {q : Nat} {u0 u1 u2 v0 v1 v2 : Value} {T : TypeId} (h : w.heap[q]? = some (.cells #[u0, u1, u2] T (0, 0))) :
    (((w.setCell ⟨q, 0, none⟩ v0).setCell ⟨q, 1, none⟩ v1).setCell ⟨q, 2, none⟩ v2) = put w q (.cells #[v0, v1, v2] T (0, 0)) := by
  rw [set_put _ h, set_putted h, set_putted h]
  simp

theorem num_step {w0 w w' : World} {q g : Nat} {o : Obj} (hs : Save [q, g] w0 w) (hq : w.heap[q]? = some o) (hne : g ≠ q) (hg : w.grownBy w' (some g)) : w'.heap[q]? = some o ∧ Save [q, g] w0 w' := by
  refine ⟨(hg.block q (lt_of_block hq) (by intro e; injection e with e; exact hne e.symm)).trans hq, hs.trans ⟨hg.os, hg.tape, hg.output, hg.size, fun k hk hx => hg.block k hk ?_⟩⟩
  intro e
  injection e with e
  subst e
  exact hx (by simp)

theorem rec_set {w : World} {q i : Nat} {cs : Array Value} {v : Value} {T : TypeId} (h : w.heap[q]? = some (.cells cs T (0, 0))) (cs' : Array Value) (he : cs.setIfInBounds i v = cs') : w.setCell ⟨q, i, none⟩ v = put w q (.cells cs' T (0, 0)) := by
  rw [set_put _ h, he]

theorem RdrNe.neq {w : World} {T g E q : Nat} {l : List Nat} (h : RdrNe w T g E l q) : g ≠ q := by
  obtain ⟨_, _, _, _, _, _, _, h, _⟩ := h
  exact h

theorem labOf_other {k : Nat} {r : List Nat} (h : k ≠ 76) : labOf (k :: r) = (lab0, false) := by simp [labOf, h]

theorem labOf_L (r : List Nat) : labOf (76 :: r) = ((labRd r).1, decide (rEnd (labRd r).2.1 (labRd r).2.2 = 0) && (labRd r).1.ok) := by simp [labOf]

set_option maxHeartbeats 1000000 in
set_option maxRecDepth 100000 in
theorem parse_none (a : Option Addr) (cap : Nat) (w : World) :
    Calls Try.prog 33 #[.slice a 0 cap] w fun e w' => e = .returned (.tuple #[.agg #[.string ⟨#[]⟩, .int .i64 0, .int .i64 0], .bool false]) ∧ Below w.heap.size w w' := by
  go_enter Try.func33, Try.ntmps33
  go_wp2
  refine bodyPost_ret (v := .tuple #[.agg #[.string ⟨#[]⟩, .int .i64 0, .int .i64 0], .bool false]) (by simp [results, Try.results33, go_sem]; try rfl) rfl ?_
  exact ⟨rfl, Below.alloc0 _ _⟩

set_option maxHeartbeats 1000000 in
set_option maxRecDepth 100000 in
theorem parse_other (bb oo n cap k : Nat) (r : List Nat) (w : World) (h : Rd w (some ⟨bb, oo, none⟩) n (k :: r)) (hk : k ≠ 76) :
    Calls Try.prog 33 #[.slice (some ⟨bb, oo, none⟩) n cap] w fun e w' => e = .returned (.tuple #[.agg #[.string ⟨#[]⟩, .int .i64 0, .int .i64 0], .bool false]) ∧ Below w.heap.size w w' := by
  have hn1 : 1 ≤ n := by have := h.1; simp at this; omega
  have hc0 : ∀ ob, (w.alloc ob).cell? ⟨bb, oo, none⟩ = some (.int .u8 (k : Int)) := by
    intro ob
    obtain ⟨b', o', he, hcell⟩ := h.2.2 hn1
    injection he with he
    injection he with e1 e2
    subst e1 e2
    exact Lib.cell?_alloc_some _ (hcell 0 hn1)
  have hk9 : ((k : Int) != 76) = true := by simp; omega
  have hn0 : ((n : Int) == 0) = false := by simp; omega
  clear h hk
  go_enter Try.func33, Try.ntmps33
  go_wp2
  refine bodyPost_ret (v := .tuple #[.agg #[.string ⟨#[]⟩, .int .i64 0, .int .i64 0], .bool false]) (by simp [results, Try.results33, go_sem]; try rfl) rfl ?_
  exact ⟨rfl, Below.alloc0 _ _⟩

set_option maxHeartbeats 4000000 in
set_option maxRecDepth 100000 in
theorem parse_L (bb oo n cap : Nat) (r : List Nat) (w : World) (h : Rd w (some ⟨bb, oo, none⟩) n (76 :: r)) (hn : n ≤ 1000000) (hc : n ≤ cap) :
    Calls Try.prog 33 #[.slice (some ⟨bb, oo, none⟩) n cap] w fun e w' => e = .returned (.tuple #[lbV (labRd r).1, .bool (decide (rEnd (labRd r).2.1 (labRd r).2.2 = 0) && (labRd r).1.ok)]) ∧ Below w.heap.size w w' := by
  have HLR : Hid (labRd r = (⟨(rByt 0 r 8).1, ((rNum (rByt 0 r 8).2.1 (rByt 0 r 8).2.2 1073741824).1 : Nat), ((rNum (rNum (rByt 0 r 8).2.1 (rByt 0 r 8).2.2 1073741824).2.1 (rNum (rByt 0 r 8).2.1 (rByt 0 r 8).2.2 1073741824).2.2 1073741824).1 : Nat)⟩, (rNum (rNum (rByt 0 r 8).2.1 (rByt 0 r 8).2.2 1073741824).2.1 (rNum (rByt 0 r 8).2.1 (rByt 0 r 8).2.2 1073741824).2.2 1073741824).2.1, (rNum (rNum (rByt 0 r 8).2.1 (rByt 0 r 8).2.2 1073741824).2.1 (rNum (rByt 0 r 8).2.1 (rByt 0 r 8).2.2 1073741824).2.2 1073741824).2.2)) := Lib.hid rfl
  obtain ⟨LR, hLR⟩ : ∃ LR, LR = labRd r := ⟨_, rfl⟩
  rw [← hLR] at HLR ⊢
  clear hLR
  have hn1 : 1 ≤ n := by have := h.1; simp at this; omega
  have hc0 : ∀ ob, (w.alloc ob).cell? ⟨bb, oo, none⟩ = some (.int .u8 76) := by
    intro ob
    obtain ⟨b', o', he, hcell⟩ := h.2.2 hn1
    injection he with he
    injection he with e1 e2
    subst e1 e2
    exact Lib.cell?_alloc_some _ (hcell 0 hn1)
  have hn0 : ((n : Int) == 0) = false := by simp; omega
  have hs := fun W => slice_from (some ⟨bb, oo, none⟩) n cap 1 .i64 hn1 W
  obtain ⟨A1, hA1⟩ : ∃ A1, A1 = cutA (some ⟨bb, oo, none⟩) cap 1 := ⟨_, rfl⟩
  rw [← hA1] at hs
  have hr1 : Rd w A1 (n - 1) r := by rw [hA1]; have := h.cut (k := 1) (c := cap) (by omega) hc; simpa using this
  have HR1 := Lib.hid hr1
  have HBY : Hid (∀ z ∈ r, z < 256) := Lib.hid hr1.2.1
  have hcut1 : (if cap = 1 then some (⟨bb, oo, none⟩ : Addr) else some ⟨bb, oo + 1, none⟩) = A1 := by rw [hA1]; simp [cutA, Addr.add]
  clear hA1 hr1 h hc
  obtain ⟨p, hp⟩ : ∃ p, p = w.heap.size := ⟨_, rfl⟩
  obtain ⟨w1, hw1⟩ : ∃ w1, w1 = (w.alloc (.cells #[.string ⟨#[]⟩, .int .i64 0, .int .i64 0] 23)).alloc (.cells #[.string ⟨#[]⟩, .int .i64 0, .int .i64 0] 23) := ⟨_, rfl⟩
  have HW : Hid ((w.alloc (.cells #[.string ⟨#[]⟩, .int .i64 0, .int .i64 0] 23)).alloc (.cells #[.string ⟨#[]⟩, .int .i64 0, .int .i64 0] 23) = w1 ∧ w.heap.size = p) := Lib.hid ⟨hw1.symm, hp.symm⟩
  have hB1 : Below w.heap.size w w1 := by rw [hw1]; exact ((Below.refl _ _).alloc (Nat.le_refl _) _).alloc (by simp) _
  have hsz : w1.heap.size = p + 2 := by rw [hw1, hp]; simp
  have hp1 : w1.heap[p]? = some (.cells #[.string ⟨#[]⟩, .int .i64 0, .int .i64 0] 23 (0, 0)) := by rw [hw1, hp]; exact (heap_alloc_old _ _ (by simp)).trans (heap_alloc_new w _)
  have hq1 : w1.heap[p + 1]? = some (.cells #[.string ⟨#[]⟩, .int .i64 0, .int .i64 0] 23 (0, 0)) := by
    rw [hw1, hp]
    have e := heap_alloc_new (w.alloc (.cells #[.string ⟨#[]⟩, .int .i64 0, .int .i64 0] 23)) (.cells #[.string ⟨#[]⟩, .int .i64 0, .int .i64 0] 23)
    rw [World.size_alloc] at e
    exact e
  have HB1 := Lib.hid hB1
  have HP1 := Lib.hid hp1
  have HQ1 := Lib.hid hq1
  have HSZ := Lib.hid hsz
  clear hw1 hp hB1 hsz hp1 hq1
  go_enter Try.func33, Try.ntmps33
  go_upto_region 4 with fail
  change Code.wp _ _ _ _ ((w.alloc (.cells #[.string ⟨#[]⟩, .int .i64 0, .int .i64 0] 23)).alloc (.cells #[.string ⟨#[]⟩, .int .i64 0, .int .i64 0] 23))
  rw [HW.out.1, HW.out.2]
  clear hc0
  go_wp2_with fail
  refine (openLo_any A1 (n - 1) (cap - 1) r w1 ?hr (by omega)).mono ?_
  case hr => exact HR1.out.later HB1.out
  rintro e w2 ⟨g, rfl, hlo, hb2⟩
  have HRN := Lib.hid (hlo.ne (B := p + 1) (by have := HSZ.out; omega))
  have HGP : Hid (p + 2 ≤ g) := Lib.hid (by obtain ⟨_, _, _, _, _, _, _, h, _⟩ := hlo; have := HSZ.out; omega)
  have HB2 := Lib.hid hb2
  have HQ2 := Lib.hid ((hb2.block (p + 1) (by have := HSZ.out; omega)).trans HQ1.out)
  have HP2 := Lib.hid ((hb2.block p (by have := HSZ.out; omega)).trans HP1.out)
  clear hlo hb2
  have hc1 := bytesNe_any w2 g 0 r 8 8 (p + 1) (.inl rfl) (by omega) HRN.out
  have hby := rByt_byte 0 r 8 HBY.out
  have hml := rByt_max 0 r 8
  obtain ⟨X1, hX1⟩ : ∃ X, X = rByt 0 r 8 := ⟨_, rfl⟩
  rw [← hX1] at hc1 HLR hby hml
  clear hX1
  obtain ⟨pl, E1, l1⟩ := X1
  simp only at hc1 HLR hby hml
  have HPL := Lib.hid (And.intro hby hml)
  have HC1 := Lib.hid hc1
  clear hc1 hby hml
  go_wp2_with fail
  refine HC1.out.mono ?_
  rintro e u1 ⟨aS, nS, cS, rfl, hcS, hrS, hr1, hg1⟩
  obtain ⟨hq1, hs1⟩ := num_step (Save.refl [p + 1, g] w2) HQ2.out HRN.out.neq hg1
  have hcv := fun c => conv_rd hrS c
  obtain ⟨s, hss⟩ : ∃ s, s = strB pl := ⟨_, rfl⟩
  rw [← hss] at hcv
  have HSS := Lib.hid hss
  have hset1 := rec_set (i := 0) (v := .string s) hq1 #[.string s, .int .i64 0, .int .i64 0] rfl
  obtain ⟨w3, hw3⟩ : ∃ w', w' = u1.setCell ⟨p + 1, 0, none⟩ (.string s) := ⟨_, rfl⟩
  have HWE1 := Lib.hid hw3.symm
  rw [hset1] at hw3
  have HQ3 : Hid (w3.heap[p + 1]? = some (.cells #[.string s, .int .i64 0, .int .i64 0] 23 (0, 0))) := Lib.hid (by rw [hw3]; exact put_same hq1)
  have HN1 : Hid (RdrNe w3 125 g E1 l1 (p + 1)) := Lib.hid (by rw [hw3]; exact hr1.save ((Save.refl _ _).put (by simp) _))
  have HS1 : Hid (Save [p + 1, g] w2 w3) := Lib.hid (by rw [hw3]; exact hs1.put (by simp) _)
  have x1 : u1.cell? ⟨p + 1, 0, none⟩ = some (.string ⟨#[]⟩) := by simp [World.cell?, hq1]
  have y1 : u1.frozen? ⟨p + 1, 0, none⟩ = false := by simp [World.frozen?, hq1]
  clear hq1 hs1 hr1 hg1 hw3 hset1 hss hrS
  have hc2 := numberNe_any w3 g E1 l1 1073741824 (p + 1) HN1.out
  have hle1 := rNum_le E1 l1 1073741824
  obtain ⟨X2, hX2⟩ : ∃ X, X = rNum E1 l1 1073741824 := ⟨_, rfl⟩
  rw [← hX2] at hc2 HLR hle1
  clear hX2
  obtain ⟨g1, E2, l2⟩ := X2
  simp only at hc2 HLR hle1
  have HC2 := Lib.hid hc2
  clear hc2
  have hwr1 := wrap_i64 (m := g1) (by omega)
  go_wp2_with fail
  rw [HWE1.out]
  refine HC2.out.mono ?_
  rintro e u2 ⟨rfl, hr2, hg2⟩
  obtain ⟨hq2, hs2⟩ := num_step HS1.out HQ3.out HRN.out.neq hg2
  have hset2 := rec_set (i := 1) (v := .int .i64 (g1 : Int)) hq2 #[.string s, .int .i64 (g1 : Int), .int .i64 0] rfl
  obtain ⟨w4, hw4⟩ : ∃ w', w' = u2.setCell ⟨p + 1, 1, none⟩ (.int .i64 (g1 : Int)) := ⟨_, rfl⟩
  have HWE2 := Lib.hid hw4.symm
  rw [hset2] at hw4
  have HQ4 : Hid (w4.heap[p + 1]? = some (.cells #[.string s, .int .i64 (g1 : Int), .int .i64 0] 23 (0, 0))) := Lib.hid (by rw [hw4]; exact put_same hq2)
  have HN2 : Hid (RdrNe w4 125 g E2 l2 (p + 1)) := Lib.hid (by rw [hw4]; exact hr2.save ((Save.refl _ _).put (by simp) _))
  have HS2 : Hid (Save [p + 1, g] w2 w4) := Lib.hid (by rw [hw4]; exact hs2.put (by simp) _)
  have x2 : u2.cell? ⟨p + 1, 1, none⟩ = some (.int .i64 0) := by simp [World.cell?, hq2]
  have y2 : u2.frozen? ⟨p + 1, 1, none⟩ = false := by simp [World.frozen?, hq2]
  clear hq2 hs2 hr2 hg2 hw4 hset2
  have hc3 := numberNe_any w4 g E2 l2 1073741824 (p + 1) HN2.out
  have hle2 := rNum_le E2 l2 1073741824
  obtain ⟨X3, hX3⟩ : ∃ X, X = rNum E2 l2 1073741824 := ⟨_, rfl⟩
  rw [← hX3] at hc3 HLR hle2
  clear hX3
  obtain ⟨m1, E3, l3⟩ := X3
  simp only at hc3 HLR hle2
  have HC3 := Lib.hid hc3
  clear hc3
  have hwr2 := wrap_i64 (m := m1) (by omega)
  go_wp2_with fail
  rw [HWE2.out]
  refine HC3.out.mono ?_
  rintro e u3 ⟨rfl, hr3, hg3⟩
  obtain ⟨hq3, hs3⟩ := num_step HS2.out HQ4.out HRN.out.neq hg3
  have hset3 := rec_set (i := 2) (v := .int .i64 (m1 : Int)) hq3 #[.string s, .int .i64 (g1 : Int), .int .i64 (m1 : Int)] rfl
  obtain ⟨wc, hw5⟩ : ∃ w', w' = u3.setCell ⟨p + 1, 2, none⟩ (.int .i64 (m1 : Int)) := ⟨_, rfl⟩
  have HWE3 := Lib.hid hw5.symm
  rw [hset3] at hw5
  have HQ5 : Hid (wc.heap[p + 1]? = some (.cells #[.string s, .int .i64 (g1 : Int), .int .i64 (m1 : Int)] 23 (0, 0))) := Lib.hid (by rw [hw5]; exact put_same hq3)
  have HN3 : Hid (RdrNe wc 125 g E3 l3 (p + 1)) := Lib.hid (by rw [hw5]; exact hr3.save ((Save.refl _ _).put (by simp) _))
  have HS3 : Hid (Save [p + 1, g] w2 wc) := Lib.hid (by rw [hw5]; exact hs3.put (by simp) _)
  have x3 : u3.cell? ⟨p + 1, 2, none⟩ = some (.int .i64 0) := by simp [World.cell?, hq3]
  have y3 : u3.frozen? ⟨p + 1, 2, none⟩ = false := by simp [World.frozen?, hq3]
  clear hq3 hs3 hr3 hg3 hw5 hset3
  have HPS : Hid (LR = ((⟨pl, (g1 : Nat), (m1 : Nat)⟩ : Lab), E3, l3)) := HLR
  have HCQ := HQ5
  have HCN := HN3
  have HCS := HS3
  have HK : Hid (∀ W, Below wc.heap.size wc W → W.cell? ⟨(p + 1), 0, none⟩ = some (.string s) ∧ W.cell? ⟨(p + 1), 1, none⟩ = some (.int .i64 (g1 : Int)) ∧ W.cell? ⟨(p + 1), 2, none⟩ = some (.int .i64 (m1 : Int))) := by
    refine Lib.hid fun W hW => ?_
    have hx := (hW.block (p + 1) (lt_of_block HCQ.out)).trans HCQ.out
    exact lab_cells hx
  have HQW : Hid (∀ W, Below wc.heap.size wc W → W.heap[p + 1]? = some (.cells #[.string s, .int .i64 (g1 : Int), .int .i64 (m1 : Int)] 23 (0, 0))) :=
    Lib.hid fun W hW => (hW.block (p + 1) (lt_of_block HCQ.out)).trans HCQ.out
  have HPW : Hid (∀ W, Below wc.heap.size wc W → W.heap[p]? = some (.cells #[.string ⟨#[]⟩, .int .i64 0, .int .i64 0] 23 (0, 0))) := by
    refine Lib.hid fun W hW => ?_
    have h1 := (HCS.out.block p (lt_of_block HP2.out) (by have := HGP.out; simp; omega)).trans HP2.out
    exact (hW.block p (lt_of_block h1)).trans h1
  have HV : Hid (∀ W, Below wc.heap.size wc W → Calls Try.prog 11 #[.agg #[.string s, .int .i64 (g1 : Int), .int .i64 (m1 : Int)]] W fun e w' => e = .returned (.bool (Lab.ok ⟨pl, g1, m1⟩)) ∧ Hid (Below wc.heap.size wc w')) := by
    refine Lib.hid fun W hW => ?_
    have hv := right_any ⟨pl, g1, m1⟩ W HPL.out.1 (by have := HPL.out.2; simp only; omega)
    simp only [lbV, ← HSS.out] at hv
    refine hv.mono ?_
    rintro e w' ⟨rfl, hb⟩
    exact ⟨rfl, Lib.hid (hW.trans (hb.mono hW.size))⟩
  have HE : Hid (∀ W, Below wc.heap.size wc W → Calls Try.prog 61 #[.pointer (some ⟨g, 0, none⟩)] W fun e w' => e = .returned (.int .i64 (rEnd E3 l3 : Int)) ∧ W = w') :=
    Lib.hid fun W hW => end_any W g E3 l3 (HCN.out.later hW).rdr
  have HFIN : Hid (∀ W o, Below wc.heap.size wc W → Below w.heap.size w (put W p o)) := by
    refine Lib.hid fun W o hW => ?_
    have h1 : Below w.heap.size w w2 := HB1.out.trans (HB2.out.mono HB1.out.size)
    have h2 : Below w.heap.size w2 wc := HCS.out.below h1.size (by have := HGP.out; have := HW.out.2; simp; omega)
    have h3 := h1.trans (h2.trans (hW.mono (Nat.le_trans h1.size h2.size)))
    exact h3.trans (put_below o (by rw [HW.out.2]; exact Nat.le_refl _))
  have HLV : Hid (lbV LR.1 = .agg #[.string s, .int .i64 (g1 : Int), .int .i64 (m1 : Int)]) := Lib.hid (by rw [HPS.out, HSS.out]; rfl)
  have HPE : Hid ((decide (rEnd LR.2.1 LR.2.2 = 0) && LR.1.ok) = (decide (rEnd E3 l3 = 0) && Lab.ok ⟨pl, g1, m1⟩)) := Lib.hid (by rw [HPS.out])
  obtain ⟨R, hR⟩ : ∃ R, R = rEnd E3 l3 := ⟨_, rfl⟩
  obtain ⟨V, hV⟩ : ∃ V, V = Lab.ok ⟨pl, g1, m1⟩ := ⟨_, rfl⟩
  rw [← hR] at HE HPE
  rw [← hV] at HV HPE
  clear hR hV
  go_upto_region 8 with fail
  rw [HWE3.out]
  clear hs hn0 hcut1 x1 x2 x3 y1 y2 y3 hle1 hle2 hcv
  have H : Hid (Below wc.heap.size wc wc.drew) := Lib.hid (Below.refl _ _).drew
  by_cases hR0 : R = 0
  · subst hR0
    refine wp_region_held_drew (S := fun W => W.cell? ⟨(p + 1), 0, none⟩ = some (.string s) ∧ W.cell? ⟨(p + 1), 1, none⟩ = some (.int .i64 (g1 : Int)) ∧ W.cell? ⟨(p + 1), 2, none⟩ = some (.int .i64 (m1 : Int))) (by kernel_rfl) (HK.out _ H.out) (fun _ => ?_)
    obtain ⟨w5, hw5⟩ : ∃ w5, w5 = wc.drew := ⟨_, rfl⟩
    rw [← hw5] at H ⊢
    clear hw5
    refine wpAnyH_take (i := 0) (v := ?vx0) rfl (by kernel_rfl) (by kernel_rfl) (by kernel_rfl) (fun _ _ _ h => h) (Or.inl ⟨by rfl, ?hx0⟩) (HK.out _ H.out) ?rx0
    case hx0 => (intro W hW; (try dsimp only at hW); go_simp; try with_reducible rfl)
    simp only [Act.put, List.getElem_toArray, List.getElem_cons_succ, List.getElem_cons_zero, List.setIfInBounds_toArray, List.set_cons_zero, List.set_cons_succ]
    refine wpAnyH_take (i := 1) (v := ?vx1) rfl (by kernel_rfl) (by kernel_rfl) (by kernel_rfl) (fun _ _ _ h => h) (Or.inl ⟨by rfl, ?hx1⟩) (HK.out _ H.out) ?rx1
    case hx1 => (intro W hW; (try dsimp only at hW); go_simp; try with_reducible rfl)
    simp only [Act.put, List.getElem_toArray, List.getElem_cons_succ, List.getElem_cons_zero, List.setIfInBounds_toArray, List.set_cons_zero, List.set_cons_succ]
    refine wpAnyH_ready (rs := [2]) (by kernel_rfl) (by simp) ?_
    refine AllReadyH.cons rfl (fun K hK => ?_) AllReadyH.nil
    refine ready_call (f := 61) (vs := #[.pointer (some ⟨g, 0, none⟩)]) (by rfl) (by (go_simp; try with_reducible rfl)) ?_
    refine (HE.out _ H.out).mono ?_
    rintro e w6 ⟨rfl, hw6⟩
    rw [← hw6]
    clear hw6 w6
    refine ⟨_, rfl, hK.out _ _ (HK.out _ H.out) (fun _ => ?_)⟩
    clear hK K
    simp only [Act.put, List.getElem_toArray, List.getElem_cons_succ, List.getElem_cons_zero, List.setIfInBounds_toArray, List.set_cons_zero, List.set_cons_succ]
    refine wpAnyH_take (i := 3) (v := ?vx3) rfl (by kernel_rfl) (by kernel_rfl) (by kernel_rfl) (fun _ _ _ h => h) (Or.inl ⟨by rfl, ?hx3⟩) (HK.out _ H.out) ?rx3
    case hx3 => (intro W hW; (try dsimp only at hW); go_simp; try with_reducible rfl)
    simp only [Act.put, List.getElem_toArray, List.getElem_cons_succ, List.getElem_cons_zero, List.setIfInBounds_toArray, List.set_cons_zero, List.set_cons_succ]
    refine wpAnyH_take (i := 4) (v := ?vx4) rfl (by kernel_rfl) (by kernel_rfl) (by kernel_rfl) (fun _ _ _ h => h) (Or.inl ⟨by rfl, ?hx4⟩) (HK.out _ H.out) ?rx4
    case hx4 => (intro W hW; (try dsimp only at hW); go_simp; try with_reducible rfl)
    simp only [Act.put, List.getElem_toArray, List.getElem_cons_succ, List.getElem_cons_zero, List.setIfInBounds_toArray, List.set_cons_zero, List.set_cons_succ]
    refine wpAnyH_take (i := 5) (v := ?vx5) rfl (by kernel_rfl) (by kernel_rfl) (by kernel_rfl) (fun _ _ _ h => h) (Or.inl ⟨by rfl, ?hx5⟩) (HK.out _ H.out) ?rx5
    case hx5 => (intro W hW; (try dsimp only at hW); go_simp; try with_reducible rfl)
    simp only [Act.put, List.getElem_toArray, List.getElem_cons_succ, List.getElem_cons_zero, List.setIfInBounds_toArray, List.set_cons_zero, List.set_cons_succ]
    refine wpAnyH_ready (rs := [6]) (by kernel_rfl) (by simp) ?_
    refine AllReadyH.cons rfl (fun K hK => ?_) AllReadyH.nil
    refine ready_call (f := 11) (vs := #[.agg #[.string s, .int .i64 (g1 : Int), .int .i64 (m1 : Int)]]) (by rfl) (by (go_simp; try with_reducible rfl)) ?_
    refine (HV.out _ H.out).mono ?_
    rintro e w7 ⟨rfl, H7⟩
    refine ⟨_, rfl, hK.out _ _ (HK.out _ H7.out) (fun _ => ?_)⟩
    clear hK K
    simp only [Act.put, List.getElem_toArray, List.getElem_cons_succ, List.getElem_cons_zero, List.setIfInBounds_toArray, List.set_cons_zero, List.set_cons_succ]
    refine wpAnyH_take (i := 7) (v := ?vx7) rfl (by kernel_rfl) (by kernel_rfl) (by kernel_rfl) (fun _ _ _ h => h) (Or.inl ⟨by rfl, ?hx7⟩) (HK.out _ H7.out) ?rx7
    case hx7 => (intro W hW; (try dsimp only at hW); go_simp; try with_reducible rfl)
    simp only [Act.put, List.getElem_toArray, List.getElem_cons_succ, List.getElem_cons_zero, List.setIfInBounds_toArray, List.set_cons_zero, List.set_cons_succ]
    have hpw := HPW.out _ H7.out
    obtain ⟨z0, z1, z2⟩ := lab_cells hpw
    obtain ⟨y0, y1, y2⟩ := lab_frozen hpw
    have hput := lab_put (v0 := .string s) (v1 := .int .i64 (g1 : Int)) (v2 := .int .i64 (m1 : Int)) hpw
    have HPUT := Lib.hid hput
    have HPW2 := Lib.hid hpw
    clear hput hpw
    refine wpAnyH_ready (rs := [8]) (by kernel_rfl) (by simp) ?_
    refine AllReadyH.cons rfl (fun K hK => ?_) AllReadyH.nil
    refine ready_skp (w' := put w7 p (.cells #[.string s, .int .i64 (g1 : Int), .int .i64 (m1 : Int)] 23 (0, 0))) (by rfl) (by rw [← HPUT.out]; (go_simp; try with_reducible rfl)) ?_
    refine hK.out _ _ ?hS (fun _ => ?_)
    case hS => exact lab_cells ((put_other (by omega)).trans (HQW.out _ H7.out))
    clear hK K
    simp only [Act.put, List.getElem_toArray, List.getElem_cons_succ, List.getElem_cons_zero, List.setIfInBounds_toArray, List.set_cons_zero, List.set_cons_succ]
    clear z0 z1 z2 y0 y1 y2
    refine wpAnyH_take (i := 9) (v := ?vx9) rfl (by kernel_rfl) (by kernel_rfl) (by kernel_rfl) (fun _ _ _ h => h) (Or.inl ⟨by rfl, ?hx9⟩) (lab_cells ((put_other (by omega)).trans (HQW.out _ H7.out))) ?rx9
    case hx9 => (intro W hW; (try dsimp only at hW); go_simp; try with_reducible rfl)
    simp only [Act.put, List.getElem_toArray, List.getElem_cons_succ, List.getElem_cons_zero, List.setIfInBounds_toArray, List.set_cons_zero, List.set_cons_succ]
    refine wpAnyH_done (by kernel_rfl) ?_ _
    have HFF := HFIN.out _ (.cells #[.string s, .int .i64 (g1 : Int), .int .i64 (m1 : Int)] 23 (0, 0)) H7.out
    have hp9 := put_same (o := (.cells #[.string s, .int .i64 (g1 : Int), .int .i64 (m1 : Int)] 23 (0, 0))) HPW2.out
    generalize put w7 p (.cells #[.string s, .int .i64 (g1 : Int), .int .i64 (m1 : Int)] 23 (0, 0)) = w9 at HFF hp9 ⊢
    have HF9 := Lib.hid HFF
    clear HFF
    obtain ⟨d0, d1, d2⟩ := lab_cells hp9
    go_wp2
    refine bodyPost_ret (v := .tuple #[.agg #[.string s, .int .i64 (g1 : Int), .int .i64 (m1 : Int)], .bool V]) (by simp [results, Try.results33, go_sem, d0, d1, d2]; try rfl) rfl ?_
    rw [HLV.out, HPE.out]
    exact ⟨by simp, HF9.out⟩
  · have hR1 : ((R : Int) == 0) = false := by simp; omega
    refine wp_region_held_drew (S := fun W => W.cell? ⟨(p + 1), 0, none⟩ = some (.string s) ∧ W.cell? ⟨(p + 1), 1, none⟩ = some (.int .i64 (g1 : Int)) ∧ W.cell? ⟨(p + 1), 2, none⟩ = some (.int .i64 (m1 : Int))) (by kernel_rfl) (HK.out _ H.out) (fun _ => ?_)
    obtain ⟨w5, hw5⟩ : ∃ w5, w5 = wc.drew := ⟨_, rfl⟩
    rw [← hw5] at H ⊢
    clear hw5
    refine wpAnyH_take (i := 0) (v := ?vy0) rfl (by kernel_rfl) (by kernel_rfl) (by kernel_rfl) (fun _ _ _ h => h) (Or.inl ⟨by rfl, ?hy0⟩) (HK.out _ H.out) ?ry0
    case hy0 => (intro W hW; (try dsimp only at hW); go_simp; try with_reducible rfl)
    simp only [Act.put, List.getElem_toArray, List.getElem_cons_succ, List.getElem_cons_zero, List.setIfInBounds_toArray, List.set_cons_zero, List.set_cons_succ]
    refine wpAnyH_take (i := 1) (v := ?vy1) rfl (by kernel_rfl) (by kernel_rfl) (by kernel_rfl) (fun _ _ _ h => h) (Or.inl ⟨by rfl, ?hy1⟩) (HK.out _ H.out) ?ry1
    case hy1 => (intro W hW; (try dsimp only at hW); go_simp; try with_reducible rfl)
    simp only [Act.put, List.getElem_toArray, List.getElem_cons_succ, List.getElem_cons_zero, List.setIfInBounds_toArray, List.set_cons_zero, List.set_cons_succ]
    refine wpAnyH_ready (rs := [2]) (by kernel_rfl) (by simp) ?_
    refine AllReadyH.cons rfl (fun K hK => ?_) AllReadyH.nil
    refine ready_call (f := 61) (vs := #[.pointer (some ⟨g, 0, none⟩)]) (by rfl) (by (go_simp; try with_reducible rfl)) ?_
    refine (HE.out _ H.out).mono ?_
    rintro e w6 ⟨rfl, hw6⟩
    rw [← hw6]
    clear hw6 w6
    refine ⟨_, rfl, hK.out _ _ (HK.out _ H.out) (fun _ => ?_)⟩
    clear hK K
    simp only [Act.put, List.getElem_toArray, List.getElem_cons_succ, List.getElem_cons_zero, List.setIfInBounds_toArray, List.set_cons_zero, List.set_cons_succ]
    refine wpAnyH_take (i := 3) (v := ?vy3) rfl (by kernel_rfl) (by kernel_rfl) (by kernel_rfl) (fun _ _ _ h => h) (Or.inl ⟨by rfl, ?hy3⟩) (HK.out _ H.out) ?ry3
    case hy3 => (intro W hW; (try dsimp only at hW); go_simp; try with_reducible rfl)
    simp only [Act.put, List.getElem_toArray, List.getElem_cons_succ, List.getElem_cons_zero, List.setIfInBounds_toArray, List.set_cons_zero, List.set_cons_succ]
    refine wpAnyH_take (i := 4) (v := ?vy4) rfl (by kernel_rfl) (by kernel_rfl) (by kernel_rfl) (fun _ _ _ h => h) (Or.inl ⟨by rfl, ?hy4⟩) (HK.out _ H.out) ?ry4
    case hy4 => (intro W hW; (try dsimp only at hW); go_simp; try with_reducible rfl)
    simp only [Act.put, List.getElem_toArray, List.getElem_cons_succ, List.getElem_cons_zero, List.setIfInBounds_toArray, List.set_cons_zero, List.set_cons_succ]
    refine wpAnyH_take (i := 5) (v := undef) rfl (by kernel_rfl) (by kernel_rfl) (by kernel_rfl) (fun _ _ _ h => h) (Or.inr ⟨by rfl, rfl⟩) (HK.out _ H.out) ?ry5
    simp only [Act.put, List.getElem_toArray, List.getElem_cons_succ, List.getElem_cons_zero, List.setIfInBounds_toArray, List.set_cons_zero, List.set_cons_succ]
    refine wpAnyH_take (i := 6) (v := undef) rfl (by kernel_rfl) (by kernel_rfl) (by kernel_rfl) (fun _ _ _ h => h) (Or.inr ⟨by rfl, rfl⟩) (HK.out _ H.out) ?ry6
    simp only [Act.put, List.getElem_toArray, List.getElem_cons_succ, List.getElem_cons_zero, List.setIfInBounds_toArray, List.set_cons_zero, List.set_cons_succ]
    refine wpAnyH_take (i := 7) (v := ?vy7) rfl (by kernel_rfl) (by kernel_rfl) (by kernel_rfl) (fun _ _ _ h => h) (Or.inl ⟨by rfl, ?hy7⟩) (HK.out _ H.out) ?ry7
    case hy7 => (intro W hW; (try dsimp only at hW); go_simp; try with_reducible rfl)
    simp only [Act.put, List.getElem_toArray, List.getElem_cons_succ, List.getElem_cons_zero, List.setIfInBounds_toArray, List.set_cons_zero, List.set_cons_succ]
    have hpw := HPW.out _ H.out
    obtain ⟨z0, z1, z2⟩ := lab_cells hpw
    obtain ⟨y0, y1, y2⟩ := lab_frozen hpw
    have hput := lab_put (v0 := .string s) (v1 := .int .i64 (g1 : Int)) (v2 := .int .i64 (m1 : Int)) hpw
    have HPUT := Lib.hid hput
    have HPW2 := Lib.hid hpw
    clear hput hpw
    refine wpAnyH_ready (rs := [8]) (by kernel_rfl) (by simp) ?_
    refine AllReadyH.cons rfl (fun K hK => ?_) AllReadyH.nil
    refine ready_skp (w' := put w5 p (.cells #[.string s, .int .i64 (g1 : Int), .int .i64 (m1 : Int)] 23 (0, 0))) (by rfl) (by rw [← HPUT.out]; (go_simp; try with_reducible rfl)) ?_
    refine hK.out _ _ ?hS (fun _ => ?_)
    case hS => exact lab_cells ((put_other (by omega)).trans (HQW.out _ H.out))
    clear hK K
    simp only [Act.put, List.getElem_toArray, List.getElem_cons_succ, List.getElem_cons_zero, List.setIfInBounds_toArray, List.set_cons_zero, List.set_cons_succ]
    clear z0 z1 z2 y0 y1 y2
    refine wpAnyH_take (i := 9) (v := ?vy9) rfl (by kernel_rfl) (by kernel_rfl) (by kernel_rfl) (fun _ _ _ h => h) (Or.inl ⟨by rfl, ?hy9⟩) (lab_cells ((put_other (by omega)).trans (HQW.out _ H.out))) ?ry9
    case hy9 => (intro W hW; (try dsimp only at hW); go_simp; try with_reducible rfl)
    simp only [Act.put, List.getElem_toArray, List.getElem_cons_succ, List.getElem_cons_zero, List.setIfInBounds_toArray, List.set_cons_zero, List.set_cons_succ]
    refine wpAnyH_done (by kernel_rfl) ?_ _
    have HFF := HFIN.out _ (.cells #[.string s, .int .i64 (g1 : Int), .int .i64 (m1 : Int)] 23 (0, 0)) H.out
    have hp9 := put_same (o := (.cells #[.string s, .int .i64 (g1 : Int), .int .i64 (m1 : Int)] 23 (0, 0))) HPW2.out
    generalize put w5 p (.cells #[.string s, .int .i64 (g1 : Int), .int .i64 (m1 : Int)] 23 (0, 0)) = w9 at HFF hp9 ⊢
    have HF9 := Lib.hid HFF
    clear HFF
    obtain ⟨d0, d1, d2⟩ := lab_cells hp9
    go_wp2
    refine bodyPost_ret (v := .tuple #[.agg #[.string s, .int .i64 (g1 : Int), .int .i64 (m1 : Int)], .bool false]) (by simp [results, Try.results33, go_sem, d0, d1, d2]; try rfl) rfl ?_
    have e0 : decide (R = 0) = false := decide_eq_false hR0
    rw [HLV.out, HPE.out, e0]
    exact ⟨by simp, HF9.out⟩

/-- What is sealed comes to a label, or to none. -/
theorem parse_any (a : Option Addr) (n cap : Nat) (l : List Nat) (w : World) (h : Rd w a n l) (hn : n ≤ 1000000) (hc : n ≤ cap) :
    Calls Try.prog 33 #[.slice a n cap] w fun e w' => e = .returned (.tuple #[lbV (labOf l).1, .bool (labOf l).2]) ∧ Below w.heap.size w w' := by
  cases l with
  | nil =>
    have h0 : n = 0 := by have := h.1; simp at this; omega
    subst h0
    exact parse_none a cap w
  | cons k r =>
    have h0 : 0 < n := by have := h.1; simp at this; omega
    obtain ⟨bb, oo, rfl, _⟩ := h.2.2 h0
    by_cases hk : k = 76
    · subst hk
      rw [labOf_L]
      exact parse_L bb oo n cap r w h hn hc
    · rw [labOf_other hk]
      exact parse_other bb oo n cap k r w h hk

end Go.Proofs.Ytcmbnijjkpfhlaa
