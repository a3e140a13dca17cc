/- The label of a block, by the document's own Read; over any world. -/
import Derived.Test.YtcmbnijjkpfhlaaLbRead
import Derived.Test.YtcmbnijjkpfhlaaLbRefOpen
import Derived.Test.YtcmbnijjkpfhlaaGRef
namespace Go.Proofs.Ytcmbnijjkpfhlaa
open Go.RowKit
set_option linter.unusedSimpArgs false

theorem rEnd_zero {E : Nat} {l : List Nat} : rEnd E l = 0 ↔ (E = 0 ∧ l = []) := by
  unfold rEnd
  split
  · rename_i h; simp [h]
  · rename_i h
    have : E = 0 := by omega
    subst this
    split
    · rename_i h2; simp [h2]
    · rename_i h2; simp [h2]

set_option maxHeartbeats 4000000 in
set_option maxRecDepth 100000 in
theorem refRead_any (a : Option Addr) (n c : Nat) (l : List Nat) (w : World) (h : Rd w a n l) (hn : n ≤ 1000000) (hc : n ≤ c) :
    Calls Try.prog 16 #[.slice a n c] w fun e w' => e = .returned (.tuple #[lbV (rdLab l).1, .int .i64 ((rdLab l).2 : Int)]) ∧ Below w.heap.size w w' := by
  obtain ⟨p, hp⟩ : ∃ p, p = w.heap.size := ⟨_, rfl⟩
  obtain ⟨w1, hw1⟩ : ∃ w1, w1 = w.alloc (.cells #[.string ⟨#[]⟩, .int .i64 0, .int .i64 0] 30) := ⟨_, rfl⟩
  have HW : Hid (w.alloc (.cells #[.string ⟨#[]⟩, .int .i64 0, .int .i64 0] 30) = w1 ∧ w.heap.size = p) := Lib.hid ⟨hw1.symm, hp.symm⟩
  have hb1 : Below p w w1 := by rw [hw1, hp]; exact Below.alloc0 _ _
  have hp1 : w1.heap[p]? = some (.cells #[.string ⟨#[]⟩, .int .i64 0, .int .i64 0] 30 (0, 0)) := by rw [hw1, hp]; exact heap_alloc_new w _
  have hr1 : Rd w1 a n l := h.later (by rw [← hp]; exact hb1)
  have HOP := Lib.hid (refOpen_any a n c l w1 hr1 hn hc)
  have HR1 := Lib.hid hr1
  have HLN : Hid (l.length = n) := Lib.hid h.1
  have HQ0 : Hid (rdLab l = if Sealed l then (if (labOf (l.take (l.length - 4))).2 then ((labOf (l.take (l.length - 4))).1, 0) else (lab0, 3)) else (lab0, 4)) := Lib.hid rfl
  obtain ⟨Y, hY⟩ : ∃ Y, Y = rdLab l := ⟨_, rfl⟩
  rw [← hY] at HQ0 ⊢
  have HB1 := Lib.hid hb1
  have HP1 := Lib.hid hp1
  rw [← hp]
  clear hp hw1 hb1 hp1 hY h hr1
  go_enter Try.func16, Try.ntmps16
  go_upto_region 1 with fail
  change Code.wp _ _ _ _ (w.alloc (.cells #[.string ⟨#[]⟩, .int .i64 0, .int .i64 0] 30))
  rw [HW.out.1, HW.out.2]
  go_wp2_with fail
  refine HOP.out.mono ?_
  rintro e w3 ⟨hor, hb3⟩
  have hp3 := (hb3.block p (lt_of_block HP1.out)).trans HP1.out
  have hbz : Below p w w3 := HB1.out.trans (hb3.mono (Nat.le_of_lt (lt_of_block HP1.out)))
  have HB3 := Lib.hid hbz
  have HP3 := Lib.hid hp3
  have HR3 := Lib.hid (HR1.out.later hb3)
  clear hb3 hp3 hbz HR1 HOP
  rcases hor with ⟨hns, rfl⟩ | ⟨hsd, h4, rfl⟩
  · have hY4 : Y = (lab0, 4) := by rw [HQ0.out, if_neg hns]
    subst hY4
    clear hns
    have hpz := HP3.out
    obtain ⟨z0, z1, z2⟩ := lab_cells hpz
    obtain ⟨y0, y1, y2⟩ := lab_frozen hpz
    have hput := lab_put (v0 := .string ⟨#[]⟩) (v1 := .int .i64 0) (v2 := .int .i64 0) hpz
    rw [put_self hpz] at hput
    have HPUT := Lib.hid hput
    clear hput hpz
    go_wp2_with fail
    rw [HPUT.out]
    refine bodyPost_ret (v := .tuple #[.agg #[.string ⟨#[]⟩, .int .i64 0, .int .i64 0], .int .i64 4]) (by simp [results, Try.results16, go_sem, z0, z1, z2]; try rfl) rfl ?_
    exact ⟨by rw [lbV_zero], HB3.out⟩
  · have hY3 : Y = if (labOf (l.take (l.length - 4))).2 then ((labOf (l.take (l.length - 4))).1, 0) else (lab0, 3) := by rw [HQ0.out, if_pos hsd]
    obtain ⟨P, hP⟩ : ∃ P, P = l.take (n - 4) := ⟨_, rfl⟩
    rw [HLN.out, ← hP] at hY3
    have hrP : Rd w3 a (n - 4) P := by rw [hP]; exact HR3.out.first (by omega)
    obtain ⟨n4, hn4⟩ : ∃ n4, n4 = n - 4 := ⟨_, rfl⟩
    rw [← hn4] at hrP ⊢
    have hc4 : n4 ≤ c := by omega
    have hn46 : n4 ≤ 1000000 := by omega
    clear hn4 hP hsd h4 HR3 HLN hc hn HQ0
    cases P with
    | nil =>
      have h0 : n4 = 0 := by have := hrP.1; simp at this; omega
      have hYz : Y = (lab0, 3) := by rw [hY3]; simp [labOf]
      subst hYz h0
      clear hY3 hrP
      have hpz := HP3.out
      obtain ⟨z0, z1, z2⟩ := lab_cells hpz
      obtain ⟨y0, y1, y2⟩ := lab_frozen hpz
      have hput := lab_put (v0 := .string ⟨#[]⟩) (v1 := .int .i64 0) (v2 := .int .i64 0) hpz
      rw [put_self hpz] at hput
      have HPUT := Lib.hid hput
      clear hput hpz
      go_wp2_with fail
      rw [HPUT.out]
      refine bodyPost_ret (v := .tuple #[.agg #[.string ⟨#[]⟩, .int .i64 0, .int .i64 0], .int .i64 3]) (by simp [results, Try.results16, go_sem, z0, z1, z2]; try rfl) rfl ?_
      exact ⟨by rw [lbV_zero], HB3.out⟩
    | cons k r =>
      have h0 : 1 ≤ n4 := by have := hrP.1; simp at this; omega
      obtain ⟨bb, oo, rfl, hcell⟩ := hrP.2.2 h0
      have hn0 : ((n4 : Int) == 0) = false := by simp; omega
      have hck : w3.cell? ⟨bb, oo, none⟩ = some (.int .u8 (k : Int)) := hcell 0 h0
      by_cases hk : k = 76
      · subst hk
        rw [labOf_L] at hY3
        have hs := fun W => slice_from (some ⟨bb, oo, none⟩) n4 c 1 .i64 h0 W
        obtain ⟨A1, hA1⟩ : ∃ A1, A1 = cutA (some ⟨bb, oo, none⟩) c 1 := ⟨_, rfl⟩
        rw [← hA1] at hs
        have hr1 : Rd w3 A1 (n4 - 1) r := by rw [hA1]; have := hrP.cut (k := 1) (c := c) (by omega) hc4; simpa using this
        have hcut1 : (if c = 1 then some (⟨bb, oo, none⟩ : Addr) else some ⟨bb, oo + 1, none⟩) = A1 := by rw [hA1]; simp [cutA, Addr.add]
        have HBY : Hid (∀ z ∈ r, z < 256) := Lib.hid hr1.2.1
        have HR1 := Lib.hid hr1
        have HLR : Hid (labRd r = (⟨(rByt 0 r 8).1, ((rNum (rByt 0 r 8).2.1 (rByt 0 r 8).2.2 1073741824).1 : Nat), ((rNum (rNum (rByt 0 r 8).2.1 (rByt 0 r 8).2.2 1073741824).2.1 (rNum (rByt 0 r 8).2.1 (rByt 0 r 8).2.2 1073741824).2.2 1073741824).1 : Nat)⟩, (rNum (rNum (rByt 0 r 8).2.1 (rByt 0 r 8).2.2 1073741824).2.1 (rNum (rByt 0 r 8).2.1 (rByt 0 r 8).2.2 1073741824).2.2 1073741824).2.1, (rNum (rNum (rByt 0 r 8).2.1 (rByt 0 r 8).2.2 1073741824).2.1 (rNum (rByt 0 r 8).2.1 (rByt 0 r 8).2.2 1073741824).2.2 1073741824).2.2)) := Lib.hid rfl
        obtain ⟨LR, hLR⟩ : ∃ LR, LR = labRd r := ⟨_, rfl⟩
        rw [← hLR] at HLR hY3
        have HY3 := Lib.hid hY3
        clear hA1 hr1 hrP hcell hY3 hLR
        obtain ⟨w4, hw4⟩ : ∃ w4, w4 = w3.alloc (.cells #[.slice A1 (n4 - 1) (c - 1), .int .i64 0] 95) := ⟨_, rfl⟩
        obtain ⟨g, hg⟩ : ∃ g, g = w3.heap.size := ⟨_, rfl⟩
        have HW4 : Hid (w3.alloc (.cells #[.slice A1 (n4 - 1) (c - 1), .int .i64 0] 95) = w4 ∧ w3.heap.size = g) := Lib.hid ⟨hw4.symm, hg.symm⟩
        have hb34 : Below w3.heap.size w3 w4 := by rw [hw4]; exact Below.alloc0 _ _
        have hrd4 : Rdr w4 95 g 0 r := ⟨A1, n4 - 1, c - 1, by rw [hw4, hg]; exact heap_alloc_new w3 _, HR1.out.later hb34, by omega, by omega⟩
        have HB34 := Lib.hid hb34
        have HC1 := refRdrBytes_any w4 g 0 r 8 8 (.inl rfl) (by omega) hrd4
        have hby := rByt_byte 0 r 8 HBY.out
        have hml := rByt_max 0 r 8
        obtain ⟨X1, hX1⟩ : ∃ X, X = rByt 0 r 8 := ⟨_, rfl⟩
        rw [← hX1] at HC1 HLR hby hml
        clear hX1
        obtain ⟨pl, E1, l1⟩ := X1
        simp only at HC1 HLR hby hml
        have HPL := Lib.hid (And.intro hby hml)
        have HC1 := Lib.hid HC1
        clear hw4 hg hb34 hrd4 hby hml
        go_wp2_with fail
        try rw [HW4.out.1]
        try rw [HW4.out.2]
        refine HC1.out.mono ?_
        rintro e u1 ⟨aS, nS, cS, rfl, hcS, hrS, hr1, hg1⟩
        have HHI := Lib.hid hr1.hi
        have hcv := fun c => conv_rd hrS c
        obtain ⟨s, hss⟩ : ∃ s, s = strB pl := ⟨_, rfl⟩
        rw [← hss] at hcv
        have HSS := Lib.hid hss
        have hbu : Below w3.heap.size w3 u1 := ⟨hg1.os.trans HB34.out.os, hg1.tape.trans HB34.out.tape, hg1.output.trans HB34.out.output, Nat.le_trans HB34.out.size hg1.size, fun k hk => (hg1.block k (Nat.lt_of_lt_of_le hk HB34.out.size) (by intro e; injection e with e; have := HW4.out.2; omega)).trans (HB34.out.block k hk)⟩
        have HBU := Lib.hid hbu
        obtain ⟨w5, hw5⟩ : ∃ w5, w5 = u1.alloc (.cells #[.string s, .int .i64 0, .int .i64 0] 30) := ⟨_, rfl⟩
        obtain ⟨q, hq⟩ : ∃ q, q = u1.heap.size := ⟨_, rfl⟩
        have HW5 : Hid (u1.alloc (.cells #[.string s, .int .i64 0, .int .i64 0] 30) = w5 ∧ u1.heap.size = q) := Lib.hid ⟨hw5.symm, hq.symm⟩
        have hb5 : Below u1.heap.size u1 w5 := by rw [hw5]; exact Below.alloc0 _ _
        have HQ5 : Hid (w5.heap[q]? = some (.cells #[.string s, .int .i64 0, .int .i64 0] 30 (0, 0))) := Lib.hid (by rw [hw5, hq]; exact heap_alloc_new u1 _)
        have HN1 : Hid (RdrHi w5 95 g E1 l1 q) := Lib.hid (by rw [hq]; exact HHI.out.below hb5)
        have HS1 : Hid (Below w3.heap.size w3 w5 ∧ w3.heap.size ≤ q) := Lib.hid ⟨hbu.trans (hb5.mono hbu.size), by rw [hq]; exact hbu.size⟩
        clear hbu hw5 hq hb5 hr1 hg1 hrS hss
        have hc2 := refNumberHi_any w5 g E1 l1 1073741824 q HN1.out
        have hle1 := rNum_le E1 l1 1073741824
        obtain ⟨X2, hX2⟩ : ∃ X, X = rNum E1 l1 1073741824 := ⟨_, rfl⟩
        rw [← hX2] at hc2 HLR hle1
        clear hX2
        obtain ⟨g1, E2, l2⟩ := X2
        simp only at hc2 HLR hle1
        have HC2 := Lib.hid hc2
        clear hc2
        have hwr1 := wrap_i64 (m := g1) (by omega)
        go_wp2_with fail
        try rw [HW5.out.1]
        try rw [HW5.out.2]
        refine HC2.out.mono ?_
        rintro e u2 ⟨rfl, hr2, hg2⟩
        have hgq1 : g < q := by obtain ⟨_, _, _, _, _, _, _, h, _⟩ := HN1.out; exact h
        have hq2 := (hg2.block q (lt_of_block HQ5.out) (by intro e; injection e with e; omega)).trans HQ5.out
        have hset2 := rec_set (i := 1) (v := .int .i64 (g1 : Int)) hq2 #[.string s, .int .i64 (g1 : Int), .int .i64 0] rfl
        obtain ⟨w6, hw6⟩ : ∃ w', w' = u2.setCell ⟨q, 1, none⟩ (.int .i64 (g1 : Int)) := ⟨_, rfl⟩
        have HWE1 := Lib.hid hw6.symm
        rw [hset2] at hw6
        have HQ6 : Hid (w6.heap[q]? = some (.cells #[.string s, .int .i64 (g1 : Int), .int .i64 0] 30 (0, 0))) := Lib.hid (by rw [hw6]; exact put_same hq2)
        have HN2 : Hid (RdrHi w6 95 g E2 l2 q) := Lib.hid (by rw [hw6]; exact hr2.below (put_below _ (Nat.le_refl _)))
        have HS2 : Hid (Below w3.heap.size w3 w6 ∧ w3.heap.size ≤ q) := Lib.hid ⟨by
          rw [hw6]
          refine (HS1.out.1.trans ⟨hg2.os, hg2.tape, hg2.output, hg2.size, fun k hk => hg2.block k (Nat.lt_of_lt_of_le hk HS1.out.1.size) (by intro e; injection e with e; have := HW4.out.2; omega)⟩).trans (put_below _ HS1.out.2), HS1.out.2⟩
        have x2 : u2.cell? ⟨q, 1, none⟩ = some (.int .i64 0) := by simp [World.cell?, hq2]
        have y2 : u2.frozen? ⟨q, 1, none⟩ = false := by simp [World.frozen?, hq2]
        clear hq2 hr2 hg2 hw6 hset2 hgq1
        have hc3 := refNumberHi_any w6 g E2 l2 1073741824 q HN2.out
        have hle2 := rNum_le E2 l2 1073741824
        obtain ⟨X3, hX3⟩ : ∃ X, X = rNum E2 l2 1073741824 := ⟨_, rfl⟩
        rw [← hX3] at hc3 HLR hle2
        clear hX3
        obtain ⟨m1, E3, l3⟩ := X3
        simp only at hc3 HLR hle2
        have HC3 := Lib.hid hc3
        clear hc3
        have hwr2 := wrap_i64 (m := m1) (by omega)
        go_wp2_with fail
        rw [HWE1.out]
        refine HC3.out.mono ?_
        rintro e u3 ⟨rfl, hr3, hg3⟩
        have hgq2 : g < q := by obtain ⟨_, _, _, _, _, _, _, h, _⟩ := HN2.out; exact h
        have hq3 := (hg3.block q (lt_of_block HQ6.out) (by intro e; injection e with e; omega)).trans HQ6.out
        have hset3 := rec_set (i := 2) (v := .int .i64 (m1 : Int)) hq3 #[.string s, .int .i64 (g1 : Int), .int .i64 (m1 : Int)] rfl
        obtain ⟨w7, hw7⟩ : ∃ w', w' = u3.setCell ⟨q, 2, none⟩ (.int .i64 (m1 : Int)) := ⟨_, rfl⟩
        have HWE2 := Lib.hid hw7.symm
        rw [hset3] at hw7
        have HQ7 : Hid (w7.heap[q]? = some (.cells #[.string s, .int .i64 (g1 : Int), .int .i64 (m1 : Int)] 30 (0, 0))) := Lib.hid (by rw [hw7]; exact put_same hq3)
        have HN3 : Hid (RdrHi w7 95 g E3 l3 q) := Lib.hid (by rw [hw7]; exact hr3.below (put_below _ (Nat.le_refl _)))
        have HS3 : Hid (Below w3.heap.size w3 w7 ∧ w3.heap.size ≤ q) := Lib.hid ⟨by
          rw [hw7]
          refine (HS2.out.1.trans ⟨hg3.os, hg3.tape, hg3.output, hg3.size, fun k hk => hg3.block k (Nat.lt_of_lt_of_le hk HS2.out.1.size) (by intro e; injection e with e; have := HW4.out.2; omega)⟩).trans (put_below _ HS2.out.2), HS2.out.2⟩
        have x3 : u3.cell? ⟨q, 2, none⟩ = some (.int .i64 0) := by simp [World.cell?, hq3]
        have y3 : u3.frozen? ⟨q, 2, none⟩ = false := by simp [World.frozen?, hq3]
        clear hq3 hr3 hg3 hw7 hset3 hgq2
        have HV : Hid (∀ W, Calls Try.prog 9 #[.agg #[.string s, .int .i64 (g1 : Int), .int .i64 (m1 : Int)]] W fun e w' => e = .returned (.bool (Lab.ok ⟨pl, g1, m1⟩)) ∧ Hid (Below W.heap.size W w')) := by
          refine Lib.hid fun W => ?_
          have hv := refRight_any ⟨pl, g1, m1⟩ W HPL.out.1 (by have := HPL.out.2; simp only; omega)
          simp only [lbV, ← HSS.out] at hv
          refine hv.mono ?_
          rintro e w' ⟨rfl, hb⟩
          exact ⟨rfl, Lib.hid hb⟩
        have HYY : Hid (Y = if (decide (rEnd E3 l3 = 0) && Lab.ok ⟨pl, g1, m1⟩) then (⟨pl, g1, m1⟩, 0) else (lab0, 3)) := Lib.hid (by rw [HY3.out, HLR.out])
        have HLV : Hid (lbV ⟨pl, g1, m1⟩ = .agg #[.string s, .int .i64 (g1 : Int), .int .i64 (m1 : Int)]) := Lib.hid (by rw [HSS.out]; rfl)
        obtain ⟨V, hV⟩ : ∃ V, V = Lab.ok ⟨pl, g1, m1⟩ := ⟨_, rfl⟩
        obtain ⟨XL, hXL⟩ : ∃ XL : Lab, XL = ⟨pl, g1, m1⟩ := ⟨_, rfl⟩
        rw [← hV] at HV HYY
        rw [← hXL] at HYY HLV
        clear hV hXL HY3 HLR
        go_upto_region 10 with fail
        rw [HWE2.out]
        obtain ⟨e0, e1, e2⟩ := lab_cells HQ7.out
        go_wp2_with fail
        refine (HV.out _).mono ?_
        rintro e w8 ⟨rfl, hb8⟩
        have HB8 := Lib.hid hb8.out
        have HS8 : Hid (Below w3.heap.size w3 w8) := Lib.hid (HS3.out.1.trans (hb8.out.mono HS3.out.1.size))
        have hq8 := (hb8.out.block q (lt_of_block HQ7.out)).trans HQ7.out
        have hp8 := (HS8.out.block p (lt_of_block HP3.out)).trans HP3.out
        have hbb8 : Below p w w8 := HB3.out.trans (HS8.out.mono (Nat.le_of_lt (lt_of_block HP3.out)))
        obtain ⟨aR, nR, cR, hgR, hrR, _, _, _, _⟩ := HN3.out
        have hg8 := (hb8.out.block g (lt_of_block hgR)).trans hgR
        have r0 : w8.cell? ⟨g, 0, none⟩ = some (.slice aR nR cR) := by simp [World.cell?, hg8]
        have r1 : w8.cell? ⟨g, 1, none⟩ = some (.int .i64 (E3 : Int)) := by simp [World.cell?, hg8]
        have HNR : Hid (l3.length = nR) := Lib.hid hrR.1
        have HQ8 := Lib.hid hq8
        have HP8 := Lib.hid hp8
        have HBB := Lib.hid hbb8
        clear hb8 hq8 hp8 hbb8 hgR hrR hg8 e0 e1 e2 x2 x3 y2 y3 hs hcut1 hcv hck hn0 hle1 hle2
        by_cases hE : E3 = 0
        · subst hE
          by_cases hN : nR = 0
          · subst hN
            have hl3 : l3 = [] := List.eq_nil_of_length_eq_zero HNR.out
            subst hl3
            cases V with
            | false =>
              have hYz : Y = (lab0, 3) := by rw [HYY.out]; simp
              subst hYz
              have hpz := HP8.out
              obtain ⟨z0, z1, z2⟩ := lab_cells hpz
              obtain ⟨y0, y1, y2⟩ := lab_frozen hpz
              have hput := lab_put (v0 := .string ⟨#[]⟩) (v1 := .int .i64 0) (v2 := .int .i64 0) hpz
              rw [put_self hpz] at hput
              have HPUT := Lib.hid hput
              clear hput hpz
              go_wp2_with fail
              rw [HPUT.out]
              refine bodyPost_ret (v := .tuple #[.agg #[.string ⟨#[]⟩, .int .i64 0, .int .i64 0], .int .i64 3]) (by simp [results, Try.results16, go_sem, z0, z1, z2]; try rfl) rfl ?_
              exact ⟨by rw [lbV_zero], HBB.out⟩
            | true =>
              have hYz : Y = (XL, 0) := by rw [HYY.out]; simp [rEnd]
              subst hYz
              obtain ⟨e0, e1, e2⟩ := lab_cells HQ8.out
              obtain ⟨z0, z1, z2⟩ := lab_cells HP8.out
              obtain ⟨y0, y1, y2⟩ := lab_frozen HP8.out
              have hput := lab_put (v0 := .string s) (v1 := .int .i64 (g1 : Int)) (v2 := .int .i64 (m1 : Int)) HP8.out
              have HPUT := Lib.hid hput
              clear hput
              go_wp2_with fail
              rw [HPUT.out]
              clear z0 z1 z2 y0 y1 y2 e0 e1 e2
              have hp9 := put_same (o := .cells #[.string s, .int .i64 (g1 : Int), .int .i64 (m1 : Int)] 30) HP8.out
              have hbl9 : Below p w8 (put w8 p (.cells #[.string s, .int .i64 (g1 : Int), .int .i64 (m1 : Int)] 30)) := put_below _ (Nat.le_refl _)
              generalize put w8 p (.cells #[.string s, .int .i64 (g1 : Int), .int .i64 (m1 : Int)] 30) = w9 at hp9 hbl9 ⊢
              have HF9 : Hid (Below p w w9) := Lib.hid (HBB.out.trans hbl9)
              clear hbl9
              obtain ⟨d0, d1, d2⟩ := lab_cells hp9
              refine bodyPost_ret (v := .tuple #[.agg #[.string s, .int .i64 (g1 : Int), .int .i64 (m1 : Int)], .int .i64 0]) (by simp [results, Try.results16, go_sem, d0, d1, d2]; try rfl) rfl ?_
              exact ⟨by simp only [HLV.out], HF9.out⟩
          · have hN1 : (0 : Int) < (nR : Int) := by omega
            have hYz : Y = (lab0, 3) := by
              rw [HYY.out]
              have : rEnd 0 l3 ≠ 0 := fun h => by have h2 := (rEnd_zero.1 h).2; have := HNR.out; rw [h2] at this; simp at this; omega
              simp [this]
            subst hYz
            clear hN
            have hpz := HP8.out
            obtain ⟨z0, z1, z2⟩ := lab_cells hpz
            obtain ⟨y0, y1, y2⟩ := lab_frozen hpz
            have hput := lab_put (v0 := .string ⟨#[]⟩) (v1 := .int .i64 0) (v2 := .int .i64 0) hpz
            rw [put_self hpz] at hput
            have HPUT := Lib.hid hput
            clear hput hpz
            go_wp2_with fail
            rw [HPUT.out]
            refine bodyPost_ret (v := .tuple #[.agg #[.string ⟨#[]⟩, .int .i64 0, .int .i64 0], .int .i64 3]) (by simp [results, Try.results16, go_sem, z0, z1, z2]; try rfl) rfl ?_
            exact ⟨by rw [lbV_zero], HBB.out⟩
        · have hE1 : ((E3 : Int) != 0) = true := by simp; omega
          have hYz : Y = (lab0, 3) := by
            rw [HYY.out]
            have : rEnd E3 l3 ≠ 0 := fun h => hE (rEnd_zero.1 h).1
            simp [this]
          subst hYz
          clear hE
          have hpz := HP8.out
          obtain ⟨z0, z1, z2⟩ := lab_cells hpz
          obtain ⟨y0, y1, y2⟩ := lab_frozen hpz
          have hput := lab_put (v0 := .string ⟨#[]⟩) (v1 := .int .i64 0) (v2 := .int .i64 0) hpz
          rw [put_self hpz] at hput
          have HPUT := Lib.hid hput
          clear hput hpz
          go_wp2_with fail
          rw [HPUT.out]
          refine bodyPost_ret (v := .tuple #[.agg #[.string ⟨#[]⟩, .int .i64 0, .int .i64 0], .int .i64 3]) (by simp [results, Try.results16, go_sem, z0, z1, z2]; try rfl) rfl ?_
          exact ⟨by rw [lbV_zero], HBB.out⟩
      · have hk9 : ((k : Int) != 76) = true := by simp; omega
        have hYz : Y = (lab0, 3) := by rw [hY3, labOf_other hk]; rfl
        subst hYz
        clear hY3 hrP hk hcell
        have hpz := HP3.out
        obtain ⟨z0, z1, z2⟩ := lab_cells hpz
        obtain ⟨y0, y1, y2⟩ := lab_frozen hpz
        have hput := lab_put (v0 := .string ⟨#[]⟩) (v1 := .int .i64 0) (v2 := .int .i64 0) hpz
        rw [put_self hpz] at hput
        have HPUT := Lib.hid hput
        clear hput hpz
        go_wp2_with fail
        rw [HPUT.out]
        refine bodyPost_ret (v := .tuple #[.agg #[.string ⟨#[]⟩, .int .i64 0, .int .i64 0], .int .i64 3]) (by simp [results, Try.results16, go_sem, z0, z1, z2]; try rfl) rfl ?_
        exact ⟨by rw [lbV_zero], HB3.out⟩

end Go.Proofs.Ytcmbnijjkpfhlaa
