/- The document's reading of a stream: the contract of its Whole, over any world. -/
import Derived.Test.YtaijldcfoaeogaaGreatGRrRowToRrHead
import Derived.Test.YtaijldcfoaeogaaGreatRrRead
import Derived.Test.YtaijldcfoaeogaaGreatDRef
import Derived.Test.YtaijldcfoaeogaaGreatGRcLawToSmWhole
namespace Go.Proofs.YtaijldcfoaeogaaGreat
open Go.RowKit
set_option maxRecDepth 100000
set_option linter.unusedSimpArgs false

set_option maxHeartbeats 8000000 in
set_option maxRecDepth 100000 in
theorem rwhole_any (w : World) (a : Option Addr) (n c : Nat) (b : List Nat) (h : Rd w a n b) (hn : n ≤ 1000000) (hc : n ≤ c) :
    Calls Tryz.prog 14 #[.slice a n c] w fun e w' => Below w.heap.size w w' ∧ (((strm b).2 ≠ 0 ∧ e = .returned (.tuple #[.slice none 0 0, .int .i64 ((strm b).2 : Int)])) ∨
      ((strm b).2 = 0 ∧ ∃ (a' : Option Addr) (c' : Nat), e = .returned (.tuple #[.slice a' (strm b).1.length c', .int .i64 0]) ∧ (strm b).1.length ≤ c' ∧ RdP w' a' (strm b).1.length (strm b).1)) := by
  obtain ⟨w1, hw1⟩ : ∃ w1, w1 = w.alloc (.cells #[.slice a n c, .int .i64 0] 95) := ⟨_, rfl⟩
  obtain ⟨g, hg⟩ : ∃ g, g = w.heap.size := ⟨_, rfl⟩
  have HW : Hid (w.alloc (.cells #[.slice a n c, .int .i64 0] 95) = w1 ∧ w.heap.size = g) := Lib.hid ⟨hw1.symm, hg.symm⟩
  have hb1 : Below g w w1 := by rw [hw1, hg]; exact Below.alloc0 _ _
  have hs1 : w1.heap.size = g + 1 := by rw [hw1, hg]; simp
  have hx1 : w1.heap[g]? = some (.cells #[.slice a n c, .int .i64 0] 95 (0, 0)) := by rw [hw1, hg]; exact heap_alloc_new w _
  have hr1 : Rd w1 a n b := h.later (by rw [← hg]; exact hb1)
  have hrd : Rdr w1 95 g 0 b := ⟨a, n, c, hx1, hr1, hc, hn⟩
  have hhi := hrd.hi
  rw [hs1] at hhi
  have HR1 := Lib.hid hhi
  have HB1 := Lib.hid hb1
  have HBY := Lib.hid h.2.1
  have HRB : Hid (∀ W, Below g w W → Rd W a n b) := Lib.hid fun W hW => h.later (by rw [← hg]; exact hW)
  have HBL : Hid (b.length = n) := Lib.hid h.1
  obtain ⟨X, hX⟩ : ∃ X, X = strm b := ⟨_, rfl⟩
  rw [← hX, ← hg]
  have HX : Hid (X = whl b (b.length + 1) b []) := Lib.hid hX
  clear hw1 hg hb1 hs1 hx1 hr1 hrd hhi hX h
  go_enter Tryz.func14, Tryz.ntmps14
  go_upto_region 2 with fail
  try change Code.wp _ _ _ _ (w.alloc (.cells #[.slice a n c, .int .i64 0] 95))
  rw [HW.out.1]
  try rw [HW.out.2]
  go_wp2_with fail
  go_loopg [5] (b.length + 1) (fun k s5 wr => ∃ (k0 : Nat) (v : Value) (P l' : List Nat) (xs : List Rec), k = k0 + 1 ∧ v = s5 ∧ Hid (b = P ++ l' ∧ l'.length ≤ k0 ∧ whl b (k0 + 1) l' xs = X) ∧ Hid (RdrHi wr 95 g 0 l' (g + 1)) ∧ Hid (OwnP wr (g + 1) v xs ∧ xs.length ≤ P.length) ∧ Hid (Below g w wr ∧ g + 1 ≤ wr.heap.size))
  case atStart => exact ⟨_, _, [], b, [], rfl, rfl, Lib.hid ⟨rfl, Nat.le_refl _, HX.out.symm⟩, HR1, Lib.hid ⟨OwnP.nil _ _, Nat.le_refl _⟩, Lib.hid ⟨HB1.out, by obtain ⟨_, _, _, hg, _⟩ := HR1.out.rdr; exact lt_of_block hg⟩⟩
  case round =>
    obtain ⟨k0, v, P, l', xs, rfl, rfl, HI, HRD, HST, HBW⟩ := hrel
    obtain ⟨a1, n1, c1, hg1, hr1, _, _⟩ := HRD.out.rdr
    have h0 : wr.cell? ⟨g, 0, none⟩ = some (.slice a1 n1 c1) := by simp [World.cell?, hg1]
    have hbl : b.length = P.length + l'.length := by have := congrArg List.length HI.out.1; simpa using this
    have hnn : n1 ≤ n := by have := hr1.1; have := HBL.out; omega
    have HAT : Hid ((n : Int) - (n1 : Int) = ((P.length : Nat) : Int) ∧ P.length ≤ n) := Lib.hid (by have := hr1.1; have := HBL.out; omega)
    have hrr := rfreadHi_any wr g 0 l' (g + 1) HRD.out HBW.out.2
    have hinv := rdRec_inv (l := l') (fun z hz => HBY.out z (by rw [HI.out.1]; simp [hz]))
    have hwl := HI.out.2.2
    simp only [whl] at hwl
    have he1 : (rdRec 0 l').2 = 0 → (rByt 0 l' 200).2.1 = 0 := fun h => by
      by_cases h1 : (rByt 0 l' 200).2.1 = 0
      · exact h1
      · unfold rdRec at h
        rw [if_pos h1] at h
        exact absurd h h1
    obtain ⟨Y, hY⟩ : ∃ Y, Y = rdRec 0 l' := ⟨_, rfl⟩
    obtain ⟨E1, hE1⟩ : ∃ E1, E1 = (rByt 0 l' 200).2.1 := ⟨_, rfl⟩
    obtain ⟨l2, hl2⟩ : ∃ l2, l2 = (rByt 0 l' 200).2.2 := ⟨_, rfl⟩
    rw [← hY, ← hE1, ← hl2] at hrr
    rw [← hY, ← hl2] at hinv hwl
    rw [← hY, ← hE1] at he1
    obtain ⟨⟨k, i, bb, f, t, lb, cc, dn, ds⟩, E⟩ := Y
    simp only [pcV] at hrr hinv hwl he1
    have HE1 := Lib.hid he1
    have HRR := Lib.hid hrr
    have HIN := Lib.hid hinv
    have HWL := Lib.hid hwl
    have HP := Lib.hid hbl
    clear hrr hinv hwl hY hE1 hl2 he1 hg1 hr1 hbl
    go_upto_region 4 with fail
    rw [HAT.out.1]
    obtain ⟨pl, hpl⟩ : ∃ pl, pl = P.length := ⟨_, rfl⟩
    rw [← hpl]
    have HPL := Lib.hid hpl
    clear h0 hnn hpl
    go_wp2_with fail
    refine HRR.out.mono ?_
    rintro e w2 ⟨rfl, HX1⟩
    obtain ⟨q, hq⟩ : ∃ q, q = w2.heap.size := ⟨_, rfl⟩
    obtain ⟨w3, hw3⟩ : ∃ w3, w3 = w2.alloc (.cells #[.int .u8 (k : Int), .int .i64 i, .int .i64 bb, .int .i64 f, .int .i64 t, .string (strB lb), .int .i64 cc, .int .u64 (dn : Int), .int .u64 (ds : Int)] 50) := ⟨_, rfl⟩
    have HW3 : Hid (w2.alloc (.cells #[.int .u8 (k : Int), .int .i64 i, .int .i64 bb, .int .i64 f, .int .i64 t, .string (strB lb), .int .i64 cc, .int .u64 (dn : Int), .int .u64 (ds : Int)] 50) = w3 ∧ w2.heap.size = q) := Lib.hid ⟨hw3.symm, hq.symm⟩
    have HB3 : Hid (Below w2.heap.size w2 w3 ∧ w2.heap.size < w3.heap.size) := Lib.hid ⟨by rw [hw3]; exact Below.alloc0 _ _, by rw [hw3]; simp⟩
    have HQ3 : Hid (w3.heap[q]? = some (.cells #[.int .u8 (k : Int), .int .i64 i, .int .i64 bb, .int .i64 f, .int .i64 t, .string (strB lb), .int .i64 cc, .int .u64 (dn : Int), .int .u64 (ds : Int)] 50 (0, 0))) := Lib.hid (by rw [hw3, hq]; exact heap_alloc_new w2 _)
    have HBW3 : Hid (Below g w w3 ∧ g + 1 < w3.heap.size) := Lib.hid (by
      have h1 := HX1.out.1
      have h2 := HBW.out
      have h3 := HB3.out
      have h4 : Below g wr w2 := h1.below (by omega) (by simp)
      exact ⟨h2.1.trans (h4.trans (h3.1.mono (by have := h1.size; omega))), by have := h1.size; omega⟩)
    have HST3 : Hid (OwnP w3 (g + 1) v xs) := Lib.hid (owns_same HST.out.1 fun z hz => by
      obtain ⟨h9, cs, h8⟩ := owns_block HST.out.1 hz
      have h7 := lt_of_block h8
      exact (HB3.out.1.block z (Nat.lt_of_lt_of_le h7 HX1.out.1.size)).trans (HX1.out.1.block z h7 (by simp; omega)))
    have HRD3 : Hid (RdrHi w3 95 g E1 l2 (g + 1)) := Lib.hid (HX1.out.2.below (HB3.out.1.mono (by have := HBW.out.2; have := HX1.out.1.size; omega)))
    clear hq hw3
    go_upto_region 5 with fail
    try change Code.wp _ _ _ _ (w2.alloc (.cells #[.int .u8 (k : Int), .int .i64 i, .int .i64 bb, .int .i64 f, .int .i64 t, .string (strB lb), .int .i64 cc, .int .u64 (dn : Int), .int .u64 (ds : Int)] 50))
    rw [HW3.out.1]
    try rw [HW3.out.2]
    by_cases hE : E = 0
    · subst hE
      obtain ⟨hok, hl'⟩ := HIN.out rfl
      have hwl := HWL.out
      rw [if_neg (by simp)] at hwl
      have HOK : Hid (Rec.ok ⟨k, i, bb, f, t, lb, cc, dn, ds⟩ = true) := Lib.hid hok
      have HL2 := Lib.hid hl'
      have e10 := HE1.out rfl
      subst e10
      have HWL := Lib.hid hwl
      obtain ⟨q0, q1, q2, q3, q4, q5, q6, q7, q8⟩ := rec_cells HQ3.out
      have hsl : v = v := rfl
      obtain ⟨av, cv, hvs⟩ := owns_shape HST3.out
      clear hok hl' HIN hwl HE1 hsl
      by_cases hbad : (xs = [] ∧ k ≠ 1) ∨ (xs ≠ [] ∧ k = 1)
      · have hwl := HWL.out
        rw [if_pos hbad] at hwl
        have HWL := Lib.hid hwl
        clear hwl
        subst hvs
        rcases hbad with ⟨hx, hk⟩ | ⟨hx, hk⟩
        · have b1 : ((xs.length : Int) == 0) = true := by simp [hx]
          have b2 : ((k : Int) != 1) = true := by simp; omega
          go_wp2
          go_ret2
          have e := HWL.out
          subst e
          exact ⟨HBW3.out.1, .inl ⟨by simp, rfl⟩⟩
        · have b1 : ((xs.length : Int) == 0) = false := by cases xs <;> simp at hx ⊢; omega
          have b2 : ((k : Int) == 1) = true := by simp; omega
          have b3 : (0 : Int) < (xs.length : Int) := by have := List.length_pos_iff.2 hx; omega
          go_wp2
          go_ret2
          have e := HWL.out
          subst e
          exact ⟨HBW3.out.1, .inl ⟨by simp, rfl⟩⟩
      · have hwl := HWL.out
        rw [if_neg hbad] at hwl
        have HWL := Lib.hid hwl
        clear hwl
        have hgood : (((xs.length : Int) == 0) = true ∧ ((k : Int) != 1) = false ∧ ¬ ((0 : Int) < (xs.length : Int))) ∨ (((xs.length : Int) == 0) = false ∧ ((k : Int) == 1) = false ∧ ((0 : Int) < (xs.length : Int))) := by
          rcases Decidable.em (xs = []) with h1 | h1
          · have h2 : k = 1 := by
              rcases Decidable.em (k = 1) with h2 | h2
              · exact h2
              · exact absurd (.inl ⟨h1, h2⟩) hbad
            exact .inl ⟨by simp [h1], by simp [h2], by simp [h1]⟩
          · have h2 : k ≠ 1 := fun h2 => hbad (.inr ⟨h1, h2⟩)
            have h3 := List.length_pos_iff.2 h1
            exact .inr ⟨by simp [h1], by simp; omega, by omega⟩
        clear hbad
        subst hvs
        rcases hgood with ⟨b1, b2, b3⟩ | ⟨b1, b2, b3⟩
        all_goals
          go_upto_region 9 with fail
          clear b1 b2 b3
          by_cases hk4 : k = 4
          · have hk4' : ((k : Int) != 4) = false := by simp; omega
            have hwl := HWL.out
            rw [if_neg (by simp [hk4])] at hwl
            have e1 : b.length - l'.length = pl := by have := HP.out; have := HPL.out; omega
            have e2 : b.take pl = P := by rw [HPL.out, HI.out.1]; simp
            rw [e1, e2] at hwl
            have HWL := Lib.hid hwl
            have hst := fun W => slice_to a n c pl .i64 (by have := HAT.out.2; have := HPL.out; omega) W
            have hrp : Rd w3 a pl P := by
              have h9 := (HRB.out w3 HBW3.out.1).first (k := pl) (by have := HAT.out.2; have := HPL.out; omega)
              rw [e2] at h9
              exact h9
            have HDG := Lib.hid (refDig_any a pl c P w3 hrp (by have := HAT.out.2; have := HPL.out; omega))
            obtain ⟨pd, hpd⟩ : ∃ pd, pd = dSum P := ⟨_, rfl⟩
            rw [← hpd] at HDG
            have HPD := Lib.hid hpd
            clear hwl e1 e2 hrp hpd
            go_wp2_with fail
            refine HDG.out.mono ?_
            rintro e w4 ⟨rfl, nq, hw4⟩
            have hq4 : w4.heap[q]? = some (.cells #[.int .u8 (k : Int), .int .i64 i, .int .i64 bb, .int .i64 f, .int .i64 t, .string (strB lb), .int .i64 cc, .int .u64 (dn : Int), .int .u64 (ds : Int)] 50 (0, 0)) := by rw [hw4]; exact HQ3.out
            obtain ⟨q0, q1, q2, q3, q4, q5, q6, q7, q8⟩ := rec_cells hq4
            have HB4 : Hid (Below g w w4) := Lib.hid (by rw [hw4]; exact ⟨HBW3.out.1.os, HBW3.out.1.tape, HBW3.out.1.output, HBW3.out.1.size, HBW3.out.1.block⟩)
            have HO4 : Hid (OwnP w4 (g + 1) (.slice av xs.length cv) xs) := Lib.hid (by rw [hw4]; exact HST3.out)
            have HR4 : Hid (RdrHi w4 95 g 0 l2 (g + 1)) := Lib.hid (by rw [hw4]; exact HRD3.out.below ⟨rfl, rfl, rfl, Nat.le_refl _, fun _ _ => rfl⟩)
            clear hw4 hq4 hst
            obtain ⟨a4, n4, c4, hg4, hr4, _, _⟩ := HR4.out.rdr
            have h04 : w4.cell? ⟨g, 0, none⟩ = some (.slice a4 n4 c4) := by simp [World.cell?, hg4]
            have hn4 : l2.length = n4 := hr4.1
            have HN4 := Lib.hid hn4
            clear hg4 hr4 hn4
            by_cases hcnt : cc = (xs.length : Int) ∧ dn = pl ∧ ds = pd
            · obtain ⟨x1, x2, x3⟩ := hcnt
              have f1 : (cc != (xs.length : Int)) = false := by simp [x1]
              have f2 : ((dn : Int) != (pl : Int)) = false := by simp [x2]
              have f3 : ((ds : Int) != (pd : Int)) = false := by simp [x3]
              have hwl := HWL.out
              rw [if_neg (by rw [← HPD.out]; rintro (h | h | h); exact h x1; exact h x2; exact h x3)] at hwl
              have HWL := Lib.hid hwl
              clear hwl x1 x2 x3
              by_cases hl2 : l2 = []
              · have hn0 : ¬ ((0 : Int) < (n4 : Int)) := by have := HN4.out; rw [hl2] at this; simp at this; omega
                have hwl := HWL.out
                rw [if_neg (by simp [hl2])] at hwl
                have HWL := Lib.hid hwl
                clear hwl
                obtain ⟨a9, c9, he9, hc9, hr9, _⟩ := HO4.out.rd
                injection he9 with i1 i2 i3
                subst i1
                subst i3
                have HR9 := Lib.hid (And.intro hc9 hr9)
                clear hr9
                go_wp2
                go_ret2
                have e := HWL.out
                subst e
                exact ⟨HB4.out, .inr ⟨rfl, av, cv, rfl, HR9.out.1, HR9.out.2⟩⟩
              · have hn0 : ((0 : Int) < (n4 : Int)) := by have := HN4.out; have := List.length_pos_iff.2 hl2; omega
                have hwl := HWL.out
                rw [if_pos hl2] at hwl
                have HWL := Lib.hid hwl
                clear hwl
                go_wp2
                go_ret2
                have e := HWL.out
                subst e
                exact ⟨HB4.out, .inl ⟨by simp, rfl⟩⟩
            · have hwl := HWL.out
              rw [if_pos (by
                rw [← HPD.out]
                rcases Decidable.em (cc = (xs.length : Int)) with h1 | h1
                · rcases Decidable.em (dn = pl) with h2 | h2
                  · exact .inr (.inr fun h3 => hcnt ⟨h1, h2, h3⟩)
                  · exact .inr (.inl h2)
                · exact .inl h1)] at hwl
              have HWL := Lib.hid hwl
              clear hwl
              have hbad : (cc != (xs.length : Int)) = true ∨ ((cc != (xs.length : Int)) = false ∧ ((dn : Int) != (pl : Int)) = true) ∨ ((cc != (xs.length : Int)) = false ∧ ((dn : Int) != (pl : Int)) = false ∧ ((ds : Int) != (pd : Int)) = true) := by
                rcases Decidable.em (cc = (xs.length : Int)) with h1 | h1
                · rcases Decidable.em (dn = pl) with h2 | h2
                  · exact .inr (.inr ⟨by simp [h1], by simp [h2], by
                      have h3 : ds ≠ pd := fun h3 => hcnt ⟨h1, h2, h3⟩
                      simp; omega⟩)
                  · exact .inr (.inl ⟨by simp [h1], by simp; omega⟩)
                · exact .inl (by simpa using h1)
              clear hcnt
              rcases hbad with f1 | ⟨f1, f2⟩ | ⟨f1, f2, f3⟩
              all_goals
                go_wp2
                go_ret2
                have e := HWL.out
                subst e
                exact ⟨HB4.out, .inl ⟨by simp, rfl⟩⟩
          · have hk4' : ((k : Int) != 4) = true := by simp; omega
            have hwl := HWL.out
            rw [if_pos hk4] at hwl
            have HWL := Lib.hid hwl
            have HO4 : Hid (OwnP (w3.alloc (.cells #[.int .u8 (k : Int), .int .i64 i, .int .i64 bb, .int .i64 f, .int .i64 t, .string (strB lb), .int .i64 cc, .int .u64 (dn : Int), .int .u64 (ds : Int)] 50)) (g + 1) (.slice av xs.length cv) xs) := Lib.hid (owns_same HST3.out fun z hz => heap_alloc_old _ _ (by obtain ⟨_, _, h9⟩ := owns_block HST3.out hz; exact lt_of_block h9))
            have HC4 : Hid (∀ z u, (prL ⟨k, i, bb, f, t, lb, cc, dn, ds⟩)[z]? = some u → (w3.alloc (.cells #[.int .u8 (k : Int), .int .i64 i, .int .i64 bb, .int .i64 f, .int .i64 t, .string (strB lb), .int .i64 cc, .int .u64 (dn : Int), .int .u64 (ds : Int)] 50)).cell? ((⟨w3.heap.size, 0, none⟩ : Addr).add z) = some u) := Lib.hid (by
              intro z u hz
              rw [add_plain]
              simp only [World.cell?, heap_alloc_new]
              simpa [prL] using hz)
            have hby := bytes_len HOK.out
            have HLl : Hid (l'.length = (Rec.bytes ⟨k, i, bb, f, t, lb, cc, dn, ds⟩).length + l2.length ∧ 1 ≤ (Rec.bytes ⟨k, i, bb, f, t, lb, cc, dn, ds⟩).length) := Lib.hid ⟨by rw [HL2.out]; simp, hby.1⟩
            obtain ⟨q0, q1, q2, q3, q4, q5, q6, q7, q8⟩ := rec_cells HQ3.out
            clear hwl hby
            go_wp2_with (refine wpList_append_p rfl (.tmp 51) (.tmp 53) rfl (.slice av xs.length cv) rfl ⟨w3.heap.size, 0, none⟩ 1 rfl (g + 1) xs HO4.out (by have := HBW3.out.2; simp; omega) ⟨k, i, bb, f, t, lb, cc, dn, ds⟩ HC4.out (by have := HST.out.2; have := HAT.out.2; omega) ?_; intro v5 w5 h51 h52 h53)
            have HW5 : Hid (OwnP w5 (g + 1) v5 (xs ++ [⟨k, i, bb, f, t, lb, cc, dn, ds⟩]) ∧ (w3.alloc (.cells #[.int .u8 (k : Int), .int .i64 i, .int .i64 bb, .int .i64 f, .int .i64 t, .string (strB lb), .int .i64 cc, .int .u64 (dn : Int), .int .u64 (ds : Int)] 50)).grownBy w5 (Value.slice av xs.length cv).ownBlock) := Lib.hid ⟨h51, h52⟩
            clear h51 h52 h53 q0 q1 q2 q3 q4 q5 q6 q7 q8
            have hkeep : ∀ z, z ≤ g → w5.heap[z]? = w3.heap[z]? := fun z hz => (HW5.out.2.block z (by have := HBW3.out.2; simp; omega) (fun e => by have := (owns_block HO4.out e.symm).1; omega)).trans (heap_alloc_old _ _ (by have := HBW3.out.2; omega))
            have hsz5 : w3.heap.size ≤ w5.heap.size := by have := HW5.out.2.size; simp at this; omega
            have hb35 : Below (g + 1) w3 w5 := ⟨HW5.out.2.os, HW5.out.2.tape, HW5.out.2.output, hsz5, fun z hz => hkeep z (by omega)⟩
            go_roundg k0
            case measure => omega
            case rel =>
              have hk0 : k0 = (k0 - 1) + 1 := by have := HI.out.2.1; have := HLl.out; omega
              refine ⟨k0 - 1, v5, P ++ Rec.bytes ⟨k, i, bb, f, t, lb, cc, dn, ds⟩, l2, xs ++ [⟨k, i, bb, f, t, lb, cc, dn, ds⟩], hk0, rfl, Lib.hid ⟨?_, ?_, ?_⟩, Lib.hid (HRD3.out.below hb35), Lib.hid ⟨HW5.out.1, ?_⟩, Lib.hid ⟨HBW3.out.1.trans (hb35.mono (by omega)), by have := HBW3.out.2; omega⟩⟩
              · rw [List.append_assoc, ← HL2.out]; exact HI.out.1
              · have := HI.out.2.1; have := HLl.out; omega
              · rw [← hk0]; exact HWL.out
              · have := HST.out.2; have := HLl.out; simp; omega
    · have hE2 : ((E : Int) != 0) = true := by simp; omega
      have hXE : X = ([], E) := by have := HWL.out; rw [if_pos hE] at this; exact this.symm
      subst hXE
      have HE := Lib.hid hE
      clear hE
      go_wp2
      go_ret2
      exact ⟨HBW3.out.1, .inl ⟨HE.out, rfl⟩⟩

end Go.Proofs.YtaijldcfoaeogaaGreat
