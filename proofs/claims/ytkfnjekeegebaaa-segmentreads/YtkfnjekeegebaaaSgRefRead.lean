/- A segment's block, by the document's own ReadBlock; over any world. -/
import Derived.Test.YtkfnjekeegebaaaSgRefRight
import Derived.Test.YtkfnjekeegebaaaLbRefOpen
import Derived.Test.YtkfnjekeegebaaaRefRdrNe
import Derived.Deep.DeepCutAuto
import Derived.Deep.CutBlock
import Derived.BigQuiet
namespace Go.Proofs.Ytkfnjekeegebaaa
open Go.RowKit
set_option linter.unusedSimpArgs false

/-- Behind j readings: the error, what is left. -/
def rdSt (r : List Nat) : Nat → Nat × List Nat
  | 0 => (0, r)
  | j + 1 => (rNum (rdSt r j).1 (rdSt r j).2 1073741824).2

/-- The number that is read at place j. -/
def rdAt (r : List Nat) (j : Nat) : Int := ((rNum (rdSt r j).1 (rdSt r j).2 1073741824).1 : Nat)

/-- The first j numbers that are read. -/
def rdTo (r : List Nat) (j : Nat) : N5 := ⟨if 0 < j then rdAt r 0 else 0, if 1 < j then rdAt r 1 else 0, if 2 < j then rdAt r 2 else 0, if 3 < j then rdAt r 3 else 0, if 4 < j then rdAt r 4 else 0⟩

theorem rd5_to (r : List Nat) : rd5 1073741824 r = (rdTo r 5, rdSt r 5) := rfl

theorem rnum_le (E : Nat) (l : List Nat) (most : Nat) : (rNum E l most).1 ≤ most := by
  by_cases hE : E = 0
  · subst hE
    by_cases he : vErr l = 0
    · by_cases h1 : most < vNum l
      · rw [rNum_long he h1]; exact Nat.zero_le _
      · rw [rNum_ok he h1]; simp only; omega
    · rw [rNum_err he]; exact Nat.zero_le _
  · rw [rNum_failed hE]; exact Nat.zero_le _

theorem rdAt_ok (r : List Nat) (j : Nat) : numOk (rdAt r j) = true := by
  have := rnum_le (rdSt r j).1 (rdSt r j).2 1073741824
  unfold rdAt
  generalize (rNum (rdSt r j).1 (rdSt r j).2 1073741824).1 = y at this
  simp only [numOk, Bool.and_eq_true, decide_eq_true_eq]
  omega

theorem rdTo_ok (r : List Nat) : (rdTo r 5).ok = true := by
  simp [N5.ok, rdTo, rdAt_ok]

theorem blk_set {w : World} {q k : Nat} {r : List Nat} {s : ByteArray} {j : Nat} (hj : j < 5) (h : w.heap[q]? = some (blkObj k (rdTo r j) s)) :
    w.setCell ⟨q, 1 + j, none⟩ (.int .i64 (rdAt r j)) = put w q (blkObj k (rdTo r (j + 1)) s) := by
  rw [set_put _ h]
  rcases (by omega : j = 0 ∨ j = 1 ∨ j = 2 ∨ j = 3 ∨ j = 4) with rfl | rfl | rfl | rfl | rfl <;> rfl

theorem rec_setB {w : World} {q i : Nat} {cs : Array Value} {v : Value} {T : TypeId} (h : w.heap[q]? = some (.cells cs T (0, 0))) (cs' : Array Value) (he : cs.setIfInBounds i v = cs') : w.setCell ⟨q, i, none⟩ v = put w q (.cells cs' T (0, 0)) := by
  rw [set_put _ h, he]

theorem num_stepB {w0 w w' : World} {q g : Nat} {o : Obj} (hs : Save [q, g] w0 w) (hq : w.heap[q]? = some o) (hne : g ≠ q) (hg : w.grownBy w' (some g)) : w'.heap[q]? = some o ∧ Save [q, g] w0 w' := by
  refine ⟨(hg.block q (lt_of_block hq) (by intro e; injection e with e; exact hne e.symm)).trans hq, hs.trans ⟨hg.os, hg.tape, hg.output, hg.size, fun k hk hx => hg.block k hk ?_⟩⟩
  intro e
  injection e with e
  subst e
  exact hx (by simp)

theorem rdrNe_neq {w : World} {T g E q : Nat} {l : List Nat} (h : RdrNe w T g E l q) : g ≠ q := by
  obtain ⟨_, _, _, _, _, _, _, h, _⟩ := h
  exact h

theorem wrapJ {m : Nat} (h : m ≤ 1073741824) : IntKind.i64.wrap (m : Int) = m := by rw [IntKind.wrap_i64]; omega

theorem rEnd_zero {E : Nat} {l : List Nat} : rEnd E l = 0 ↔ (E = 0 ∧ l = []) := by
  unfold rEnd
  split
  · rename_i h; simp [h]
  · rename_i h
    have : E = 0 := by omega
    subst this
    split
    · rename_i h2; simp [h2]
    · rename_i h2; simp [h2]

set_option maxHeartbeats 4000000 in
set_option maxRecDepth 100000 in
theorem refReadB_any (a : Option Addr) (n c : Nat) (l : List Nat) (w : World) (h : Rd w a n l) (hn : n ≤ 1000000) (hc : n ≤ c) :
    Calls Try.prog 9 #[.slice a n c] w fun e w' => e = .returned (.tuple #[blV (docRd l).1.1 (docRd l).1.2.1 (strB (docRd l).1.2.2), .int .i64 ((docRd l).2 : Int)]) ∧ Below w.heap.size w w' := by
  obtain ⟨p, hp⟩ : ∃ p, p = w.heap.size := ⟨_, rfl⟩
  obtain ⟨w1, hw1⟩ : ∃ w1, w1 = w.alloc (.cells #[.int .u8 0, .int .i64 0, .int .i64 0, .int .i64 0, .int .i64 0, .int .i64 0, .string ⟨#[]⟩] 40) := ⟨_, rfl⟩
  have HW : Hid (w.alloc (.cells #[.int .u8 0, .int .i64 0, .int .i64 0, .int .i64 0, .int .i64 0, .int .i64 0, .string ⟨#[]⟩] 40) = w1 ∧ w.heap.size = p) := Lib.hid ⟨hw1.symm, hp.symm⟩
  have hb1 : Below p w w1 := by rw [hw1, hp]; exact Below.alloc0 _ _
  have hp1 : w1.heap[p]? = some (.cells #[.int .u8 0, .int .i64 0, .int .i64 0, .int .i64 0, .int .i64 0, .int .i64 0, .string ⟨#[]⟩] 40 (0, 0)) := by rw [hw1, hp]; exact heap_alloc_new w _
  have hr1 : Rd w1 a n l := h.later (by rw [← hp]; exact hb1)
  have HOP := Lib.hid (refOpen_any a n c l w1 hr1 hn hc)
  have HR1 := Lib.hid hr1
  have HLN : Hid (l.length = n) := Lib.hid h.1
  have HQ0 : Hid (docRd l = if Sealed l then (match docOf (l.take (l.length - 4)) with | some y => (y, 0) | none => ((0, N5.zero, []), 3)) else ((0, N5.zero, []), 4)) := Lib.hid rfl
  obtain ⟨Y, hY⟩ : ∃ Y, Y = docRd l := ⟨_, rfl⟩
  rw [← hY] at HQ0 ⊢
  have HB1 := Lib.hid hb1
  have HP1 := Lib.hid hp1
  rw [← hp]
  clear hp hw1 hb1 hp1 hY h hr1
  go_enter Try.func9, Try.ntmps9
  go_upto_region 1 with fail
  change Code.wp _ _ _ _ (w.alloc (.cells #[.int .u8 0, .int .i64 0, .int .i64 0, .int .i64 0, .int .i64 0, .int .i64 0, .string ⟨#[]⟩] 40))
  rw [HW.out.1, HW.out.2]
  go_wp2_with fail
  refine HOP.out.mono ?_
  rintro e w3 ⟨hor, hb3⟩
  have hp3 := (hb3.block p (lt_of_block HP1.out)).trans HP1.out
  have hbz : Below p w w3 := HB1.out.trans (hb3.mono (Nat.le_of_lt (lt_of_block HP1.out)))
  have HB3 := Lib.hid hbz
  have HP3 := Lib.hid hp3
  have HR3 := Lib.hid (HR1.out.later hb3)
  clear hb3 hp3 hbz HR1 HOP
  rcases hor with ⟨hns, rfl⟩ | ⟨hsd, h4, rfl⟩
  · have hY4 : Y = ((0, N5.zero, []), 4) := by rw [HQ0.out, if_neg hns]
    subst hY4
    clear hns
    have hpz := HP3.out
    obtain ⟨z0, z1, z2, z3, z4, z5, z6⟩ := seven_cells hpz
    have y0 := fun i => frozen0 (i := i) hpz
    have hput := seven_put (v0 := .int .u8 0) (v1 := .int .i64 0) (v2 := .int .i64 0) (v3 := .int .i64 0) (v4 := .int .i64 0) (v5 := .int .i64 0) (v6 := .string ⟨#[]⟩) hpz
    rw [put_self hpz] at hput
    have HPUT := Lib.hid hput
    clear hput hpz
    go_wp2_with fail
    rw [HPUT.out]
    refine bodyPost_ret (v := .tuple #[.agg #[.int .u8 0, .int .i64 0, .int .i64 0, .int .i64 0, .int .i64 0, .int .i64 0, .string ⟨#[]⟩], .int .i64 4]) (by simp [results, Try.results9, go_sem, z0, z1, z2, z3, z4, z5, z6]; try rfl) rfl ?_
    exact ⟨rfl, HB3.out⟩
  · have hY3 : Y = (match docOf (l.take (l.length - 4)) with | some y => (y, 0) | none => ((0, N5.zero, []), 3)) := by rw [HQ0.out, if_pos hsd]
    obtain ⟨P, hP⟩ : ∃ P, P = l.take (n - 4) := ⟨_, rfl⟩
    rw [HLN.out, ← hP] at hY3
    have hrP : Rd w3 a (n - 4) P := by rw [hP]; exact HR3.out.first (by omega)
    obtain ⟨n4, hn4⟩ : ∃ n4, n4 = n - 4 := ⟨_, rfl⟩
    rw [← hn4] at hrP ⊢
    have hc4 : n4 ≤ c := by omega
    have hn46 : n4 ≤ 1000000 := by omega
    clear hn4 hP hsd h4 HR3 HLN hc hn HQ0
    cases P with
    | nil =>
      have h0 : n4 = 0 := by have := hrP.1; simp at this; omega
      have hYz : Y = ((0, N5.zero, []), 3) := by rw [hY3]; rfl
      subst hYz h0
      clear hY3 hrP
      have hpz := HP3.out
      obtain ⟨z0, z1, z2, z3, z4, z5, z6⟩ := seven_cells hpz
      have y0 := fun i => frozen0 (i := i) hpz
      have hput := seven_put (v0 := .int .u8 0) (v1 := .int .i64 0) (v2 := .int .i64 0) (v3 := .int .i64 0) (v4 := .int .i64 0) (v5 := .int .i64 0) (v6 := .string ⟨#[]⟩) hpz
      rw [put_self hpz] at hput
      have HPUT := Lib.hid hput
      clear hput hpz
      go_wp2_with fail
      rw [HPUT.out]
      refine bodyPost_ret (v := .tuple #[.agg #[.int .u8 0, .int .i64 0, .int .i64 0, .int .i64 0, .int .i64 0, .int .i64 0, .string ⟨#[]⟩], .int .i64 3]) (by simp [results, Try.results9, go_sem, z0, z1, z2, z3, z4, z5, z6]; try rfl) rfl ?_
      exact ⟨rfl, HB3.out⟩
    | cons k r =>
      have h0 : 1 ≤ n4 := by have := hrP.1; simp at this; omega
      obtain ⟨bb, oo, rfl, hcell⟩ := hrP.2.2 h0
      have hn0 : ((n4 : Int) == 0) = false := by simp; omega
      have hck0 : w3.cell? ⟨bb, oo, none⟩ = some (.int .u8 (k : Int)) := hcell 0 h0
      have hbb : bb < w3.heap.size := World.block_lt_of_cell? w3 _ hck0
      have hk256 : k < 256 := hrP.2.1 k (by simp)
      have hs := fun W => slice_from (some ⟨bb, oo, none⟩) n4 c 1 .i64 h0 W
      obtain ⟨A1, hA1⟩ : ∃ A1, A1 = cutA (some ⟨bb, oo, none⟩) c 1 := ⟨_, rfl⟩
      have hA1b : ∀ b o, A1 = some ⟨b, o, none⟩ → b = bb := by
        intro b o hb
        rw [hA1] at hb
        unfold cutA at hb
        split at hb
        · injection hb with hb; injection hb with e1 e2; exact e1.symm
        · simp only [Option.map_some, add_plain] at hb
          injection hb with hb; injection hb with e1 e2; exact e1.symm
      rw [← hA1] at hs
      have hr1 : Rd w3 A1 (n4 - 1) r := by rw [hA1]; have := hrP.cut (k := 1) (c := c) (by omega) hc4; simpa using this
      have hcut1 : (if c = 1 then some (⟨bb, oo, none⟩ : Addr) else some ⟨bb, oo + 1, none⟩) = A1 := by rw [hA1]; simp [cutA, Addr.add]
      have hcv := fun W hW c => conv_rd (hr1.later (w' := W) hW) c
      have HCV := Lib.hid hcv
      have HR1 := Lib.hid hr1
      have HY3 := Lib.hid hY3
      have HNC : Hid (n4 - 1 ≤ c - 1 ∧ n4 - 1 ≤ 1000000) := Lib.hid ⟨by omega, by omega⟩
      have HK256 := Lib.hid hk256
      obtain ⟨q, hq⟩ : ∃ q, q = w3.heap.size := ⟨_, rfl⟩
      obtain ⟨w4, hw4⟩ : ∃ w4, w4 = w3.alloc (blkObj k N5.zero ⟨#[]⟩) := ⟨_, rfl⟩
      obtain ⟨w5, hw5⟩ : ∃ w5, w5 = w4.alloc (.cells #[.slice A1 (n4 - 1) (c - 1), .int .i64 0] 67) := ⟨_, rfl⟩
      have hb34 : Below w3.heap.size w3 w4 := by rw [hw4]; exact Below.alloc0 _ _
      have hb45 : Below w4.heap.size w4 w5 := by rw [hw5]; exact Below.alloc0 _ _
      have hz4 : w4.heap.size = q + 1 := by rw [hw4, hq]; simp
      have hb35 : Below w3.heap.size w3 w5 := hb34.trans (hb45.mono hb34.size)
      have HQ5 : Hid (w5.heap[q]? = some (blkObj k N5.zero ⟨#[]⟩)) := Lib.hid ((hb45.block q (by omega)).trans (by rw [hw4, hq]; exact heap_alloc_new w3 _))
      have HG5 : Hid (w5.heap[q + 1]? = some (.cells #[.slice A1 (n4 - 1) (c - 1), .int .i64 0] 67 (0, 0))) := Lib.hid (by rw [hw5, ← hz4]; exact heap_alloc_new w4 _)
      have HRN5 : Hid (RdrNe w5 67 (q + 1) 0 r q) := Lib.hid ⟨A1, n4 - 1, c - 1, HG5.out, HR1.out.later hb35, HNC.out.1, HNC.out.2, by omega, fun b o hb _ => by have := hA1b b o hb; omega⟩
      have HB5 : Hid (Below w3.heap.size w3 w5 ∧ w3.heap.size = q ∧ p < q) := Lib.hid ⟨hb35, hq.symm, by have := lt_of_block HP3.out; omega⟩
      have HP5 : Hid (w5.heap[p]? = some (.cells #[.int .u8 0, .int .i64 0, .int .i64 0, .int .i64 0, .int .i64 0, .int .i64 0, .string ⟨#[]⟩] 40 (0, 0))) := Lib.hid ((hb35.block p (lt_of_block HP3.out)).trans HP3.out)
      have HBP5 : Hid (Below p w w5) := Lib.hid (HB3.out.trans (hb35.mono (Nat.le_of_lt (lt_of_block HP3.out))))
      simp only [blkObj, N5.zero] at hw4
      have HW4 : Hid (w3.alloc (.cells #[.int .u8 (k : Int), .int .i64 0, .int .i64 0, .int .i64 0, .int .i64 0, .int .i64 0, .string ⟨#[]⟩] 40) = w4 ∧ w3.heap.size = q) := Lib.hid ⟨hw4.symm, hq.symm⟩
      have HW5 : Hid (w4.alloc (.cells #[.slice A1 (n4 - 1) (c - 1), .int .i64 0] 67) = w5 ∧ w4.heap.size = q + 1) := Lib.hid ⟨hw5.symm, hz4⟩
      have hck : ∀ o, (w3.alloc o).cell? ⟨bb, oo, none⟩ = some (.int .u8 (k : Int)) := fun o => Lib.cell?_alloc_some _ hck0
      clear hq hw4 hw5 hb34 hb45 hb35 hz4 hA1 hr1 hrP hcell hY3 hA1b hcv hk256 hn46 hc4
      go_upto_region 7 with fail
      rw [HW4.out.1, HW4.out.2]
      clear hck hck0
      go_upto_region 8 with fail
      rw [HW5.out.1, HW5.out.2]
      obtain ⟨x0, x1, x2, x3, x4, x5, x6⟩ := seven_cells (HQ5.out)
      have fz := fun i => frozen0 (i := i) (HQ5.out)
      by_cases hk : k = 68
      · subst hk
        have x0' : w5.cell? ⟨q, 0, none⟩ = some (.int .u8 68) := x0
        clear x0
        obtain ⟨s, hss⟩ : ∃ s, s = strB r := ⟨_, rfl⟩
        have hcv := HCV.out w5 HB5.out.1 (c - 1)
        rw [← hss] at hcv
        have hset := rec_setB (i := 6) (v := .string s) HQ5.out (#[.int .u8 68, .int .i64 0, .int .i64 0, .int .i64 0, .int .i64 0, .int .i64 0, .string s]) rfl
        obtain ⟨w6, hw6⟩ : ∃ w6, w6 = put w5 q (blkObj 68 N5.zero s) := ⟨_, rfl⟩
        have hset2 : w5.setCell ⟨q, 6, none⟩ (.string s) = w6 := by rw [hw6]; exact hset
        have HSET := Lib.hid hset2
        have hq6 : w6.heap[q]? = some (blkObj 68 N5.zero s) := by rw [hw6]; exact put_same HQ5.out
        have hg6 : w6.heap[q + 1]? = some (.cells #[.slice A1 (n4 - 1) (c - 1), .int .i64 0] 67 (0, 0)) := by rw [hw6]; exact (put_other (by omega)).trans HG5.out
        have hsetg := rec_setB (i := 0) (v := .slice none 0 0) hg6 (#[.slice none 0 0, .int .i64 0]) rfl
        obtain ⟨w7, hw7⟩ : ∃ w7, w7 = put w6 (q + 1) (.cells #[.slice none 0 0, .int .i64 0] 67 (0, 0)) := ⟨_, rfl⟩
        rw [← hw7] at hsetg
        have HSETG := Lib.hid hsetg
        have HQ7 : Hid (w7.heap[q]? = some (blkObj 68 N5.zero s)) := Lib.hid (by rw [hw7]; exact (put_other (by omega)).trans hq6)
        have HG7 : Hid (w7.heap[q + 1]? = some (.cells #[.slice none 0 0, .int .i64 0] 67 (0, 0))) := Lib.hid (by rw [hw7]; exact put_same hg6)
        have HP7 : Hid (w7.heap[p]? = some (.cells #[.int .u8 0, .int .i64 0, .int .i64 0, .int .i64 0, .int .i64 0, .int .i64 0, .string ⟨#[]⟩] 40 (0, 0))) := Lib.hid (by rw [hw7, hw6]; exact (put_other (by have := HB5.out.2.2; omega)).trans ((put_other (by have := HB5.out.2.2; omega)).trans HP5.out))
        have HB7 : Hid (Below p w w7) := Lib.hid (by rw [hw7, hw6]; exact (HBP5.out.trans (put_below _ (by have := HB5.out.2.2; omega))).trans (put_below _ (by have := HB5.out.2.2; omega)))
        have g6 : w6.cell? ⟨q + 1, 0, none⟩ = some (.slice A1 (n4 - 1) (c - 1)) := by simp [World.cell?, hg6]
        have fg6 : w6.frozen? ⟨q + 1, 0, none⟩ = false := frozen0 hg6
        have HGF := Lib.hid (And.intro g6 fg6)
        have HSS := Lib.hid hss
        clear hset hset2 hq6 hg6 hsetg hw6 hw7 hss g6 fg6
        go_upto_region 10 with fail
        rw [HSET.out]
        clear x0' x1 x2 x3 x4 x5 x6 fz hcv HSET
        obtain ⟨g6, fg6⟩ := HGF.out
        go_upto_region 15 with fail
        rw [HSETG.out]
        clear g6 fg6 HSETG HGF
        have hrb := rightBlk_any 68 N5.zero r w7 (by omega) (by have := HR1.out.1; have := HNC.out.2; omega)
        rw [← HSS.out] at hrb
        have hd : docOk 68 N5.zero r = (decide (1 ≤ r.length) && decide (r.length ≤ 160)) := by simp [docOk, N5.zero, N5.ok, numOk]
        have hdo : docOf (68 :: r) = if docOk 68 N5.zero r = true then some (68, N5.zero, r) else none := by simp [docOf, hd]
        rw [hdo] at HY3
        obtain ⟨B, hBB⟩ : ∃ B, B = docOk 68 N5.zero r := ⟨_, rfl⟩
        rw [← hBB] at hrb HY3
        simp only [blV, N5.zero] at hrb
        have HRB := Lib.hid hrb
        clear hrb hd hdo hBB
        obtain ⟨x0, x1, x2, x3, x4, x5, x6⟩ := seven_cells (HQ7.out)
        have x0' : w7.cell? ⟨q, 0, none⟩ = some (.int .u8 68) := x0
        clear x0
        simp only [N5.zero] at x1 x2 x3 x4 x5
        go_wp2_with fail
        refine HRB.out.mono ?_
        rintro e w8 ⟨rfl, hb8⟩
        have hg8 := (hb8.block (q + 1) (lt_of_block HG7.out)).trans HG7.out
        have g0 : w8.cell? ⟨q + 1, 0, none⟩ = some (.slice none 0 0) := by simp [World.cell?, hg8]
        have g1 : w8.cell? ⟨q + 1, 1, none⟩ = some (.int .i64 0) := by simp [World.cell?, hg8]
        have HQ8 := Lib.hid ((hb8.block q (lt_of_block HQ7.out)).trans HQ7.out)
        have HP8 := Lib.hid ((hb8.block p (lt_of_block HP7.out)).trans HP7.out)
        have HB8 := Lib.hid (HB7.out.trans (hb8.mono (Nat.le_of_lt (lt_of_block HP7.out))))
        clear hb8 hg8 x0' x1 x2 x3 x4 x5 x6
        cases B with
        | false =>
          have hYz : Y = ((0, N5.zero, []), 3) := by rw [HY3.out]; rfl
          subst hYz
          have hpz := HP8.out
          obtain ⟨z0, z1, z2, z3, z4, z5, z6⟩ := seven_cells hpz
          have y0 := fun i => frozen0 (i := i) hpz
          have hput := seven_put (v0 := .int .u8 0) (v1 := .int .i64 0) (v2 := .int .i64 0) (v3 := .int .i64 0) (v4 := .int .i64 0) (v5 := .int .i64 0) (v6 := .string ⟨#[]⟩) hpz
          rw [put_self hpz] at hput
          have HPUT := Lib.hid hput
          clear hput hpz
          go_wp2_with fail
          rw [HPUT.out]
          refine bodyPost_ret (v := .tuple #[.agg #[.int .u8 0, .int .i64 0, .int .i64 0, .int .i64 0, .int .i64 0, .int .i64 0, .string ⟨#[]⟩], .int .i64 3]) (by simp [results, Try.results9, go_sem, z0, z1, z2, z3, z4, z5, z6]; try rfl) rfl ?_
          exact ⟨rfl, HB8.out⟩
        | true =>
          have hYz : Y = ((68, N5.zero, r), 0) := by rw [HY3.out]; rfl
          subst hYz
          obtain ⟨a0, a1, a2, a3, a4, a5, a6⟩ := seven_cells (HQ8.out)
          have a0' : w8.cell? ⟨q, 0, none⟩ = some (.int .u8 68) := a0
          clear a0
          have hpz := HP8.out
          obtain ⟨z0, z1, z2, z3, z4, z5, z6⟩ := seven_cells hpz
          have y0 := fun i => frozen0 (i := i) hpz
          have hput := seven_put (v0 := .int .u8 68) (v1 := .int .i64 N5.zero.n0) (v2 := .int .i64 N5.zero.n1) (v3 := .int .i64 N5.zero.n2) (v4 := .int .i64 N5.zero.n3) (v5 := .int .i64 N5.zero.n4) (v6 := .string s) hpz
          have HPUT := Lib.hid hput
          have hp9 := put_same (o := .cells #[.int .u8 68, .int .i64 N5.zero.n0, .int .i64 N5.zero.n1, .int .i64 N5.zero.n2, .int .i64 N5.zero.n3, .int .i64 N5.zero.n4, .string s] 40 (0, 0)) hpz
          have HB9 : Hid (Below p w (put w8 p (.cells #[.int .u8 68, .int .i64 N5.zero.n0, .int .i64 N5.zero.n1, .int .i64 N5.zero.n2, .int .i64 N5.zero.n3, .int .i64 N5.zero.n4, .string s] 40 (0, 0)))) := Lib.hid (HB8.out.trans (put_below _ (Nat.le_refl _)))
          have HP9 := Lib.hid hp9
          clear hput hpz hp9
          go_wp2_with fail
          rw [HPUT.out]
          clear a0' a1 a2 a3 a4 a5 a6 z0 z1 z2 z3 z4 z5 z6 y0 HPUT
          obtain ⟨d0, d1, d2, d3, d4, d5, d6⟩ := seven_cells HP9.out
          refine bodyPost_ret (v := .tuple #[.agg #[.int .u8 68, .int .i64 N5.zero.n0, .int .i64 N5.zero.n1, .int .i64 N5.zero.n2, .int .i64 N5.zero.n3, .int .i64 N5.zero.n4, .string s], .int .i64 0]) (by simp [results, Try.results9, go_sem, d0, d1, d2, d3, d4, d5, d6]; try rfl) rfl ?_
          exact ⟨by rw [HSS.out]; rfl, HB9.out⟩
      · have hk1 : ((k : Int) == 68) = false := by simp; omega
        go_wp2_with fail
        clear x0 x1 x2 x3 x4 x5 x6 fz
        have HS0 : Hid (RdrNe w5 67 (q + 1) (rdSt r 0).1 (rdSt r 0).2 q ∧ w5.heap[q]? = some (blkObj k (rdTo r 0) ⟨#[]⟩) ∧ Save [q, q + 1] w5 w5) := Lib.hid ⟨HRN5.out, HQ5.out, Save.refl _ _⟩
        go_loopg [8] 5 (fun gk i wr => ∃ j : Nat, gk = 5 - j ∧ j ≤ 5 ∧ i = .int .i64 (j : Int) ∧ Hid (RdrNe wr 67 (q + 1) (rdSt r j).1 (rdSt r j).2 q ∧ wr.heap[q]? = some (blkObj k (rdTo r j) ⟨#[]⟩) ∧ Save [q, q + 1] w5 wr))
        case atStart => exact ⟨0, rfl, Nat.zero_le _, rfl, HS0⟩
        case round =>
          obtain ⟨j, hgk, hj, rfl, HI⟩ := hrel
          have HGK := Lib.hid hgk
          clear hgk
          by_cases hlt : j < 5
          · have hlt' : (j : Int) < 5 := by omega
            have hn := refNumberNe_any wr (q + 1) (rdSt r j).1 (rdSt r j).2 1073741824 q HI.out.1
            have hle := rnum_le (rdSt r j).1 (rdSt r j).2 1073741824
            have hat : rdAt r j = ((rNum (rdSt r j).1 (rdSt r j).2 1073741824).1 : Nat) := rfl
            have hst : rdSt r (j + 1) = (rNum (rdSt r j).1 (rdSt r j).2 1073741824).2 := rfl
            obtain ⟨X, hX⟩ : ∃ X, X = rNum (rdSt r j).1 (rdSt r j).2 1073741824 := ⟨_, rfl⟩
            rw [← hX] at hn hle hat hst
            clear hX
            obtain ⟨x1, S1⟩ := X
            simp only at hn hle hat hst
            subst hst
            have HN := Lib.hid hn
            have HAT := Lib.hid hat
            have hwj := wrapJ hle
            clear hn hle hat
            go_wp2_with fail
            refine HN.out.mono ?_
            rintro e u ⟨rfl, hrn, hgb⟩
            obtain ⟨hqq, hsv⟩ := num_stepB HI.out.2.2 HI.out.2.1 (rdrNe_neq hrn) hgb
            have hset := blk_set (j := j) hlt hqq
            rw [HAT.out] at hset
            have HNX : Hid (RdrNe (put u q (blkObj k (rdTo r (j + 1)) ⟨#[]⟩)) 67 (q + 1) (rdSt r (j + 1)).1 (rdSt r (j + 1)).2 q ∧ (put u q (blkObj k (rdTo r (j + 1)) ⟨#[]⟩)).heap[q]? = some (blkObj k (rdTo r (j + 1)) ⟨#[]⟩) ∧ Save [q, q + 1] w5 (put u q (blkObj k (rdTo r (j + 1)) ⟨#[]⟩))) :=
              Lib.hid ⟨hrn.save ((Save.refl _ _).put (by simp) _), put_same hqq, hsv.put (by simp) _⟩
            have hcj := blk_num hqq hlt
            have hfj : u.frozen? ⟨q, 1 + j, none⟩ = false := by simp [World.frozen?, hqq, blkObj]
            have HSET := Lib.hid hset
            clear hrn hgb hqq hsv hset HN HI
            go_wp2_with fail
            go_roundg (5 - (j + 1))
            case measure => have := HGK.out; omega
            case rel => exact ⟨j + 1, rfl, by omega, by go_num, by rw [HSET.out]; exact HNX⟩
          · obtain rfl : j = 5 := by omega
            obtain ⟨N, hN⟩ : ∃ N, N = rdTo r 5 := ⟨_, rfl⟩
            have hNk : N.ok = true := by rw [hN]; exact rdTo_ok r
            obtain ⟨S5, hS5⟩ : ∃ S, S = rdSt r 5 := ⟨_, rfl⟩
            have hdo : docOf (k :: r) = if k = 72 ∨ k = 84 then (if rEnd S5.1 S5.2 = 0 then some (k, N, []) else none) else none := by rw [hN, hS5]; simp only [docOf, if_neg hk, rd5_to]; by_cases h1 : k = 72 ∨ k = 84 <;> by_cases h2 : rEnd (rdSt r 5).1 (rdSt r 5).2 = 0 <;> simp only [h1, h2, if_true, if_false]
            obtain ⟨hrn, hqq, hsv⟩ := HI.out
            rw [← hN] at hqq
            rw [← hS5] at hrn
            obtain ⟨E5, l5⟩ := S5
            simp only at hrn hdo
            obtain ⟨ra, rn, rc, hgg, hrr, _⟩ := hrn
            have hll := hrr.1
            have hs0 : strB [] = ⟨#[]⟩ := rfl
            have hrb := rightBlk_any k N [] wr HK256.out (by simp)
            have hd : docOk k N [] = decide (k = 72 ∨ k = 84) := by
              unfold docOk
              rw [hNk, Bool.true_and, if_neg hk]
              by_cases h : k = 72 ∨ k = 84 <;> simp [h]
            rw [hd, hs0] at hrb
            simp only [blV] at hrb
            have HRB := Lib.hid hrb
            rw [hdo] at HY3
            have hpp := (hsv.block p (lt_of_block HP5.out) (by intro h; simp at h; have := HB5.out.2.2; omega)).trans HP5.out
            have hbw : Below p w wr := HBP5.out.trans (hsv.below (by have := lt_of_block HP5.out; omega) (by intro t ht; simp at ht; have := HB5.out.2.2; omega))
            have HQW := Lib.hid hqq
            have HGW := Lib.hid hgg
            have HPW := Lib.hid hpp
            have HBW := Lib.hid hbw
            have HLL := Lib.hid hll
            obtain ⟨x0, x1, x2, x3, x4, x5, x6⟩ := seven_cells (HQW.out)
            clear hrb hd hdo hsv hqq hgg hpp hbw hrr hll hs0 hNk hN hS5 HI
            go_wp2_with fail
            refine HRB.out.mono ?_
            rintro e w8 ⟨rfl, hb8⟩
            have hg8 := (hb8.block (q + 1) (lt_of_block HGW.out)).trans HGW.out
            have g0 : w8.cell? ⟨q + 1, 0, none⟩ = some (.slice ra rn rc) := by simp [World.cell?, hg8]
            have g1 : w8.cell? ⟨q + 1, 1, none⟩ = some (.int .i64 (E5 : Int)) := by simp [World.cell?, hg8]
            have HQ8 := Lib.hid ((hb8.block q (lt_of_block HQW.out)).trans HQW.out)
            have HP8 := Lib.hid ((hb8.block p (lt_of_block HPW.out)).trans HPW.out)
            have HB8 := Lib.hid (HBW.out.trans (hb8.mono (Nat.le_of_lt (lt_of_block HPW.out))))
            clear hb8 hg8 x0 x1 x2 x3 x4 x5 x6 HRB
            by_cases hE : E5 = 0
            · subst hE
              by_cases hl : l5 = []
              · subst hl
                have hrn0 : rn = 0 := by have := HLL.out; simpa using this.symm
                subst hrn0
                by_cases hkk : k = 72 ∨ k = 84
                · have hYz : Y = ((k, N, []), 0) := by rw [HY3.out, if_pos hkk, if_pos (rEnd_zero.2 ⟨rfl, rfl⟩)]
                  subst hYz
                  rw [decide_eq_true hkk]
                  clear hkk
                  obtain ⟨a0, a1, a2, a3, a4, a5, a6⟩ := seven_cells (HQ8.out)
                  have a0' : w8.cell? ⟨q, 0, none⟩ = some (.int .u8 (k : Int)) := a0
                  clear a0
                  have hpz := HP8.out
                  obtain ⟨z0, z1, z2, z3, z4, z5, z6⟩ := seven_cells hpz
                  have y0 := fun i => frozen0 (i := i) hpz
                  have hput := seven_put (v0 := .int .u8 (k : Int)) (v1 := .int .i64 N.n0) (v2 := .int .i64 N.n1) (v3 := .int .i64 N.n2) (v4 := .int .i64 N.n3) (v5 := .int .i64 N.n4) (v6 := .string ⟨#[]⟩) hpz
                  have HPUT := Lib.hid hput
                  have hp9 := put_same (o := .cells #[.int .u8 (k : Int), .int .i64 N.n0, .int .i64 N.n1, .int .i64 N.n2, .int .i64 N.n3, .int .i64 N.n4, .string ⟨#[]⟩] 40 (0, 0)) hpz
                  have HB9 : Hid (Below p w (put w8 p (.cells #[.int .u8 (k : Int), .int .i64 N.n0, .int .i64 N.n1, .int .i64 N.n2, .int .i64 N.n3, .int .i64 N.n4, .string ⟨#[]⟩] 40 (0, 0)))) := Lib.hid (HB8.out.trans (put_below _ (Nat.le_refl _)))
                  have HP9 := Lib.hid hp9
                  clear hput hpz hp9
                  go_wp2_with fail
                  rw [HPUT.out]
                  clear a0' a1 a2 a3 a4 a5 a6 z0 z1 z2 z3 z4 z5 z6 y0 HPUT
                  obtain ⟨d0, d1, d2, d3, d4, d5, d6⟩ := seven_cells HP9.out
                  refine bodyPost_ret (v := .tuple #[.agg #[.int .u8 (k : Int), .int .i64 N.n0, .int .i64 N.n1, .int .i64 N.n2, .int .i64 N.n3, .int .i64 N.n4, .string ⟨#[]⟩], .int .i64 0]) (by simp [results, Try.results9, go_sem, d0, d1, d2, d3, d4, d5, d6]; try rfl) rfl ?_
                  exact ⟨rfl, HB9.out⟩
                · have hYz : Y = ((0, N5.zero, []), 3) := by rw [HY3.out, if_neg hkk]
                  subst hYz
                  rw [decide_eq_false hkk]
                  clear hkk
                  have hpz := HP8.out
                  obtain ⟨z0, z1, z2, z3, z4, z5, z6⟩ := seven_cells hpz
                  have y0 := fun i => frozen0 (i := i) hpz
                  have hput := seven_put (v0 := .int .u8 0) (v1 := .int .i64 0) (v2 := .int .i64 0) (v3 := .int .i64 0) (v4 := .int .i64 0) (v5 := .int .i64 0) (v6 := .string ⟨#[]⟩) hpz
                  rw [put_self hpz] at hput
                  have HPUT := Lib.hid hput
                  clear hput hpz
                  go_wp2_with fail
                  rw [HPUT.out]
                  refine bodyPost_ret (v := .tuple #[.agg #[.int .u8 0, .int .i64 0, .int .i64 0, .int .i64 0, .int .i64 0, .int .i64 0, .string ⟨#[]⟩], .int .i64 3]) (by simp [results, Try.results9, go_sem, z0, z1, z2, z3, z4, z5, z6]; try rfl) rfl ?_
                  exact ⟨rfl, HB8.out⟩
              · have hYz : Y = ((0, N5.zero, []), 3) := by
                  rw [HY3.out]
                  by_cases hkk : k = 72 ∨ k = 84
                  · rw [if_pos hkk, if_neg (fun h => hl (rEnd_zero.1 h).2)]
                  · rw [if_neg hkk]
                subst hYz
                have hrn0 : (0 : Int) < (rn : Int) := by
                  have := HLL.out
                  have h2 : 0 < l5.length := List.length_pos_iff.2 hl
                  omega
                clear hl
                have hpz := HP8.out
                obtain ⟨z0, z1, z2, z3, z4, z5, z6⟩ := seven_cells hpz
                have y0 := fun i => frozen0 (i := i) hpz
                have hput := seven_put (v0 := .int .u8 0) (v1 := .int .i64 0) (v2 := .int .i64 0) (v3 := .int .i64 0) (v4 := .int .i64 0) (v5 := .int .i64 0) (v6 := .string ⟨#[]⟩) hpz
                rw [put_self hpz] at hput
                have HPUT := Lib.hid hput
                clear hput hpz
                go_wp2_with fail
                rw [HPUT.out]
                refine bodyPost_ret (v := .tuple #[.agg #[.int .u8 0, .int .i64 0, .int .i64 0, .int .i64 0, .int .i64 0, .int .i64 0, .string ⟨#[]⟩], .int .i64 3]) (by simp [results, Try.results9, go_sem, z0, z1, z2, z3, z4, z5, z6]; try rfl) rfl ?_
                exact ⟨rfl, HB8.out⟩
            · have hYz : Y = ((0, N5.zero, []), 3) := by
                rw [HY3.out]
                by_cases hkk : k = 72 ∨ k = 84
                · rw [if_pos hkk, if_neg (fun h => hE (rEnd_zero.1 h).1)]
                · rw [if_neg hkk]
              subst hYz
              have hE0 : ((E5 : Int) != 0) = true := by simp; omega
              clear hE
              have hpz := HP8.out
              obtain ⟨z0, z1, z2, z3, z4, z5, z6⟩ := seven_cells hpz
              have y0 := fun i => frozen0 (i := i) hpz
              have hput := seven_put (v0 := .int .u8 0) (v1 := .int .i64 0) (v2 := .int .i64 0) (v3 := .int .i64 0) (v4 := .int .i64 0) (v5 := .int .i64 0) (v6 := .string ⟨#[]⟩) hpz
              rw [put_self hpz] at hput
              have HPUT := Lib.hid hput
              clear hput hpz
              go_wp2_with fail
              rw [HPUT.out]
              refine bodyPost_ret (v := .tuple #[.agg #[.int .u8 0, .int .i64 0, .int .i64 0, .int .i64 0, .int .i64 0, .int .i64 0, .string ⟨#[]⟩], .int .i64 3]) (by simp [results, Try.results9, go_sem, z0, z1, z2, z3, z4, z5, z6]; try rfl) rfl ?_
              exact ⟨rfl, HB8.out⟩

end Go.Proofs.Ytkfnjekeegebaaa
