/- What sealed bytes come to: the document's own parse, over any world. -/
import Derived.Test.YtngnlnkkehnomaaRrRight
import Derived.Test.YtngnlnkkehnomaaRrCand
import Derived.Test.YtngnlnkkehnomaaRefRdrNe
import Derived.Handy
import Derived.BigRegion
import Derived.Deep.DeepCutAuto
import Derived.Deep.CutBlock
namespace Go.Proofs.Ytngnlnkkehnomaa
open Go.RowKit
set_option linter.unusedSimpArgs false

theorem strB_nil : strB [] = ⟨#[]⟩ := rfl

theorem rNum_small (E : Nat) (l : List Nat) (most : Nat) (h : most ≤ 9223372036854775807) : IntKind.i64.wrap (((rNum E l most).1 : Nat) : Int) = (((rNum E l most).1 : Nat) : Int) := by
  have := rNum_le E l most
  rw [IntKind.wrap_i64]
  omega

theorem rNum_len (E : Nat) (l : List Nat) (most : Nat) : (rNum E l most).2.2.length ≤ l.length := by
  unfold rNum
  split
  · simp
  · split
    · simp
    · split
      · simp
      · simp

/-- What is read fits. -/
theorem refC_fits (k : Nat) (r : List Nat) (hk : k < 256) (hb : ∀ z ∈ r, z < 256) (hr : r.length ≤ 1000) : (refC k r).1.fits ∧ ∀ z ∈ (refC k r).1.l, z < 256 := by
  unfold refC
  split
  · refine ⟨?_, by simp [refH]⟩
    simp only [Rec.fits, refH]
    omega
  split
  · refine ⟨?_, ?_⟩
    · have h1 := rNum_le 0 r 255
      have h2 := rNum_len 0 r 255
      simp only [Rec.fits, refD]
      omega
    · simp only [refD]
      exact rNum_bytes hb
  split
  · refine ⟨?_, by simp [refO]⟩
    have h1 := rNum_le (rNum 0 r 255).2.1 (rNum 0 r 255).2.2 256
    simp only [Rec.fits, refO, twoN]
    omega
  split
  · refine ⟨?_, by simp [refT]⟩
    have h1 := rNum_le (rNum 0 r 1099511627776).2.1 (rNum 0 r 1099511627776).2.2 1099511627776
    have h2 := rNum_le (rNum (rNum 0 r 1099511627776).2.1 (rNum 0 r 1099511627776).2.2 1099511627776).2.1 (rNum (rNum 0 r 1099511627776).2.1 (rNum 0 r 1099511627776).2.2 1099511627776).2.2 18446744073709551615
    simp only [Rec.fits, refT, threeN]
    omega
  · refine ⟨?_, by simp [rec0]⟩
    simp only [Rec.fits, rec0]
    omega

/-- What the document's parse answers. -/
def refRec (l : List Nat) : Rec :=
  match l with
  | [] => rec0 0
  | k :: r => if refOk (k :: r) then (refC k r).1 else rec0 0

set_option maxHeartbeats 2000000 in
set_option maxRecDepth 100000 in
theorem rparse_empty (a : Option Addr) (cap : Nat) (w : World) :
    Calls Try.prog 29 #[.slice a 0 cap] w fun e w' => e = .returned (.tuple #[pcV (rec0 0), .bool false]) ∧ Below w.heap.size w w' := by
  go_enter Try.func29, Try.ntmps29
  go_wp2
  go_returns
  exact ⟨rfl, Below.alloc0 _ _⟩

set_option maxHeartbeats 8000000 in
set_option maxRecDepth 100000 in
theorem rparse_some (bb oo n cap k : Nat) (r : List Nat) (w : World) (h : Rd w (some ⟨bb, oo, none⟩) n (k :: r)) (hn : n ≤ 1000) (hc : n ≤ cap) :
    Calls Try.prog 29 #[.slice (some ⟨bb, oo, none⟩) n cap] w fun e w' => e = .returned (.tuple #[pcV (refRec (k :: r)), .bool (refOk (k :: r))]) ∧ Below w.heap.size w w' := by
  have hn1 : 1 ≤ n := by have := h.1; simp at this; omega
  have hcell := h.2.2 hn1
  obtain ⟨b', o', he, hcell⟩ := hcell
  injection he with he
  injection he with e1 e2
  subst e1 e2
  have hbb : bb < w.heap.size := World.block_lt_of_cell? w _ (hcell 0 hn1)
  have hc0 : ∀ ob, (w.alloc ob).cell? ⟨bb, oo, none⟩ = some (.int .u8 (k : Int)) := fun ob => Lib.cell?_alloc_some _ (hcell 0 hn1)
  obtain ⟨A1, hA1⟩ : ∃ A1, A1 = cutA (some (⟨bb, oo, none⟩ : Addr)) cap 1 := ⟨_, rfl⟩
  have HCUT : Hid ((if cap = 1 then some (⟨bb, oo, none⟩ : Addr) else some ⟨bb, oo + 1, none⟩) = A1) := Lib.hid (by rw [hA1]; simp [cutA, Addr.add])
  have hr1 : Rd w A1 (n - 1) r := by rw [hA1]; have := h.cut (k := 1) (c := cap) (by omega) hc; simpa using this
  have hpt : ∀ b o, A1 = some ⟨b, o, none⟩ → b = bb := by
    intro b o he
    rw [← HCUT.out] at he
    split at he <;> (injection he with he; injection he with h1; exact h1.symm)
  have hkb : k < 256 := h.2.1 k (by simp)
  have hrb : ∀ z ∈ r, z < 256 := hr1.2.1
  obtain ⟨p, hp⟩ : ∃ p, p = w.heap.size := ⟨_, rfl⟩
  obtain ⟨w2, hw2⟩ : ∃ w2, w2 = ((w.alloc (.cells #[.int .u8 0, .int .i64 0, .int .i64 0, .int .i64 0, .int .i64 0, .string ⟨#[]⟩, .int .i64 0, .int .u64 0, .int .u64 0] 33)).alloc (.cells #[.int .u8 (k : Int), .int .i64 0, .int .i64 0, .int .i64 0, .int .i64 0, .string ⟨#[]⟩, .int .i64 0, .int .u64 0, .int .u64 0] 33)).alloc (.cells #[.slice A1 (n - 1) (cap - 1), .int .i64 0] 50) := ⟨_, rfl⟩
  have HW : Hid (((w.alloc (.cells #[.int .u8 0, .int .i64 0, .int .i64 0, .int .i64 0, .int .i64 0, .string ⟨#[]⟩, .int .i64 0, .int .u64 0, .int .u64 0] 33)).alloc (.cells #[.int .u8 (k : Int), .int .i64 0, .int .i64 0, .int .i64 0, .int .i64 0, .string ⟨#[]⟩, .int .i64 0, .int .u64 0, .int .u64 0] 33)).alloc (.cells #[.slice A1 (n - 1) (cap - 1), .int .i64 0] 50) = w2 ∧ w.heap.size = p) := Lib.hid ⟨hw2.symm, hp.symm⟩
  have hB2 : Below w.heap.size w w2 := by rw [hw2]; exact (((Below.refl _ _).alloc (Nat.le_refl _) _).alloc (by simp) _).alloc (by simp; omega) _
  have hsz : w2.heap.size = p + 3 := by rw [hw2, hp]; simp
  have hp2 : w2.heap[p]? = some (.cells #[.int .u8 0, .int .i64 0, .int .i64 0, .int .i64 0, .int .i64 0, .string ⟨#[]⟩, .int .i64 0, .int .u64 0, .int .u64 0] 33 (0, 0)) := by rw [hw2, hp]; exact (heap_alloc_old _ _ (by simp; omega)).trans ((heap_alloc_old _ _ (by simp)).trans (heap_alloc_new w _))
  have hq2 : w2.heap[p + 1]? = some (.cells #[.int .u8 (k : Int), .int .i64 0, .int .i64 0, .int .i64 0, .int .i64 0, .string ⟨#[]⟩, .int .i64 0, .int .u64 0, .int .u64 0] 33 (0, 0)) := by
    rw [hw2, hp]
    have e := heap_alloc_new (w.alloc (.cells #[.int .u8 0, .int .i64 0, .int .i64 0, .int .i64 0, .int .i64 0, .string ⟨#[]⟩, .int .i64 0, .int .u64 0, .int .u64 0] 33)) (.cells #[.int .u8 (k : Int), .int .i64 0, .int .i64 0, .int .i64 0, .int .i64 0, .string ⟨#[]⟩, .int .i64 0, .int .u64 0, .int .u64 0] 33)
    rw [World.size_alloc] at e
    exact (heap_alloc_old _ _ (by simp)).trans e
  have hg2 : w2.heap[p + 2]? = some (.cells #[.slice A1 (n - 1) (cap - 1), .int .i64 0] 50 (0, 0)) := by
    rw [hw2, hp]
    have e := heap_alloc_new ((w.alloc (.cells #[.int .u8 0, .int .i64 0, .int .i64 0, .int .i64 0, .int .i64 0, .string ⟨#[]⟩, .int .i64 0, .int .u64 0, .int .u64 0] 33)).alloc (.cells #[.int .u8 (k : Int), .int .i64 0, .int .i64 0, .int .i64 0, .int .i64 0, .string ⟨#[]⟩, .int .i64 0, .int .u64 0, .int .u64 0] 33)) (.cells #[.slice A1 (n - 1) (cap - 1), .int .i64 0] 50)
    rw [World.size_alloc, World.size_alloc] at e
    exact e
  have hrn : RdrNe w2 50 (p + 2) 0 r (p + 1) := by
    refine ⟨A1, n - 1, cap - 1, hg2, hr1.later hB2, by omega, by omega, by omega, ?_⟩
    intro b o he _
    have := hpt b o he
    omega
  have HRN := Lib.hid hrn
  have HB2 := Lib.hid hB2
  have HP2 := Lib.hid hp2
  have HQ2 := Lib.hid hq2
  have HSZ := Lib.hid hsz
  have HRB := Lib.hid hrb
  have HKB := Lib.hid hkb
  have HRL : Hid (r.length ≤ 1000) := Lib.hid (by have := hr1.1; omega)
  obtain ⟨RO, hRO⟩ : ∃ RO, RO = refOk (k :: r) := ⟨_, rfl⟩
  obtain ⟨RR, hRR⟩ : ∃ RR, RR = refRec (k :: r) := ⟨_, rfl⟩
  have HRR : Hid (RO = (((refC k r).2.1 == 0) && ((refC k r).2.2.isEmpty && (refC k r).1.ok)) ∧ RR = if RO then (refC k r).1 else rec0 0) := Lib.hid (by rw [hRR, hRO]; exact ⟨rfl, rfl⟩)
  rw [← hRO, ← hRR]
  clear hA1 hr1 h hc hw2 hp hB2 hsz hp2 hq2 hg2 hrn hcell hbb hpt hrb hkb hRO hRR
  go_enter Try.func29, Try.ntmps29
  go_upto_region 5 with fail
  try rw [HCUT.out]
  change Code.wp _ _ _ _ (((w.alloc (.cells #[.int .u8 0, .int .i64 0, .int .i64 0, .int .i64 0, .int .i64 0, .string ⟨#[]⟩, .int .i64 0, .int .u64 0, .int .u64 0] 33)).alloc (.cells #[.int .u8 (k : Int), .int .i64 0, .int .i64 0, .int .i64 0, .int .i64 0, .string ⟨#[]⟩, .int .i64 0, .int .u64 0, .int .u64 0] 33)).alloc (.cells #[.slice A1 (n - 1) (cap - 1), .int .i64 0] 50))
  rw [HW.out.1, HW.out.2]
  clear hc0
  have c0 := (rec_cells HQ2.out).1
  go_upto_block 0 with fail
  go_cut [] (fun wx => ∃ (i b f t c : Int) (dn ds E : Nat) (l rest : List Nat), Hid (wx.heap[p + 1]? = some (.cells #[.int .u8 (k : Int), .int .i64 i, .int .i64 b, .int .i64 f, .int .i64 t, .string (strB l), .int .i64 c, .int .u64 (dn : Int), .int .u64 (ds : Int)] 33 (0, 0)) ∧ RdrNe wx 50 (p + 2) E rest (p + 1) ∧ Save [p + 1, p + 2] w2 wx ∧ refC k r = (⟨k, i, b, f, t, l, c, dn, ds⟩, E, rest)))
  case first =>
    by_cases hk : k = 1
    · subst hk
      have HN0 := HRN
      have HQ0 : Hid (w2.heap[p + 1]? = some (.cells #[.int .u8 1, .int .i64 0, .int .i64 0, .int .i64 0, .int .i64 0, .string ⟨#[]⟩, .int .i64 0, .int .u64 0, .int .u64 0] 33 (0, 0))) := HQ2
      have HS0 : Hid (Save [p + 1, p + 2] w2 w2) := Lib.hid (Save.refl _ _)
      have hc1 := refNumberNe_any w2 (p + 2) 0 r 1099511627776 (p + 1) HN0.out
      obtain ⟨X1, hX1⟩ : ∃ X, X = rNum 0 r 1099511627776 := ⟨_, rfl⟩
      have HX1 := Lib.hid hX1
      have hz1 := rNum_small 0 r 1099511627776 (by omega)
      rw [← hX1] at hc1 hz1
      clear hX1
      obtain ⟨a1, E1, l1⟩ := X1
      simp only at hc1 hz1
      have HC1 := Lib.hid hc1
      clear hc1
      go_wp2_with fail
      refine HC1.out.mono ?_
      rintro e u1 ⟨rfl, hr1, hg1⟩
      obtain ⟨hq1, hs1⟩ := num_step HS0.out HQ0.out (by omega) hg1
      have hset1 := rec_set (i := 1) (v := .int .i64 (a1 : Int)) hq1 #[.int .u8 1, .int .i64 (a1 : Int), .int .i64 0, .int .i64 0, .int .i64 0, .string ⟨#[]⟩, .int .i64 0, .int .u64 0, .int .u64 0] rfl
      obtain ⟨w3, hw3⟩ : ∃ w', w' = u1.setCell ⟨p + 1, 1, none⟩ (.int .i64 (a1 : Int)) := ⟨_, rfl⟩
      have HWE1 := Lib.hid hw3.symm
      rw [hset1] at hw3
      have HQ1 : Hid (w3.heap[p + 1]? = some (.cells #[.int .u8 1, .int .i64 (a1 : Int), .int .i64 0, .int .i64 0, .int .i64 0, .string ⟨#[]⟩, .int .i64 0, .int .u64 0, .int .u64 0] 33 (0, 0))) := Lib.hid (by rw [hw3]; exact put_same hq1)
      have HN1 : Hid (RdrNe w3 50 (p + 2) E1 l1 (p + 1)) := Lib.hid (by rw [hw3]; exact hr1.save ((Save.refl _ _).put (by simp) _))
      have HS1 : Hid (Save [p + 1, p + 2] w2 w3) := Lib.hid (by rw [hw3]; exact hs1.put (by simp) _)
      have x1 : u1.cell? ⟨p + 1, 1, none⟩ = some (.int .i64 0) := by simp [World.cell?, hq1]
      have y1 : u1.frozen? ⟨p + 1, 1, none⟩ = false := by simp [World.frozen?, hq1]
      clear hq1 hs1 hr1 hg1 hw3 hset1
      have hc2 := refNumberNe_any w3 (p + 2) E1 l1 1099511627776 (p + 1) HN1.out
      obtain ⟨X2, hX2⟩ : ∃ X, X = rNum E1 l1 1099511627776 := ⟨_, rfl⟩
      have HX2 := Lib.hid hX2
      have hz2 := rNum_small E1 l1 1099511627776 (by omega)
      rw [← hX2] at hc2 hz2
      clear hX2
      obtain ⟨a2, E2, l2⟩ := X2
      simp only at hc2 hz2
      have HC2 := Lib.hid hc2
      clear hc2
      go_wp2_with fail
      rw [HWE1.out]
      refine HC2.out.mono ?_
      rintro e u2 ⟨rfl, hr2, hg2⟩
      obtain ⟨hq2, hs2⟩ := num_step HS1.out HQ1.out (by omega) hg2
      have hset2 := rec_set (i := 2) (v := .int .i64 (a2 : Int)) hq2 #[.int .u8 1, .int .i64 (a1 : Int), .int .i64 (a2 : Int), .int .i64 0, .int .i64 0, .string ⟨#[]⟩, .int .i64 0, .int .u64 0, .int .u64 0] rfl
      obtain ⟨w4, hw4⟩ : ∃ w', w' = u2.setCell ⟨p + 1, 2, none⟩ (.int .i64 (a2 : Int)) := ⟨_, rfl⟩
      have HWE2 := Lib.hid hw4.symm
      rw [hset2] at hw4
      have HQ2 : Hid (w4.heap[p + 1]? = some (.cells #[.int .u8 1, .int .i64 (a1 : Int), .int .i64 (a2 : Int), .int .i64 0, .int .i64 0, .string ⟨#[]⟩, .int .i64 0, .int .u64 0, .int .u64 0] 33 (0, 0))) := Lib.hid (by rw [hw4]; exact put_same hq2)
      have HN2 : Hid (RdrNe w4 50 (p + 2) E2 l2 (p + 1)) := Lib.hid (by rw [hw4]; exact hr2.save ((Save.refl _ _).put (by simp) _))
      have HS2 : Hid (Save [p + 1, p + 2] w2 w4) := Lib.hid (by rw [hw4]; exact hs2.put (by simp) _)
      have x2 : u2.cell? ⟨p + 1, 2, none⟩ = some (.int .i64 0) := by simp [World.cell?, hq2]
      have y2 : u2.frozen? ⟨p + 1, 2, none⟩ = false := by simp [World.frozen?, hq2]
      clear hq2 hs2 hr2 hg2 hw4 hset2
      go_wp2_with fail
      go_meet
      rw [HWE2.out]
      refine ⟨a1, a2, 0, 0, 0, 0, 0, E2, [], l2, Lib.hid ⟨HQ2.out, HN2.out, HS2.out, ?_⟩⟩
      simp [refC, refH, twoN, ← HX1.out, ← HX2.out]
    by_cases hk2 : k = 2
    · have hk := hk2
      clear hk2
      subst hk
      have HN0 := HRN
      have HQ0 : Hid (w2.heap[p + 1]? = some (.cells #[.int .u8 2, .int .i64 0, .int .i64 0, .int .i64 0, .int .i64 0, .string ⟨#[]⟩, .int .i64 0, .int .u64 0, .int .u64 0] 33 (0, 0))) := HQ2
      have HS0 : Hid (Save [p + 1, p + 2] w2 w2) := Lib.hid (Save.refl _ _)
      have hc1 := refNumberNe_any w2 (p + 2) 0 r 255 (p + 1) HN0.out
      obtain ⟨X1, hX1⟩ : ∃ X, X = rNum 0 r 255 := ⟨_, rfl⟩
      have HX1 := Lib.hid hX1
      have hz1 := rNum_small 0 r 255 (by omega)
      rw [← hX1] at hc1 hz1
      clear hX1
      obtain ⟨a1, E1, l1⟩ := X1
      simp only at hc1 hz1
      have HC1 := Lib.hid hc1
      clear hc1
      go_wp2_with fail
      refine HC1.out.mono ?_
      rintro e u1 ⟨rfl, hr1, hg1⟩
      obtain ⟨hq1, hs1⟩ := num_step HS0.out HQ0.out (by omega) hg1
      have hset1 := rec_set (i := 3) (v := .int .i64 (a1 : Int)) hq1 #[.int .u8 2, .int .i64 0, .int .i64 0, .int .i64 (a1 : Int), .int .i64 0, .string ⟨#[]⟩, .int .i64 0, .int .u64 0, .int .u64 0] rfl
      obtain ⟨w3, hw3⟩ : ∃ w', w' = u1.setCell ⟨p + 1, 3, none⟩ (.int .i64 (a1 : Int)) := ⟨_, rfl⟩
      have HWE1 := Lib.hid hw3.symm
      rw [hset1] at hw3
      have HQ1 : Hid (w3.heap[p + 1]? = some (.cells #[.int .u8 2, .int .i64 0, .int .i64 0, .int .i64 (a1 : Int), .int .i64 0, .string ⟨#[]⟩, .int .i64 0, .int .u64 0, .int .u64 0] 33 (0, 0))) := Lib.hid (by rw [hw3]; exact put_same hq1)
      have HN1 : Hid (RdrNe w3 50 (p + 2) E1 l1 (p + 1)) := Lib.hid (by rw [hw3]; exact hr1.save ((Save.refl _ _).put (by simp) _))
      have HS1 : Hid (Save [p + 1, p + 2] w2 w3) := Lib.hid (by rw [hw3]; exact hs1.put (by simp) _)
      have x1 : u1.cell? ⟨p + 1, 3, none⟩ = some (.int .i64 0) := by simp [World.cell?, hq1]
      have y1 : u1.frozen? ⟨p + 1, 3, none⟩ = false := by simp [World.frozen?, hq1]
      clear hq1 hs1 hr1 hg1 hw3 hset1
      obtain ⟨aR, nR, cR, hgR, hrR, hcR, hmR, _, hbR⟩ := HN1.out
      have hl1 : nR = l1.length := hrR.1.symm
      subst hl1
      obtain ⟨T, hT⟩ : ∃ T, T = a1 + l1.length / 32 := ⟨_, rfl⟩
      have ha1 : a1 ≤ 255 := by have := rNum_le 0 r 255; rw [← HX1.out] at this; exact this
      have hT1 : (a1 : Int) + (l1.length : Int) / 32 = (T : Int) := by omega
      obtain ⟨m1, hm1⟩ : ∃ m1, m1 = l1.length := ⟨_, rfl⟩
      have HM1 := Lib.hid hm1
      rw [← hm1] at hgR hrR hcR hmR hbR hT1 hT
      have HT := Lib.hid hT
      have g0 : w3.cell? ⟨p + 2, 0, none⟩ = some (.slice aR m1 cR) := by simp [World.cell?, hgR]
      have f3 : w3.cell? ⟨p + 1, 3, none⟩ = some (.int .i64 (a1 : Int)) := by simp [World.cell?, HQ1.out]
      have f4 : w3.cell? ⟨p + 1, 4, none⟩ = some (.int .i64 0) := by simp [World.cell?, HQ1.out]
      have z4 : w3.frozen? ⟨p + 1, 4, none⟩ = false := by simp [World.frozen?, HQ1.out]
      have HGR := Lib.hid hgR
      have HRR1 := Lib.hid hrR
      clear hm1 hT hgR hrR hbR
      go_upto_region 12 with fail
      rw [HWE1.out]
      go_region
      have hset5 := rec_set (i := 4) (v := .int .i64 (T : Int)) HQ1.out #[.int .u8 2, .int .i64 0, .int .i64 0, .int .i64 (a1 : Int), .int .i64 (T : Int), .string ⟨#[]⟩, .int .i64 0, .int .u64 0, .int .u64 0] rfl
      obtain ⟨w5, hw5⟩ : ∃ w5, w5 = (w3.setCell ⟨p + 1, 4, none⟩ (.int .i64 (T : Int))).drew := ⟨_, rfl⟩
      rw [← hw5]
      have hw5b : w5 = (put w3 (p + 1) (.cells #[.int .u8 2, .int .i64 0, .int .i64 0, .int .i64 (a1 : Int), .int .i64 (T : Int), .string ⟨#[]⟩, .int .i64 0, .int .u64 0, .int .u64 0] 33 (0, 0))).drew := by rw [hw5, hset5]
      have HQ5 : Hid (w5.heap[p + 1]? = some (.cells #[.int .u8 2, .int .i64 0, .int .i64 0, .int .i64 (a1 : Int), .int .i64 (T : Int), .string ⟨#[]⟩, .int .i64 0, .int .u64 0, .int .u64 0] 33 (0, 0))) := Lib.hid (by rw [hw5b]; exact put_same HQ1.out)
      have HG5 : Hid (w5.heap[p + 2]? = some (.cells #[.slice aR m1 cR, .int .i64 (E1 : Int)] 50 (0, 0))) := Lib.hid (by rw [hw5b]; exact (put_other (w := w3) (g := p + 1) (by omega)).trans HGR.out)
      have hs35 : Save [p + 1] w3 w5 := by rw [hw5b]; exact ((Save.refl _ _).put (by simp) _).drew
      have HS5 : Hid (Save [p + 1, p + 2] w2 w5) := Lib.hid (HS1.out.trans (hs35.mono (by simp)))
      have hr5 : Rd w5 aR m1 l1 := by
        have hne := HN1.out
        obtain ⟨aR', nR', cR', hgR', hrR', _, _, _, hbR'⟩ := hne
        have hnn : nR' = m1 := by have h1 := hrR'.1; have h2 := HM1.out; omega
        rw [HGR.out] at hgR'
        simp only [Option.some.injEq, Obj.cells.injEq, Array.mk.injEq, List.cons.injEq, Value.slice.injEq, and_true] at hgR'
        obtain ⟨⟨rfl, rfl, rfl⟩, _⟩ := hgR'
        rcases Nat.eq_zero_or_pos m1 with h0 | h0
        · exact ⟨HRR1.out.1, HRR1.out.2.1, by omega⟩
        · exact HRR1.out.save hs35 fun b o he => by simpa using hbR' b o he (by omega)
      have hcv := conv_rd hr5 cR
      have HBL := Lib.hid hr5.2.1
      have g5 : w5.cell? ⟨p + 2, 0, none⟩ = some (.slice aR m1 cR) := by simp [World.cell?, HG5.out]
      have q5 : w5.cell? ⟨p + 1, 5, none⟩ = some (.string ⟨#[]⟩) := by simp [World.cell?, HQ5.out]
      have qf5 : w5.frozen? ⟨p + 1, 5, none⟩ = false := by simp [World.frozen?, HQ5.out]
      have hset6 := rec_set (i := 5) (v := .string (strB l1)) HQ5.out #[.int .u8 2, .int .i64 0, .int .i64 0, .int .i64 (a1 : Int), .int .i64 (T : Int), .string (strB l1), .int .i64 0, .int .u64 0, .int .u64 0] rfl
      obtain ⟨w6, hw6⟩ : ∃ w6, w6 = w5.setCell ⟨p + 1, 5, none⟩ (.string (strB l1)) := ⟨_, rfl⟩
      have HWE6 := Lib.hid hw6.symm
      rw [hset6] at hw6
      have HQ6 : Hid (w6.heap[p + 1]? = some (.cells #[.int .u8 2, .int .i64 0, .int .i64 0, .int .i64 (a1 : Int), .int .i64 (T : Int), .string (strB l1), .int .i64 0, .int .u64 0, .int .u64 0] 33 (0, 0))) := Lib.hid (by rw [hw6]; exact put_same HQ5.out)
      have HG6 : Hid (w6.heap[p + 2]? = some (.cells #[.slice aR m1 cR, .int .i64 (E1 : Int)] 50 (0, 0))) := Lib.hid (by rw [hw6]; exact (put_other (by omega)).trans HG5.out)
      have HS6 : Hid (Save [p + 1, p + 2] w2 w6) := Lib.hid (by rw [hw6]; exact HS5.out.put (by simp) _)
      have hset7 := set_put (i := 0) (.slice none 0 0) HG6.out
      have g6 : w6.cell? ⟨p + 2, 0, none⟩ = some (.slice aR m1 cR) := by simp [World.cell?, HG6.out]
      have gf6 : w6.frozen? ⟨p + 2, 0, none⟩ = false := by simp [World.frozen?, HG6.out]
      clear hset5 hw5 hw5b hset6 hs35 hr5 f3 f4 z4 g0 hw6
      go_upto_region 14 with fail
      rw [HWE6.out]
      clear g5 q5 qf5 hcv
      go_wp2_with fail
      go_meet
      try rw [hset7]
      refine ⟨0, 0, a1, T, 0, 0, 0, E1, l1, [], Lib.hid ⟨(put_other (by omega)).trans HQ6.out, ⟨none, 0, 0, put_same HG6.out, ⟨rfl, by simp, by omega⟩, by omega, by omega, by omega, fun b o he => by cases he⟩, HS6.out.put (by simp) _, ?_⟩⟩
      simp [refC, refD, ← HX1.out, HT.out, HM1.out]
    by_cases hk3 : k = 3
    · have hk := hk3
      clear hk3
      subst hk
      have HN0 := HRN
      have HQ0 : Hid (w2.heap[p + 1]? = some (.cells #[.int .u8 3, .int .i64 0, .int .i64 0, .int .i64 0, .int .i64 0, .string ⟨#[]⟩, .int .i64 0, .int .u64 0, .int .u64 0] 33 (0, 0))) := HQ2
      have HS0 : Hid (Save [p + 1, p + 2] w2 w2) := Lib.hid (Save.refl _ _)
      have hc1 := refNumberNe_any w2 (p + 2) 0 r 255 (p + 1) HN0.out
      obtain ⟨X1, hX1⟩ : ∃ X, X = rNum 0 r 255 := ⟨_, rfl⟩
      have HX1 := Lib.hid hX1
      have hz1 := rNum_small 0 r 255 (by omega)
      rw [← hX1] at hc1 hz1
      clear hX1
      obtain ⟨a1, E1, l1⟩ := X1
      simp only at hc1 hz1
      have HC1 := Lib.hid hc1
      clear hc1
      go_wp2_with fail
      refine HC1.out.mono ?_
      rintro e u1 ⟨rfl, hr1, hg1⟩
      obtain ⟨hq1, hs1⟩ := num_step HS0.out HQ0.out (by omega) hg1
      have hset1 := rec_set (i := 3) (v := .int .i64 (a1 : Int)) hq1 #[.int .u8 3, .int .i64 0, .int .i64 0, .int .i64 (a1 : Int), .int .i64 0, .string ⟨#[]⟩, .int .i64 0, .int .u64 0, .int .u64 0] rfl
      obtain ⟨w3, hw3⟩ : ∃ w', w' = u1.setCell ⟨p + 1, 3, none⟩ (.int .i64 (a1 : Int)) := ⟨_, rfl⟩
      have HWE1 := Lib.hid hw3.symm
      rw [hset1] at hw3
      have HQ1 : Hid (w3.heap[p + 1]? = some (.cells #[.int .u8 3, .int .i64 0, .int .i64 0, .int .i64 (a1 : Int), .int .i64 0, .string ⟨#[]⟩, .int .i64 0, .int .u64 0, .int .u64 0] 33 (0, 0))) := Lib.hid (by rw [hw3]; exact put_same hq1)
      have HN1 : Hid (RdrNe w3 50 (p + 2) E1 l1 (p + 1)) := Lib.hid (by rw [hw3]; exact hr1.save ((Save.refl _ _).put (by simp) _))
      have HS1 : Hid (Save [p + 1, p + 2] w2 w3) := Lib.hid (by rw [hw3]; exact hs1.put (by simp) _)
      have x1 : u1.cell? ⟨p + 1, 3, none⟩ = some (.int .i64 0) := by simp [World.cell?, hq1]
      have y1 : u1.frozen? ⟨p + 1, 3, none⟩ = false := by simp [World.frozen?, hq1]
      clear hq1 hs1 hr1 hg1 hw3 hset1
      have hc2 := refNumberNe_any w3 (p + 2) E1 l1 256 (p + 1) HN1.out
      obtain ⟨X2, hX2⟩ : ∃ X, X = rNum E1 l1 256 := ⟨_, rfl⟩
      have HX2 := Lib.hid hX2
      have hz2 := rNum_small E1 l1 256 (by omega)
      rw [← hX2] at hc2 hz2
      clear hX2
      obtain ⟨a2, E2, l2⟩ := X2
      simp only at hc2 hz2
      have HC2 := Lib.hid hc2
      clear hc2
      go_wp2_with fail
      rw [HWE1.out]
      refine HC2.out.mono ?_
      rintro e u2 ⟨rfl, hr2, hg2⟩
      obtain ⟨hq2, hs2⟩ := num_step HS1.out HQ1.out (by omega) hg2
      have hset2 := rec_set (i := 4) (v := .int .i64 (a2 : Int)) hq2 #[.int .u8 3, .int .i64 0, .int .i64 0, .int .i64 (a1 : Int), .int .i64 (a2 : Int), .string ⟨#[]⟩, .int .i64 0, .int .u64 0, .int .u64 0] rfl
      obtain ⟨w4, hw4⟩ : ∃ w', w' = u2.setCell ⟨p + 1, 4, none⟩ (.int .i64 (a2 : Int)) := ⟨_, rfl⟩
      have HWE2 := Lib.hid hw4.symm
      rw [hset2] at hw4
      have HQ2 : Hid (w4.heap[p + 1]? = some (.cells #[.int .u8 3, .int .i64 0, .int .i64 0, .int .i64 (a1 : Int), .int .i64 (a2 : Int), .string ⟨#[]⟩, .int .i64 0, .int .u64 0, .int .u64 0] 33 (0, 0))) := Lib.hid (by rw [hw4]; exact put_same hq2)
      have HN2 : Hid (RdrNe w4 50 (p + 2) E2 l2 (p + 1)) := Lib.hid (by rw [hw4]; exact hr2.save ((Save.refl _ _).put (by simp) _))
      have HS2 : Hid (Save [p + 1, p + 2] w2 w4) := Lib.hid (by rw [hw4]; exact hs2.put (by simp) _)
      have x2 : u2.cell? ⟨p + 1, 4, none⟩ = some (.int .i64 0) := by simp [World.cell?, hq2]
      have y2 : u2.frozen? ⟨p + 1, 4, none⟩ = false := by simp [World.frozen?, hq2]
      clear hq2 hs2 hr2 hg2 hw4 hset2
      go_wp2_with fail
      go_meet
      rw [HWE2.out]
      refine ⟨0, 0, a1, a2, 0, 0, 0, E2, [], l2, Lib.hid ⟨HQ2.out, HN2.out, HS2.out, ?_⟩⟩
      simp [refC, refO, twoN, ← HX1.out, ← HX2.out]
    by_cases hk4 : k = 4
    · have hk := hk4
      clear hk4
      subst hk
      have HN0 := HRN
      have HQ0 : Hid (w2.heap[p + 1]? = some (.cells #[.int .u8 4, .int .i64 0, .int .i64 0, .int .i64 0, .int .i64 0, .string ⟨#[]⟩, .int .i64 0, .int .u64 0, .int .u64 0] 33 (0, 0))) := HQ2
      have HS0 : Hid (Save [p + 1, p + 2] w2 w2) := Lib.hid (Save.refl _ _)
      have hc1 := refNumberNe_any w2 (p + 2) 0 r 1099511627776 (p + 1) HN0.out
      obtain ⟨X1, hX1⟩ : ∃ X, X = rNum 0 r 1099511627776 := ⟨_, rfl⟩
      have HX1 := Lib.hid hX1
      have hz1 := rNum_small 0 r 1099511627776 (by omega)
      rw [← hX1] at hc1 hz1
      clear hX1
      obtain ⟨a1, E1, l1⟩ := X1
      simp only at hc1 hz1
      have HC1 := Lib.hid hc1
      clear hc1
      go_wp2_with fail
      refine HC1.out.mono ?_
      rintro e u1 ⟨rfl, hr1, hg1⟩
      obtain ⟨hq1, hs1⟩ := num_step HS0.out HQ0.out (by omega) hg1
      have hset1 := rec_set (i := 6) (v := .int .i64 (a1 : Int)) hq1 #[.int .u8 4, .int .i64 0, .int .i64 0, .int .i64 0, .int .i64 0, .string ⟨#[]⟩, .int .i64 (a1 : Int), .int .u64 0, .int .u64 0] rfl
      obtain ⟨w3, hw3⟩ : ∃ w', w' = u1.setCell ⟨p + 1, 6, none⟩ (.int .i64 (a1 : Int)) := ⟨_, rfl⟩
      have HWE1 := Lib.hid hw3.symm
      rw [hset1] at hw3
      have HQ1 : Hid (w3.heap[p + 1]? = some (.cells #[.int .u8 4, .int .i64 0, .int .i64 0, .int .i64 0, .int .i64 0, .string ⟨#[]⟩, .int .i64 (a1 : Int), .int .u64 0, .int .u64 0] 33 (0, 0))) := Lib.hid (by rw [hw3]; exact put_same hq1)
      have HN1 : Hid (RdrNe w3 50 (p + 2) E1 l1 (p + 1)) := Lib.hid (by rw [hw3]; exact hr1.save ((Save.refl _ _).put (by simp) _))
      have HS1 : Hid (Save [p + 1, p + 2] w2 w3) := Lib.hid (by rw [hw3]; exact hs1.put (by simp) _)
      have x1 : u1.cell? ⟨p + 1, 6, none⟩ = some (.int .i64 0) := by simp [World.cell?, hq1]
      have y1 : u1.frozen? ⟨p + 1, 6, none⟩ = false := by simp [World.frozen?, hq1]
      clear hq1 hs1 hr1 hg1 hw3 hset1
      have hc2 := refNumberNe_any w3 (p + 2) E1 l1 1099511627776 (p + 1) HN1.out
      obtain ⟨X2, hX2⟩ : ∃ X, X = rNum E1 l1 1099511627776 := ⟨_, rfl⟩
      have HX2 := Lib.hid hX2
      rw [← hX2] at hc2
      clear hX2
      obtain ⟨a2, E2, l2⟩ := X2
      simp only at hc2
      have HC2 := Lib.hid hc2
      clear hc2
      go_wp2_with fail
      rw [HWE1.out]
      refine HC2.out.mono ?_
      rintro e u2 ⟨rfl, hr2, hg2⟩
      obtain ⟨hq2, hs2⟩ := num_step HS1.out HQ1.out (by omega) hg2
      have hset2 := rec_set (i := 7) (v := .int .u64 (a2 : Int)) hq2 #[.int .u8 4, .int .i64 0, .int .i64 0, .int .i64 0, .int .i64 0, .string ⟨#[]⟩, .int .i64 (a1 : Int), .int .u64 (a2 : Int), .int .u64 0] rfl
      obtain ⟨w4, hw4⟩ : ∃ w', w' = u2.setCell ⟨p + 1, 7, none⟩ (.int .u64 (a2 : Int)) := ⟨_, rfl⟩
      have HWE2 := Lib.hid hw4.symm
      rw [hset2] at hw4
      have HQ2 : Hid (w4.heap[p + 1]? = some (.cells #[.int .u8 4, .int .i64 0, .int .i64 0, .int .i64 0, .int .i64 0, .string ⟨#[]⟩, .int .i64 (a1 : Int), .int .u64 (a2 : Int), .int .u64 0] 33 (0, 0))) := Lib.hid (by rw [hw4]; exact put_same hq2)
      have HN2 : Hid (RdrNe w4 50 (p + 2) E2 l2 (p + 1)) := Lib.hid (by rw [hw4]; exact hr2.save ((Save.refl _ _).put (by simp) _))
      have HS2 : Hid (Save [p + 1, p + 2] w2 w4) := Lib.hid (by rw [hw4]; exact hs2.put (by simp) _)
      have x2 : u2.cell? ⟨p + 1, 7, none⟩ = some (.int .u64 0) := by simp [World.cell?, hq2]
      have y2 : u2.frozen? ⟨p + 1, 7, none⟩ = false := by simp [World.frozen?, hq2]
      clear hq2 hs2 hr2 hg2 hw4 hset2
      have hc3 := refNumberNe_any w4 (p + 2) E2 l2 18446744073709551615 (p + 1) HN2.out
      obtain ⟨X3, hX3⟩ : ∃ X, X = rNum E2 l2 18446744073709551615 := ⟨_, rfl⟩
      have HX3 := Lib.hid hX3
      rw [← hX3] at hc3
      clear hX3
      obtain ⟨a3, E3, l3⟩ := X3
      simp only at hc3
      have HC3 := Lib.hid hc3
      clear hc3
      go_wp2_with fail
      rw [HWE2.out]
      refine HC3.out.mono ?_
      rintro e u3 ⟨rfl, hr3, hg3⟩
      obtain ⟨hq3, hs3⟩ := num_step HS2.out HQ2.out (by omega) hg3
      have hset3 := rec_set (i := 8) (v := .int .u64 (a3 : Int)) hq3 #[.int .u8 4, .int .i64 0, .int .i64 0, .int .i64 0, .int .i64 0, .string ⟨#[]⟩, .int .i64 (a1 : Int), .int .u64 (a2 : Int), .int .u64 (a3 : Int)] rfl
      obtain ⟨w5, hw5⟩ : ∃ w', w' = u3.setCell ⟨p + 1, 8, none⟩ (.int .u64 (a3 : Int)) := ⟨_, rfl⟩
      have HWE3 := Lib.hid hw5.symm
      rw [hset3] at hw5
      have HQ3 : Hid (w5.heap[p + 1]? = some (.cells #[.int .u8 4, .int .i64 0, .int .i64 0, .int .i64 0, .int .i64 0, .string ⟨#[]⟩, .int .i64 (a1 : Int), .int .u64 (a2 : Int), .int .u64 (a3 : Int)] 33 (0, 0))) := Lib.hid (by rw [hw5]; exact put_same hq3)
      have HN3 : Hid (RdrNe w5 50 (p + 2) E3 l3 (p + 1)) := Lib.hid (by rw [hw5]; exact hr3.save ((Save.refl _ _).put (by simp) _))
      have HS3 : Hid (Save [p + 1, p + 2] w2 w5) := Lib.hid (by rw [hw5]; exact hs3.put (by simp) _)
      have x3 : u3.cell? ⟨p + 1, 8, none⟩ = some (.int .u64 0) := by simp [World.cell?, hq3]
      have y3 : u3.frozen? ⟨p + 1, 8, none⟩ = false := by simp [World.frozen?, hq3]
      clear hq3 hs3 hr3 hg3 hw5 hset3
      go_wp2_with fail
      go_meet
      rw [HWE3.out]
      refine ⟨0, 0, 0, 0, a1, a2, a3, E3, [], l3, Lib.hid ⟨HQ3.out, HN3.out, HS3.out, ?_⟩⟩
      simp [refC, refT, threeN, ← HX1.out, ← HX2.out, ← HX3.out]
    have e1 : ((k : Int) == 1) = false := by simp; omega
    have e2 : ((k : Int) == 2) = false := by simp; omega
    have e3 : ((k : Int) == 3) = false := by simp; omega
    have e4 : ((k : Int) == 4) = false := by simp; omega
    have HCA : Hid (refC k r = (rec0 k, 0, r)) := Lib.hid (by simp [refC, hk, hk2, hk3, hk4])
    clear hk hk2 hk3 hk4
    go_wp2_with fail
    go_meet
    exact ⟨0, 0, 0, 0, 0, 0, 0, 0, [], r, Lib.hid ⟨HQ2.out, HRN.out, Save.refl _ _, HCA.out⟩⟩
  case rest =>
    obtain ⟨i, b, f, t, c, dn, ds, E, l, rest, HC⟩ := hcut
    clear c0
    obtain ⟨aR, nR, cR, hgR, hrR, hcR, hmR, _, _⟩ := HC.out.2.1
    have HNR : Hid (rest.length = nR) := Lib.hid hrR.1
    have hx : (refC k r).1 = ⟨k, i, b, f, t, l, c, dn, ds⟩ := by rw [HC.out.2.2.2]
    have HFI : Hid (Rec.fits ⟨k, i, b, f, t, l, c, dn, ds⟩ ∧ ∀ z ∈ l, z < 256) := Lib.hid (by
      have h1 := refC_fits k r HKB.out HRB.out (by have := HRL.out; omega)
      rw [hx] at h1
      exact h1)
    have HRI := Lib.hid (right_any ⟨k, i, b, f, t, l, c, dn, ds⟩ wc HFI.out.1 HFI.out.2)
    have HRO : Hid (RO = ((E == 0) && (rest.isEmpty && Rec.ok ⟨k, i, b, f, t, l, c, dn, ds⟩))) := Lib.hid (by have := HRR.out.1; rw [HC.out.2.2.2] at this; exact this)
    have HRX : Hid (RR = if RO then ⟨k, i, b, f, t, l, c, dn, ds⟩ else rec0 0) := Lib.hid (by have := HRR.out.2; rw [hx] at this; exact this)
    obtain ⟨V, hV⟩ : ∃ V, V = Rec.ok ⟨k, i, b, f, t, l, c, dn, ds⟩ := ⟨_, rfl⟩
    rw [← hV] at HRI HRO
    have HGR := Lib.hid hgR
    have HQC := Lib.hid HC.out.1
    have HPC : Hid (wc.heap[p]? = some (.cells #[.int .u8 0, .int .i64 0, .int .i64 0, .int .i64 0, .int .i64 0, .string ⟨#[]⟩, .int .i64 0, .int .u64 0, .int .u64 0] 33 (0, 0))) := Lib.hid ((HC.out.2.2.1.block p (by have := HSZ.out; omega) (by simp)).trans HP2.out)
    have HBC : Hid (Below w.heap.size w wc) := Lib.hid (HB2.out.trans (HC.out.2.2.1.below HB2.out.size (by have := HW.out.2; simp; omega)))
    obtain ⟨c0, c1, c2, c3, c4, c5, c6, c7, c8⟩ := rec_cells HQC.out
    clear hgR hrR hcR hmR hx hV HC
    simp only [pcV] at HRI
    go_wp2_with fail
    refine HRI.out.mono ?_
    rintro e w4 ⟨rfl, hb4⟩
    have HGR4 := Lib.hid ((hb4.block (p + 2) (lt_of_block HGR.out)).trans HGR.out)
    have HQ4 := Lib.hid ((hb4.block (p + 1) (lt_of_block HQC.out)).trans HQC.out)
    have HP4 := Lib.hid ((hb4.block p (lt_of_block HPC.out)).trans HPC.out)
    have HB4 : Hid (Below w.heap.size w w4) := Lib.hid (HBC.out.trans (hb4.mono HBC.out.size))
    clear hb4 c0 c1 c2 c3 c4 c5 c6 c7 c8
    have g0 : w4.cell? ⟨p + 2, 0, none⟩ = some (.slice aR nR cR) := by simp [World.cell?, HGR4.out]
    have g1 : w4.cell? ⟨p + 2, 1, none⟩ = some (.int .i64 (E : Int)) := by simp [World.cell?, HGR4.out]
    obtain ⟨c0, c1, c2, c3, c4, c5, c6, c7, c8⟩ := rec_cells HQ4.out
    have hpz := HP4.out
    obtain ⟨z0, z1, z2, z3, z4, z5, z6, z7, z8⟩ := rec_cells hpz
    have y0 : w4.frozen? ⟨p, 0, none⟩ = false := by simp [World.frozen?, hpz]
    have y1 : w4.frozen? ⟨p, 1, none⟩ = false := by simp [World.frozen?, hpz]
    have y2 : w4.frozen? ⟨p, 2, none⟩ = false := by simp [World.frozen?, hpz]
    have y3 : w4.frozen? ⟨p, 3, none⟩ = false := by simp [World.frozen?, hpz]
    have y4 : w4.frozen? ⟨p, 4, none⟩ = false := by simp [World.frozen?, hpz]
    have y5 : w4.frozen? ⟨p, 5, none⟩ = false := by simp [World.frozen?, hpz]
    have y6 : w4.frozen? ⟨p, 6, none⟩ = false := by simp [World.frozen?, hpz]
    have y7 : w4.frozen? ⟨p, 7, none⟩ = false := by simp [World.frozen?, hpz]
    have y8 : w4.frozen? ⟨p, 8, none⟩ = false := by simp [World.frozen?, hpz]
    have hputz := rec_put (v0 := .int .u8 0) (v1 := .int .i64 0) (v2 := .int .i64 0) (v3 := .int .i64 0) (v4 := .int .i64 0) (v5 := .string ⟨#[]⟩) (v6 := .int .i64 0) (v7 := .int .u64 0) (v8 := .int .u64 0) hpz
    rw [put_self hpz] at hputz
    have HPZ := Lib.hid hputz
    have hputx := rec_put (v0 := .int .u8 (k : Int)) (v1 := .int .i64 i) (v2 := .int .i64 b) (v3 := .int .i64 f) (v4 := .int .i64 t) (v5 := .string (strB l)) (v6 := .int .i64 c) (v7 := .int .u64 (dn : Int)) (v8 := .int .u64 (ds : Int)) hpz
    have HPX := Lib.hid hputx
    clear hputz hputx hpz
    by_cases hE : E = 0
    · subst hE
      by_cases hn0 : nR = 0
      · subst hn0
        have hr0 : rest = [] := List.eq_nil_of_length_eq_zero HNR.out
        cases V
        · have hRO : RO = false := by rw [HRO.out]; simp
          have hRX : RR = rec0 0 := by rw [HRX.out, hRO]; simp
          subst hRO hRX
          go_wp2_with fail
          rw [HPZ.out]
          refine bodyPost_ret (v := .tuple #[.agg #[.int .u8 0, .int .i64 0, .int .i64 0, .int .i64 0, .int .i64 0, .string ⟨#[]⟩, .int .i64 0, .int .u64 0, .int .u64 0], .bool false]) (by simp [results, Try.results29, go_sem, z0, z1, z2, z3, z4, z5, z6, z7, z8]; try rfl) rfl ?_
          exact ⟨by simp [pcV, rec0, strB_nil], HB4.out⟩
        · have hRO : RO = true := by rw [HRO.out, hr0]; rfl
          have hRX : RR = ⟨k, i, b, f, t, l, c, dn, ds⟩ := by rw [HRX.out, hRO]; simp
          subst hRO hRX
          go_wp2_with fail
          rw [HPX.out]
          clear z0 z1 z2 z3 z4 z5 z6 z7 z8 y0 y1 y2 y3 y4 y5 y6 y7 y8
          have hp9 := put_same (o := .cells #[.int .u8 (k : Int), .int .i64 i, .int .i64 b, .int .i64 f, .int .i64 t, .string (strB l), .int .i64 c, .int .u64 (dn : Int), .int .u64 (ds : Int)] 33 (0, 0)) HP4.out
          have hbl9 : Below w.heap.size w (put w4 p (.cells #[.int .u8 (k : Int), .int .i64 i, .int .i64 b, .int .i64 f, .int .i64 t, .string (strB l), .int .i64 c, .int .u64 (dn : Int), .int .u64 (ds : Int)] 33 (0, 0))) := HB4.out.trans (put_below _ (Nat.le_of_eq HW.out.2))
          generalize put w4 p (.cells #[.int .u8 (k : Int), .int .i64 i, .int .i64 b, .int .i64 f, .int .i64 t, .string (strB l), .int .i64 c, .int .u64 (dn : Int), .int .u64 (ds : Int)] 33 (0, 0)) = w9 at hp9 hbl9 ⊢
          have HB9 := Lib.hid hbl9
          clear hbl9
          obtain ⟨d0, d1, d2, d3, d4, d5, d6, d7, d8⟩ := rec_cells hp9
          refine bodyPost_ret (v := .tuple #[.agg #[.int .u8 (k : Int), .int .i64 i, .int .i64 b, .int .i64 f, .int .i64 t, .string (strB l), .int .i64 c, .int .u64 (dn : Int), .int .u64 (ds : Int)], .bool true]) (by simp [results, Try.results29, go_sem, d0, d1, d2, d3, d4, d5, d6, d7, d8]; try rfl) rfl ?_
          exact ⟨by simp [pcV], HB9.out⟩
      · have hn1 : 0 < (nR : Int) := by omega
        have hRO : RO = false := by
          rw [HRO.out]
          cases hrr : rest with
          | nil => have := HNR.out; rw [hrr] at this; simp at this; omega
          | cons a r => simp
        have hRX : RR = rec0 0 := by rw [HRX.out, hRO]; simp
        subst hRO hRX
        clear hn0
        go_wp2_with fail
        rw [HPZ.out]
        refine bodyPost_ret (v := .tuple #[.agg #[.int .u8 0, .int .i64 0, .int .i64 0, .int .i64 0, .int .i64 0, .string ⟨#[]⟩, .int .i64 0, .int .u64 0, .int .u64 0], .bool false]) (by simp [results, Try.results29, go_sem, z0, z1, z2, z3, z4, z5, z6, z7, z8]; try rfl) rfl ?_
        exact ⟨by simp [pcV, rec0, strB_nil], HB4.out⟩
    · have hE1 : ((E : Int) != 0) = true := by simp; omega
      have hRO : RO = false := by rw [HRO.out]; simp [beq_eq_false_iff_ne.2 hE]
      have hRX : RR = rec0 0 := by rw [HRX.out, hRO]; simp
      subst hRO hRX
      clear hE
      go_wp2_with fail
      rw [HPZ.out]
      refine bodyPost_ret (v := .tuple #[.agg #[.int .u8 0, .int .i64 0, .int .i64 0, .int .i64 0, .int .i64 0, .string ⟨#[]⟩, .int .i64 0, .int .u64 0, .int .u64 0], .bool false]) (by simp [results, Try.results29, go_sem, z0, z1, z2, z3, z4, z5, z6, z7, z8]; try rfl) rfl ?_
      exact ⟨by simp [pcV, rec0, strB_nil], HB4.out⟩

/-- What sealed bytes come to, by the document. -/
theorem rparse_any (a : Option Addr) (n cap : Nat) (l : List Nat) (w : World) (h : Rd w a n l) (hn : n ≤ 1000) (hc : n ≤ cap) :
    Calls Try.prog 29 #[.slice a n cap] w fun e w' => e = .returned (.tuple #[pcV (refRec l), .bool (refOk l)]) ∧ Below w.heap.size w w' := by
  match l with
  | [] =>
    obtain rfl : n = 0 := by have := h.1; simpa using this.symm
    exact rparse_empty a cap w
  | k :: r =>
    obtain ⟨b, o, rfl, _⟩ := h.2.2 (by have := h.1; simp at this; omega)
    exact rparse_some b o n cap k r w h hn hc

end Go.Proofs.Ytngnlnkkehnomaa
