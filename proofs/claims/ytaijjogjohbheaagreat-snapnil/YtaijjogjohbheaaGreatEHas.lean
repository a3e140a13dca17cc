/- The contracts of slices.BinarySearchFunc as package extent calls it, of a set's Has and Len, over any world. -/
import Derived.Test.YtaijjogjohbheaaGreatECount
import Derived.Deep.RegionHeld3
namespace Go.Proofs.YtaijjogjohbheaaGreat
open Go.RowKit
set_option maxRecDepth 100000

theorem cmpI_neg {x y : Int} (h : x < y) : cmpI x y = -1 := by simp [cmpI, h]
theorem cmpI_zero (x : Int) : cmpI x x = 0 := by simp [cmpI]
theorem cmpI_pos {x y : Int} (h : y < x) : cmpI x y = 1 := by
  unfold cmpI
  rw [if_neg (by omega), if_pos h]

theorem Canon.get {a : Int} {M : List Rn} (h : Canon a M) : ∀ k, k < M.length → a < (M.getD k default).f ∧ (M.getD k default).f < (M.getD k default).t ∧ ∀ l, k < l → l < M.length → (M.getD k default).t < (M.getD l default).f := by
  induction M generalizing a with
  | nil => intro k hk; simp at hk
  | cons r M ih =>
    obtain ⟨h1, h2, h3⟩ := h
    intro k hk
    cases k with
    | zero =>
      refine ⟨h1, h2, fun l hl hlt => ?_⟩
      cases l with
      | zero => omega
      | succ l => exact (ih h3 l (by simpa using hlt)).1
    | succ k =>
      obtain ⟨g1, g2, g3⟩ := ih h3 k (by simpa using hk)
      refine ⟨by have : r.t < (M.getD k default).f := g1; simp only [List.getD_cons_succ]; omega, g2, fun l hl hlt => ?_⟩
      cases l with
      | zero => omega
      | succ l => exact g3 l (by omega) (by simpa using hlt)

theorem inR_get {M : List Rn} {x : Int} : inR M x ↔ ∃ k, k < M.length ∧ (M.getD k default).f ≤ x ∧ x < (M.getD k default).t := by
  constructor
  · rintro ⟨r, hr, h1, h2⟩
    obtain ⟨k, hk, rfl⟩ := List.getElem_of_mem hr
    have : M.getD k default = M[k] := by simp [List.getD, hk]
    exact ⟨k, hk, by rw [this]; exact h1, by rw [this]; exact h2⟩
  · rintro ⟨k, hk, h1, h2⟩
    exact ⟨_, getD_mem hk, h1, h2⟩

/-- Where a number is looked for: all runs ahead begin below it, none behind does. -/
def Cut (M : List Rn) (x : Int) (i : Nat) : Prop := i ≤ M.length ∧ (∀ k, k < i → (M.getD k default).f < x) ∧ ∀ k, i ≤ k → k < M.length → x ≤ (M.getD k default).f

theorem Cut.found {a : Int} {M : List Rn} (h : Canon a M) {x : Int} {i : Nat} (hi : i < M.length) (he : (M.getD i default).f = x) : inR M x :=
  inR_get.2 ⟨i, hi, by omega, by have := (h.get i hi).2.1; omega⟩

theorem Cut.has {a : Int} {M : List Rn} (h : Canon a M) {x : Int} {i : Nat} (hc : Cut M x i) (hn : i < M.length → (M.getD i default).f ≠ x) : inR M x ↔ 0 < i ∧ x < (M.getD (i - 1) default).t := by
  obtain ⟨c1, c2, c3⟩ := hc
  rw [inR_get]
  constructor
  · rintro ⟨k, hk, h1, h2⟩
    have hki : k < i := by
      rcases Nat.lt_or_ge k i with h3 | h3
      · exact h3
      · have h4 := c3 k h3 hk
        have h5 := c3 i (Nat.le_refl _) (by omega)
        rcases Nat.lt_or_ge i k with h6 | h6
        · have h7 := (h.get i (by omega)).2.2 k h6 hk
          have h8 := (h.get i (by omega)).2.1
          omega
        · have : k = i := by omega
          subst this
          exact absurd (by omega) (hn hk)
    refine ⟨by omega, ?_⟩
    rcases Nat.lt_or_ge k (i - 1) with h3 | h3
    · have h4 := (h.get k hk).2.2 (i - 1) h3 (by omega)
      have h5 := c2 (i - 1) (by omega)
      omega
    · have : k = i - 1 := by omega
      subst this
      exact h2
  · rintro ⟨h1, h2⟩
    exact ⟨i - 1, by omega, by have := c2 (i - 1) (by omega); omega, h2⟩

/-- How many numbers some runs have, one run behind the other. -/
def sumLen : List Rn → Int
  | [] => 0
  | r :: L => (if r.f < r.t then r.t - r.f else 0) + sumLen L

theorem sumLen_snoc (L : List Rn) (r : Rn) : sumLen (L ++ [r]) = sumLen L + (if r.f < r.t then r.t - r.f else 0) := by
  induction L with
  | nil => simp [sumLen]
  | cons q L ih => simp only [List.cons_append, sumLen, ih]; omega

theorem sumLen_le (L : List Rn) (h : ∀ r ∈ L, r.ok) : 0 ≤ sumLen L ∧ sumLen L ≤ 2199023255552 * (L.length : Int) := by
  induction L with
  | nil => simp [sumLen]
  | cons q L ih =>
    obtain ⟨h1, h2⟩ := ih fun r hr => h r (by simp [hr])
    obtain ⟨k1, k2, k3, k4⟩ := h q (by simp)
    simp only [sumLen, List.length_cons]
    split <;> omega

set_option maxHeartbeats 1000000 in
set_option maxRecDepth 100000 in
theorem setLen_any (a : Option Addr) (n c : Nat) (M : List Rn) (w : World) (h : RdR w a n M) (hn : n ≤ 1000000) (hok : ∀ r ∈ M, r.ok) :
    Calls Tryz.prog 79 #[.slice a n c] w fun e w' => e = .returned (.int .i64 (sumLen M)) ∧ Below w.heap.size w w' := by
  have HR := Lib.hid h
  have HOk := Lib.hid hok
  clear h hok
  go_enter Tryz.func79, Tryz.ntmps79
  go_wp2
  go_loopg [3, 8] n (fun k s i wr => ∃ (j : Nat) (t : Int), k = n - j ∧ j ≤ n ∧ i = .int .i64 (j : Int) ∧ s = .int .i64 t ∧ Hid (t = sumLen (M.take j)) ∧ Hid (Below w.heap.size w wr))
  case atStart => exact ⟨0, 0, rfl, Nat.zero_le _, rfl, rfl, Lib.hid (by simp [sumLen]), Lib.hid (Below.refl _ _)⟩
  case round =>
    obtain ⟨j, t, hk, hj, rfl, rfl, HT, HB⟩ := hrel
    have HK := Lib.hid hk
    clear hk
    by_cases hlt : j < n
    · obtain ⟨b, o, r, rfl, hre, hbl, e0, e1⟩ := (HR.out.later HB.out).at_ (Below.refl _ _) hlt
      have hjl : j < M.length := by have := HR.out.1; omega
      have hrk : r.ok := by rw [hre]; exact HOk.out _ (getD_mem hjl)
      have hst := takeR_succ hjl hre
      have hsum := sumLen_snoc (M.take j) r
      rw [← hst] at hsum
      have hle := sumLen_le (M.take j) fun q hq => HOk.out q (List.mem_of_mem_take hq)
      have hll : ((M.take j).length : Int) ≤ 1000000 := by rw [List.length_take]; omega
      have HRK := Lib.hid hrk
      obtain ⟨x, y⟩ := r
      simp only at e0 e1 hsum
      by_cases hxy : x < y
      · rw [if_pos hxy, ← HT.out] at hsum
        obtain ⟨q, hq⟩ : ∃ q, q = y - x := ⟨_, rfl⟩
        rw [← hq] at hsum
        obtain ⟨t2, ht2⟩ : ∃ t2, t2 = t + q := ⟨_, rfl⟩
        have hwr : wrap64 (t + q) = t2 := by
          have h1 := HT.out
          obtain ⟨k1, k2, k3, k4⟩ := hrk
          simp only at k1 k2 k3 k4
          rw [ht2]
          unfold wrap64
          omega
        rw [← ht2] at hsum
        have HS := Lib.hid hsum
        have HQ := Lib.hid hq
        have HW := Lib.hid hwr
        clear hrk hst hle hll hq ht2 hre hjl hsum hwr
        go_wp2_with fail
        refine (runLen_yes x y q _ hxy HRK.out HQ.out).mono ?_
        rintro e w2 ⟨rfl, hw2⟩
        have HB2 : Hid (Below w.heap.size w w2) := Lib.hid (by rw [hw2]; exact (HB.out.alloc HB.out.size _).alloc (by have := HB.out.size; simp; omega) _)
        clear hw2
        have hwr := HW.out
        go_wp2
        go_roundg (n - (j + 1))
        case measure => have := HK.out; omega
        case rel => exact ⟨j + 1, t2, rfl, by omega, by go_num, by first | rfl | rw [HW.out], Lib.hid HS.out.symm, HB2⟩
      · have hyx : y ≤ x := by omega
        rw [if_neg hxy, ← HT.out, Int.add_zero] at hsum
        have HS := Lib.hid hsum
        have hwr : wrap64 (t + 0) = t := by
          have h1 := HT.out
          rw [Int.add_zero]
          unfold wrap64
          omega
        have HW := Lib.hid hwr
        have hwr2 : wrap64 t = t := by rw [Int.add_zero] at hwr; exact hwr
        have HW2 := Lib.hid hwr2
        clear hrk hst hle hll hre hjl hsum hwr hwr2 hxy
        go_wp2_with fail
        refine (runLen_no x y _ hyx).mono ?_
        rintro e w2 ⟨rfl, hw2⟩
        have HB2 : Hid (Below w.heap.size w w2) := Lib.hid (by rw [hw2]; exact (HB.out.alloc HB.out.size _).alloc (by have := HB.out.size; simp; omega) _)
        clear hw2
        go_wp2
        go_roundg (n - (j + 1))
        case measure => have := HK.out; omega
        case rel => exact ⟨j + 1, t, rfl, by omega, by go_num, by first | rfl | rw [HW.out] | rw [HW2.out], Lib.hid HS.out.symm, HB2⟩
    · obtain rfl : j = n := by omega
      go_wp2
      go_ret
      refine ⟨?_, HB.out⟩
      have h1 := HT.out
      rw [List.take_of_length_le (by have := HR.out.1; omega)] at h1
      rw [h1]
      rfl

end Go.Proofs.YtaijjogjohbheaaGreat
