/- What is read is what its own bytes are: sets of runs; blocks laid one behind the other. -/
import Derived.Test.YtaijjogjohbheaaGreatIBytes
import Derived.Test.YtaijjogjohbheaaGreatGVNextToERead
import Derived.Test.YtaijjogjohbheaaGreatEBack
namespace Go.Proofs.YtaijjogjohbheaaGreat
open Go.RowKit
set_option maxRecDepth 100000

theorem rNum_back {l l1 : List Nat} {most x : Nat} (hb : ∀ y ∈ l, y < 256) (h : rNum 0 l most = (x, 0, l1)) : l = vEnc x ++ l1 ∧ x ≤ most ∧ x < 18446744073709551616 := by
  have h0 : vErr l = 0 := by
    apply Classical.byContradiction
    intro hn
    rw [rNum_err hn] at h
    injection h with _ h
    injection h with h _
    exact hn h
  by_cases h1 : most < vNum l
  · rw [rNum_long h0 h1] at h
    injection h with _ h
    injection h with h _
    cases h
  · rw [rNum_ok h0 h1] at h
    injection h with h2 h
    injection h with _ h3
    obtain ⟨k1, k2, k3, k4, k5⟩ := vOne hb h0
    rw [h2] at k1 k5
    refine ⟨?_, by omega, k5⟩
    rw [k1, ← h3, List.take_append_drop]

theorem rNum_bytes' {E : Nat} {l : List Nat} {most : Nat} (hb : ∀ y ∈ l, y < 256) : ∀ y ∈ (rNum E l most).2.2, y < 256 := rNum_bytes hb

theorem rNum_failed_ne {E : Nat} {l : List Nat} {most : Nat} (h : (rNum E l most).2.1 = 0) : E = 0 := by
  apply Classical.byContradiction
  intro hn
  rw [rNum_failed hn] at h
  exact hn h

theorem rdRuns_back (m : Nat) : ∀ (k last : Nat) (acc : List Rn) (l : List Nat) (M : List Rn) (e : Nat) (rest : List Nat), (∀ y ∈ l, y < 256) → rdRuns m k last acc l = (0, M, e, rest) → last ≤ m →
    e = 0 ∧ ∃ L, M = acc ++ L ∧ L.length = k ∧ l = (numsGo (last : Int) L).flatMap vEnc ++ rest ∧ (acc.length = 0 → Canon ((last : Int) - 1) L) ∧ (0 < acc.length → Canon (last : Int) L) ∧ ∀ r ∈ L, r.t ≤ (m : Int)
  | 0, last, acc, l, M, e, rest, _, h, _ => by
    simp only [rdRuns] at h
    injection h with _ h
    injection h with h1 h
    injection h with h2 h3
    exact ⟨h2.symm, [], by simp [h1], rfl, by simp [numsGo, h3], fun _ => trivial, fun _ => trivial, by simp⟩
  | k + 1, last, acc, l, M, e, rest, hb, h, hl => by
    obtain ⟨⟨x, E1, l1⟩, hx⟩ : ∃ p, p = rNum 0 l (m - last) := ⟨_, rfl⟩
    obtain ⟨⟨y, E2, l2⟩, hy⟩ : ∃ p, p = rNum E1 l1 (m - (last + x)) := ⟨_, rfl⟩
    have hb1 : ∀ y ∈ l1, y < 256 := by have := rNum_bytes (E := 0) (l := l) (most := m - last) hb; rw [← hx] at this; exact this
    by_cases hE : E2 ≠ 0
    · rw [rdRuns_err hx.symm hy.symm hE] at h
      injection h with h _
      exact absurd h hE
    · have hE0 : E2 = 0 := by omega
      subst hE0
      have hE1 : E1 = 0 := rNum_failed_ne (by rw [← hy])
      subst hE1
      by_cases hF : y = 0 ∨ (0 < acc.length ∧ x = 0)
      · rw [rdRuns_form hx.symm hy.symm hF] at h
        injection h with h _
        cases h
      · rw [rdRuns_ok hx.symm hy.symm hF] at h
        obtain ⟨c1, c2, _⟩ := rNum_back hb hx.symm
        obtain ⟨d1, d2, _⟩ := rNum_back hb1 hy.symm
        have hb2 : ∀ y ∈ l2, y < 256 := by have := rNum_bytes (E := 0) (l := l1) (most := m - (last + x)) hb1; rw [← hy] at this; exact this
        obtain ⟨h0, L, hM, hL, hll, _, hc, ht⟩ := rdRuns_back m k (last + x + y) _ l2 M e rest hb2 h (by omega)
        refine ⟨h0, (⟨((last + x : Nat) : Int), ((last + x + y : Nat) : Int)⟩ : Rn) :: L, by rw [hM, List.append_assoc]; rfl, by simp [hL], ?_, fun ha => ⟨by simp only; omega, by simp only; omega, hc (by simp)⟩, fun ha => ⟨by simp only; omega, by simp only; omega, hc (by simp)⟩, ?_⟩
        · rw [c1, d1, hll]
          simp only [numsGo, List.flatMap_cons]
          rw [show (((last + x : Nat) : Int) - (last : Int)).toNat = x by omega, show (((last + x + y : Nat) : Int) - ((last + x : Nat) : Int)).toNat = y by omega]
          simp [List.append_assoc]
        · intro r hr
          rcases List.mem_cons.1 hr with rfl | hr
          · simp only; omega
          · exact ht r hr

/-- What a set is read of is its bytes, and what is left. -/
theorem rdSet_back {l : List Nat} {m : Nat} {M : List Rn} {e : Nat} {rest : List Nat} (hb : ∀ y ∈ l, y < 256) (h : rdSet 0 l m = (0, M, e, rest)) :
    l = (setNums M).flatMap vEnc ++ rest ∧ Pos M ∧ (∀ r ∈ M, r.t ≤ (m : Int)) ∧ ∀ y ∈ rest, y < 256 := by
  obtain ⟨⟨x, E1, l1⟩, hx⟩ : ∃ p, p = rNum 0 l m := ⟨_, rfl⟩
  by_cases hE : E1 ≠ 0
  · rw [rdSet_err hx.symm hE] at h
    injection h with h _
    exact absurd h hE
  · have hE0 : E1 = 0 := by omega
    subst hE0
    rw [rdSet_ok hx.symm] at h
    obtain ⟨c1, _, _⟩ := rNum_back hb hx.symm
    have hb1 : ∀ y ∈ l1, y < 256 := by have := rNum_bytes (E := 0) (l := l) (most := m) hb; rw [← hx] at this; exact this
    obtain ⟨_, L, hM, hL, hll, hc, _, ht⟩ := rdRuns_back m x 0 [] l1 M e rest hb1 h (by omega)
    rw [List.nil_append] at hM
    subst hM
    refine ⟨?_, ?_, ht, fun y hy => hb1 y (by rw [hll]; simp [hy])⟩
    · rw [c1, hll]
      unfold setNums
      rw [List.flatMap_cons, hL, List.append_assoc]
      rfl
    · have := hc rfl
      unfold Pos
      simpa using this

/-- Blocks laid one behind the other. -/
def fillN : List Int → List Nat → List (List Nat) → List (List Nat)
  | [], _, F => F
  | x :: r, l, F => fillN r (l.drop 32) (F.set x.toNat (l.take 32))

theorem fillN_snoc (pre : List Int) (x : Int) : ∀ (l : List Nat) (F : List (List Nat)), fillN (pre ++ [x]) l F = (fillN pre l F).set x.toNat ((l.drop (32 * pre.length)).take 32) := by
  induction pre with
  | nil => intro l F; simp [fillN]
  | cons y r ih =>
    intro l F
    rw [List.cons_append, fillN, ih, fillN, List.drop_drop, List.length_cons]
    congr 3
    omega

theorem fillN_ok (pre : List Int) : ∀ (l : List Nat) (F : List (List Nat)), okF F → (∀ y ∈ l, y < 256) → 32 * pre.length ≤ l.length → okF (fillN pre l F) := by
  induction pre with
  | nil => intro l F h _ _; exact h
  | cons y r ih =>
    intro l F h hb hl
    rw [fillN]
    simp only [List.length_cons] at hl
    refine ih _ _ (h.set _ (.inr ⟨by rw [List.length_take]; omega, fun z hz => hb z (List.mem_of_mem_take hz)⟩)) (fun z hz => hb z (List.mem_of_mem_drop hz)) (by rw [List.length_drop]; omega)

end Go.Proofs.YtaijjogjohbheaaGreat
