/- What sealed bytes come to, by the document's own reading; it is the same. Plain mathematics. -/
import Derived.Test.YtngnlnkkehnomaaRcParse
namespace Go.Proofs.Ytngnlnkkehnomaa
open Go.RowKit
set_option linter.unusedSimpArgs false

/-- The record that bytes would be, by the document's own reading; the error; what is left. -/
def refD (r : List Nat) : Rec × Nat × List Nat :=
  (⟨2, 0, 0, ((rNum 0 r 255).1 : Nat), (((rNum 0 r 255).1 + (rNum 0 r 255).2.2.length / 32 : Nat) : Int), (rNum 0 r 255).2.2, 0, 0, 0⟩, (rNum 0 r 255).2.1, [])

def twoN (r : List Nat) (m1 m2 : Nat) : (Nat × Nat) × (Nat × List Nat) :=
  let A := rNum 0 r m1
  let B := rNum A.2.1 A.2.2 m2
  ((A.1, B.1), (B.2.1, B.2.2))

def refH (r : List Nat) : Rec × Nat × List Nat :=
  (⟨1, ((twoN r 1099511627776 1099511627776).1.1 : Nat), ((twoN r 1099511627776 1099511627776).1.2 : Nat), 0, 0, [], 0, 0, 0⟩, (twoN r 1099511627776 1099511627776).2.1, (twoN r 1099511627776 1099511627776).2.2)

def refO (r : List Nat) : Rec × Nat × List Nat :=
  (⟨3, 0, 0, ((twoN r 255 256).1.1 : Nat), ((twoN r 255 256).1.2 : Nat), [], 0, 0, 0⟩, (twoN r 255 256).2.1, (twoN r 255 256).2.2)

def refT (r : List Nat) : Rec × Nat × List Nat :=
  (⟨4, 0, 0, 0, 0, [], ((threeN r 1099511627776 1099511627776 18446744073709551615).1.1 : Nat), (threeN r 1099511627776 1099511627776 18446744073709551615).1.2.1, (threeN r 1099511627776 1099511627776 18446744073709551615).1.2.2⟩,
   (threeN r 1099511627776 1099511627776 18446744073709551615).2.1, (threeN r 1099511627776 1099511627776 18446744073709551615).2.2)

def refC (k : Nat) (r : List Nat) : Rec × Nat × List Nat :=
  if k = 1 then refH r else if k = 2 then refD r else if k = 3 then refO r else if k = 4 then refT r else (rec0 k, 0, r)

/-- Are bytes a record, by the document's own reading? -/
def refOk (l : List Nat) : Bool :=
  match l with
  | [] => false
  | k :: r => ((refC k r).2.1 == 0) && ((refC k r).2.2.isEmpty && (refC k r).1.ok)

theorem rNum_less {r : List Nat} {m M : Nat} (hm : m ≤ M) : rNum 0 r m = rNum 0 r M ∨ ((rNum 0 r m).2.1 ≠ 0 ∧ m < (rNum 0 r M).1 ∧ (rNum 0 r M).2.1 = 0) ∨ ((rNum 0 r m).2.1 ≠ 0 ∧ (rNum 0 r M).2.1 ≠ 0) := by
  by_cases he : vErr r = 0
  · by_cases h1 : m < vNum r
    · rw [rNum_long he h1]
      by_cases h2 : M < vNum r
      · rw [rNum_long he h2]; simp
      · rw [rNum_ok he h2]; simp [h1]
    · have h2 : ¬ M < vNum r := by omega
      rw [rNum_ok he h1, rNum_ok he h2]; simp
  · rw [rNum_err he, rNum_err he]; simp

theorem rEnd_zero {E : Nat} {l : List Nat} : rEnd E l = 0 ↔ (E = 0 ∧ l = []) := by
  unfold rEnd
  split
  · rename_i h; simp [h]
  · rename_i h
    have : E = 0 := by omega
    subst this
    split
    · rename_i h2; simp [h2]
    · rename_i h2; simp [h2]

/-- What is told where a number is too great for one reading alone: no record. -/
theorem hole_big {a b : Nat} (h : 255 < a ∨ 256 < b) : Rec.ok ⟨3, 0, 0, (a : Int), (b : Int), [], 0, 0, 0⟩ = false := by
  simp [Rec.ok, isRunB]
  omega

theorem tail_big {c n s : Nat} (h : 2305843009213693950 < s) : Rec.ok ⟨4, 0, 0, 0, 0, [], (c : Int), n, s⟩ = false := by
  simp [Rec.ok]
  omega

theorem rEnd_dec (E : Nat) (l : List Nat) : decide (rEnd E l = 0) = ((E == 0) && l.isEmpty) := by
  by_cases h : rEnd E l = 0
  · obtain ⟨h1, h2⟩ := rEnd_zero.1 h
    rw [decide_eq_true h, h1, h2]; rfl
  · rw [decide_eq_false h]
    by_cases h1 : E = 0
    · have h2 : l ≠ [] := fun e => h (rEnd_zero.2 ⟨h1, e⟩)
      cases l with
      | nil => exact absurd rfl h2
      | cons a r => simp
    · simp [h1]

theorem rNum_keep {E : Nat} {l : List Nat} {m : Nat} (h : E ≠ 0) : (rNum E l m).2.1 ≠ 0 := by rw [rNum_failed h]; exact h

theorem same_D (r : List Nat) : (((refD r).2.1 == 0) && ((refD r).2.2.isEmpty && (refD r).1.ok)) = ((candD r).2 && (candD r).1.ok) ∧ ((candD r).2 = true → (refD r).1 = (candD r).1) := by
  by_cases h : vErr r = 0 ∧ vNum r < 256
  · have e1 : rNum 0 r 255 = (vNum r, 0, r.drop (vLen r)) := rNum_ok h.1 (by omega)
    have e2 : candD r = (⟨2, 0, 0, (vNum r : Nat), ((vNum r + (r.length - vLen r) / 32 : Nat) : Int), r.drop (vLen r), 0, 0, 0⟩, true) := by unfold candD; rw [if_pos h]
    have e3 : (refD r).1 = (candD r).1 := by rw [e2]; unfold refD; rw [e1]; simp [List.length_drop]
    refine ⟨?_, fun _ => e3⟩
    rw [e3, e2]
    unfold refD
    rw [e1]
    simp
  · have e2 : candD r = (rec0 0, false) := by unfold candD; rw [if_neg h]
    have e1 : (rNum 0 r 255).2.1 ≠ 0 := by
      by_cases he : vErr r = 0
      · rw [rNum_long he (by omega)]; simp
      · rw [rNum_err he]; exact he
    rw [e2]
    refine ⟨?_, fun h => by cases h⟩
    unfold refD
    simp [beq_eq_false_iff_ne.2 e1]

theorem same_H (r : List Nat) : (((refH r).2.1 == 0) && ((refH r).2.2.isEmpty && (refH r).1.ok)) = ((candH r).2 && (candH r).1.ok) ∧ (refH r).1 = (candH r).1 := by
  refine ⟨?_, rfl⟩
  simp only [refH, candH, twoN, rEnd_dec, Bool.and_assoc]

theorem same_O (r : List Nat) : (((refO r).2.1 == 0) && ((refO r).2.2.isEmpty && (refO r).1.ok)) = ((candO r).2 && (candO r).1.ok) ∧ ((candO r).2 = true → (candO r).1.ok = true → (refO r).1 = (candO r).1) := by
  simp only [refO, candO, twoN, rEnd_dec]
  rcases rNum_less (r := r) (m := 255) (M := 1099511627776) (by omega) with h | ⟨h1, h2, h3⟩ | ⟨h1, h2⟩
  · rw [h]
    obtain ⟨a, E, l⟩ := rNum 0 r 1099511627776
    simp only
    by_cases hE : E = 0
    · subst hE
      rcases rNum_less (r := l) (m := 256) (M := 1099511627776) (by omega) with g | ⟨g1, g2, g3⟩ | ⟨g1, g2⟩
      · rw [g]; simp [Bool.and_assoc]
      · have ho := hole_big (a := a) (.inr g2)
        simp [beq_eq_false_iff_ne.2 g1, ho]
      · simp [beq_eq_false_iff_ne.2 g1, beq_eq_false_iff_ne.2 g2]
    · rw [rNum_failed hE, rNum_failed hE]; simp [beq_eq_false_iff_ne.2 hE]
  · have ho := hole_big (b := (rNum (rNum 0 r 1099511627776).2.1 (rNum 0 r 1099511627776).2.2 1099511627776).1) (.inl h2)
    have h4 := rNum_keep (l := (rNum 0 r 255).2.2) (m := 256) h1
    simp [beq_eq_false_iff_ne.2 h4, ho]
  · have h3 := rNum_keep (l := (rNum 0 r 255).2.2) (m := 256) h1
    have h4 := rNum_keep (l := (rNum 0 r 1099511627776).2.2) (m := 1099511627776) h2
    simp [beq_eq_false_iff_ne.2 h3, beq_eq_false_iff_ne.2 h4]

theorem same_T (r : List Nat) : (((refT r).2.1 == 0) && ((refT r).2.2.isEmpty && (refT r).1.ok)) = ((candT r).2 && (candT r).1.ok) ∧ ((candT r).2 = true → (candT r).1.ok = true → (refT r).1 = (candT r).1) := by
  simp only [refT, candT]
  rw [rEnd_dec]
  simp only [threeN]
  obtain ⟨a, E0, l0⟩ := rNum 0 r 1099511627776
  simp only
  obtain ⟨b, E, l⟩ := rNum E0 l0 1099511627776
  simp only
  by_cases hE : E = 0
  · subst hE
    rcases rNum_less (r := l) (m := 2305843009213693950) (M := 18446744073709551615) (by omega) with g | ⟨g1, g2, g3⟩ | ⟨g1, g2⟩
    · rw [g]; simp [Bool.and_assoc]
    · have ho := tail_big (c := a) (n := b) g2
      rw [ho]
      simp [beq_eq_false_iff_ne.2 g1]
    · simp [beq_eq_false_iff_ne.2 g1, beq_eq_false_iff_ne.2 g2]
  · rw [rNum_failed hE, rNum_failed hE]; simp [beq_eq_false_iff_ne.2 hE]

/-- Both readings come to the same. -/
theorem ref_same (l : List Nat) : refOk l = (pars l).isSome ∧ (refOk l = true → ∀ k r, l = k :: r → (refC k r).1 = (cand l).1) := by
  match l with
  | [] =>
    rw [pars_isSome]
    exact ⟨rfl, fun h => by cases h⟩
  | k :: r =>
    rw [pars_isSome]
    by_cases h1 : k = 1
    · subst h1
      have e1 : refC 1 r = refH r := by simp [refC]
      have e2 : cand (1 :: r) = candH r := by simp [cand]
      simp only [refOk, e1, e2]
      refine ⟨(same_H r).1, fun _ k' r' he => ?_⟩
      injection he with he1 he2
      subst he1 he2
      rw [e1]; exact (same_H r).2
    by_cases h2 : k = 2
    · subst h2
      have e1 : refC 2 r = refD r := by simp [refC]
      have e2 : cand (2 :: r) = candD r := by simp [cand]
      simp only [refOk, e1, e2]
      refine ⟨(same_D r).1, fun h k' r' he => ?_⟩
      injection he with he1 he2
      subst he1 he2
      rw [(same_D r).1, Bool.and_eq_true] at h
      rw [e1]; exact (same_D r).2 h.1
    by_cases h3 : k = 3
    · subst h3
      have e1 : refC 3 r = refO r := by simp [refC]
      have e2 : cand (3 :: r) = candO r := by simp [cand]
      simp only [refOk, e1, e2]
      refine ⟨(same_O r).1, fun h k' r' he => ?_⟩
      injection he with he1 he2
      subst he1 he2
      rw [(same_O r).1, Bool.and_eq_true] at h
      rw [e1]; exact (same_O r).2 h.1 h.2
    by_cases h4 : k = 4
    · subst h4
      have e1 : refC 4 r = refT r := by simp [refC]
      have e2 : cand (4 :: r) = candT r := by simp [cand]
      simp only [refOk, e1, e2]
      refine ⟨(same_T r).1, fun h k' r' he => ?_⟩
      injection he with he1 he2
      subst he1 he2
      rw [(same_T r).1, Bool.and_eq_true] at h
      rw [e1]; exact (same_T r).2 h.1 h.2
    have ho : (rec0 k).ok = false := by simp [Rec.ok, rec0, h1, h2, h3, h4]
    have e1 : refC k r = (rec0 k, 0, r) := by simp [refC, h1, h2, h3, h4]
    have e2 : (cand (k :: r)).1 = rec0 k := by simp [cand, h1, h2, h3, h4]
    simp only [refOk, e1, e2, ho, Bool.and_false]
    exact ⟨trivial, fun h => by cases h⟩

end Go.Proofs.Ytngnlnkkehnomaa
