/- The contract of a tape's Skip. -/
import Derived.Test.YtkfnjekeegebaaaTapeGet
namespace Go.Proofs.Ytkfnjekeegebaaa
open Go.RowKit
set_option linter.unusedSimpArgs false

/-- How many pieces are passed till so many marks are; none: there are fewer. -/
def skipL : List (List Nat) → Nat → Option Nat
  | _, 0 => some 0
  | [], _ + 1 => none
  | l :: r, m + 1 => if l.length = 0 then (skipL r m).map (· + 1) else (skipL r (m + 1)).map (· + 1)

/-- Skip, whatever the number. -/
def Tst.skip (s : Pw) (t : Tst) (z : Int) : Tst × Nat :=
  if z < 0 then (t, 1) else if s.on = false then (t, 11) else
  match skipL (t.P.drop t.pos) z.toNat with
  | none => (t, 6)
  | some k => ({ t with pos := t.pos + k }, 0)

theorem skipL_zero (P : List (List Nat)) : skipL P 0 = some 0 := by cases P <;> rfl

theorem skipL_end (P : List (List Nat)) (i m : Nat) (hi : i = P.length) (hm : 0 < m) : skipL (P.drop i) m = none := by
  rw [List.drop_eq_nil_of_le (by omega)]
  cases m with
  | zero => omega
  | succ m => rfl

theorem skipL_step (P : List (List Nat)) (i m : Nat) (hi : i < P.length) (hm : 0 < m) : skipL (P.drop i) m = (skipL (P.drop (i + 1)) (if (P.getD i []).length = 0 then m - 1 else m)).map (· + 1) := by
  rw [List.drop_eq_getElem_cons hi]
  have e : P.getD i [] = P[i] := by simp [List.getD, hi]
  rw [e]
  cases m with
  | zero => omega
  | succ m =>
    simp only [skipL, Nat.add_sub_cancel]
    split <;> rfl

theorem skipL_le : ∀ (P : List (List Nat)) (m k : Nat), skipL P m = some k → k ≤ P.length
  | _, 0, k, h => by rw [skipL_zero] at h; injection h with h; omega
  | [], m + 1, k, h => by simp [skipL] at h
  | l :: r, m + 1, k, h => by
    simp only [skipL] at h
    split at h
    · rw [Option.map_eq_some_iff] at h
      obtain ⟨j, h1, h2⟩ := h
      have := skipL_le r m j h1
      simp only [List.length_cons]
      omega
    · rw [Option.map_eq_some_iff] at h
      obtain ⟨j, h1, h2⟩ := h
      have := skipL_le r (m + 1) j h1
      simp only [List.length_cons]
      omega

end Go.Proofs.Ytkfnjekeegebaaa
