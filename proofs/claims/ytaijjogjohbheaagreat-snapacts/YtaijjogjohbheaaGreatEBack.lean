/- The bytes of a set are read as that set: plainly. No condition. -/
import Derived.Test.YtaijjogjohbheaaGreatEBytes
import Derived.Test.YtaijjogjohbheaaGreatGVNextToERead
namespace Go.Proofs.YtaijjogjohbheaaGreat
open Go.RowKit
set_option maxRecDepth 100000

theorem rNum_put' (x : Nat) (r : List Nat) (most : Nat) (hx : x ≤ 18446744073709551615) (hm : x ≤ most) : rNum 0 (vEnc x ++ r) most = (x, 0, r) := by
  obtain ⟨h1, h2, h3⟩ := vRead (n := x) r (by omega)
  rw [rNum_ok h1 (by omega), h2, h3]
  simp

theorem rdRuns_put (m : Nat) (hm : m ≤ 1099511627776) (rest : List Nat) (L : List Rn) : ∀ (last : Nat) (acc : List Rn), (∀ r ∈ L, r.t ≤ m) → Canon ((last : Int) - 1) L → (0 < acc.length → Canon (last : Int) L) → rdRuns m L.length last acc ((numsGo (last : Int) L).flatMap vEnc ++ rest) = (0, acc ++ L, 0, rest) := by
  induction L with
  | nil => intro last acc _ _ _; simp [rdRuns, numsGo]
  | cons r L ih =>
    intro last acc hb hc hc2
    obtain ⟨h1, h2, h3⟩ := hc
    have hrt := hb r (by simp)
    obtain ⟨f, t⟩ := r
    simp only at h1 h2 h3 hrt
    obtain ⟨x, hx⟩ : ∃ x : Nat, x = (f - (last : Int)).toNat := ⟨_, rfl⟩
    obtain ⟨y, hy⟩ : ∃ y : Nat, y = (t - f).toNat := ⟨_, rfl⟩
    have hf : f = ((last + x : Nat) : Int) := by omega
    have ht : t = ((last + x + y : Nat) : Int) := by omega
    have e : (numsGo (last : Int) (⟨f, t⟩ :: L)).flatMap vEnc ++ rest = vEnc x ++ (vEnc y ++ ((numsGo ((last + x + y : Nat) : Int) L).flatMap vEnc ++ rest)) := by
      simp only [numsGo, List.flatMap_cons, ← hx, ← hy, List.append_assoc, ← ht]
    rw [e, List.length_cons]
    rw [rdRuns_ok (rNum_put' x _ (m - last) (by omega) (by omega)) (rNum_put' y _ (m - (last + x)) (by omega) (by omega)) (by
      rintro (h | ⟨h, h0⟩)
      · omega
      · have := (hc2 h).1
        simp only at this
        omega)]
    rw [ih (last + x + y) _ (fun r hr => hb r (by simp [hr])) (by rw [← ht]; exact h3.lower (by omega)) (fun _ => by rw [← ht]; exact h3)]
    rw [List.append_assoc, hf, ht]
    simp

theorem rdSet_put {m : Nat} (hm : m ≤ 1099511627776) {M : List Rn} (hM : Pos M) (hl : M.length ≤ m) (hb : ∀ r ∈ M, r.t ≤ m) : rdSet 0 ((setNums M).flatMap vEnc) m = (0, M, 0, []) := by
  unfold setNums
  rw [List.flatMap_cons, rdSet_ok (rNum_put' M.length _ m (by omega) hl)]
  have := rdRuns_put m hm [] M 0 [] hb (by have h : Canon (-1) M := hM; simpa using h) (by simp)
  simpa using this

end Go.Proofs.YtaijjogjohbheaaGreat
