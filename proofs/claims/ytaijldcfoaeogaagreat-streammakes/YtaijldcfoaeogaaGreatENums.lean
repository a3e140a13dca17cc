/- The numbers of a set, in increasing order; how many. -/
import Derived.Test.YtaijldcfoaeogaaGreatGEAllToERangeR
import Derived.Test.YtaijldcfoaeogaaGreatGESortToEHas
namespace Go.Proofs.YtaijldcfoaeogaaGreat

theorem sorted_ext {A B : List Int} (hA : A.Pairwise (· < ·)) (hB : B.Pairwise (· < ·)) (h : ∀ z, z ∈ A ↔ z ∈ B) : A = B := by
  induction A generalizing B with
  | nil =>
    cases B with
    | nil => rfl
    | cons b B => exact absurd ((h b).2 (by simp)) (by simp)
  | cons a A ih =>
    cases B with
    | nil => exact absurd ((h a).1 (by simp)) (by simp)
    | cons b B =>
      obtain ⟨a1, a2⟩ := List.pairwise_cons.1 hA
      obtain ⟨b1, b2⟩ := List.pairwise_cons.1 hB
      have hab : a = b := by
        rcases List.mem_cons.1 ((h a).1 (by simp)) with h1 | h1
        · exact h1
        · rcases List.mem_cons.1 ((h b).2 (by simp)) with h2 | h2
          · exact h2.symm
          · have := b1 a h1
            have := a1 b h2
            omega
      subst hab
      congr 1
      refine ih a2 b2 fun z => ⟨fun hz => ?_, fun hz => ?_⟩
      · rcases List.mem_cons.1 ((h z).1 (by simp [hz])) with h1 | h1
        · have := a1 z hz; omega
        · exact h1
      · rcases List.mem_cons.1 ((h z).2 (by simp [hz])) with h1 | h1
        · have := b1 z hz; omega
        · exact h1

theorem mem_segR {f z : Int} {k : Nat} : z ∈ segR f k ↔ f ≤ z ∧ z < f + (k : Int) := by
  simp only [segR, List.mem_map, List.mem_range]
  constructor
  · rintro ⟨j, hj, rfl⟩
    omega
  · rintro ⟨h1, h2⟩
    exact ⟨(z - f).toNat, by omega, by omega⟩

theorem segR_sorted (f : Int) (k : Nat) : (segR f k).Pairwise (· < ·) := by
  induction k with
  | zero => simp [segR]
  | succ k ih =>
    rw [segR_succ]
    refine List.pairwise_append.2 ⟨ih, by simp, fun x hx y hy => ?_⟩
    simp only [List.mem_singleton] at hy
    subst hy
    have := (mem_segR.1 hx).2
    omega

theorem mem_numsR {M : List Rn} {z : Int} : z ∈ numsR M ↔ inR M z := by
  induction M with
  | nil => simp [numsR, inR_nil]
  | cons r M ih =>
    rw [numsR, List.mem_append, inR_cons, ih, mem_segR]
    unfold Rn.has
    have : (r.f ≤ z ∧ z < r.f + ((r.t - r.f).toNat : Int)) ↔ (r.f ≤ z ∧ z < r.t) := by omega
    rw [this]

theorem numsR_sorted {a : Int} {M : List Rn} (h : Canon a M) : (numsR M).Pairwise (· < ·) := by
  induction M generalizing a with
  | nil => simp [numsR]
  | cons r M ih =>
    rw [numsR]
    refine List.pairwise_append.2 ⟨segR_sorted _ _, ih h.2.2, fun x hx y hy => ?_⟩
    have h1 := (mem_segR.1 hx).2
    have h2 := h.2.2.above (mem_numsR.1 hy)
    have h3 := h.2.1
    omega

theorem sumLen_nums (M : List Rn) : sumLen M = ((numsR M).length : Int) := by
  induction M with
  | nil => rfl
  | cons r M ih =>
    rw [sumLen, numsR, List.length_append, ih]
    have : (segR r.f (r.t - r.f).toNat).length = (r.t - r.f).toNat := by simp [segR]
    rw [this]
    split <;> omega

end Go.Proofs.YtaijldcfoaeogaaGreat
