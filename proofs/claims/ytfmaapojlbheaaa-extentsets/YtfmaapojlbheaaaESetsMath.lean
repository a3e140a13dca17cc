/- The plain mathematics of ExtentSets: the numbers of a set, in increasing order, are those that are told; how many. No condition. -/
import Derived.Test.YtfmaapojlbheaaaEAll
import Derived.Test.YtfmaapojlbheaaaESame2
namespace Go.Proofs.Ytfmaapojlbheaaa

theorem sorted_ext {A B : List Int} (hA : A.Pairwise (· < ·)) (hB : B.Pairwise (· < ·)) (h : ∀ z, z ∈ A ↔ z ∈ B) : A = B := by
  induction A generalizing B with
  | nil =>
    cases B with
    | nil => rfl
    | cons b B => exact absurd ((h b).2 (by simp)) (by simp)
  | cons a A ih =>
    cases B with
    | nil => exact absurd ((h a).1 (by simp)) (by simp)
    | cons b B =>
      obtain ⟨a1, a2⟩ := List.pairwise_cons.1 hA
      obtain ⟨b1, b2⟩ := List.pairwise_cons.1 hB
      have hab : a = b := by
        rcases List.mem_cons.1 ((h a).1 (by simp)) with h1 | h1
        · exact h1
        · rcases List.mem_cons.1 ((h b).2 (by simp)) with h2 | h2
          · exact h2.symm
          · have := b1 a h1
            have := a1 b h2
            omega
      subst hab
      congr 1
      refine ih a2 b2 fun z => ⟨fun hz => ?_, fun hz => ?_⟩
      · rcases List.mem_cons.1 ((h z).1 (by simp [hz])) with h1 | h1
        · have := a1 z hz; omega
        · exact h1
      · rcases List.mem_cons.1 ((h z).2 (by simp [hz])) with h1 | h1
        · have := b1 z hz; omega
        · exact h1

theorem mem_segR {f z : Int} {k : Nat} : z ∈ segR f k ↔ f ≤ z ∧ z < f + (k : Int) := by
  simp only [segR, List.mem_map, List.mem_range]
  constructor
  · rintro ⟨j, hj, rfl⟩
    omega
  · rintro ⟨h1, h2⟩
    exact ⟨(z - f).toNat, by omega, by omega⟩

theorem segR_sorted (f : Int) (k : Nat) : (segR f k).Pairwise (· < ·) := by
  induction k with
  | zero => simp [segR]
  | succ k ih =>
    rw [segR_succ]
    refine List.pairwise_append.2 ⟨ih, by simp, fun x hx y hy => ?_⟩
    simp only [List.mem_singleton] at hy
    subst hy
    have := (mem_segR.1 hx).2
    omega

theorem mem_numsR {M : List Rn} {z : Int} : z ∈ numsR M ↔ inR M z := by
  induction M with
  | nil => simp [numsR, inR_nil]
  | cons r M ih =>
    rw [numsR, List.mem_append, inR_cons, ih, mem_segR]
    unfold Rn.has
    have : (r.f ≤ z ∧ z < r.f + ((r.t - r.f).toNat : Int)) ↔ (r.f ≤ z ∧ z < r.t) := by omega
    rw [this]

theorem numsR_sorted {a : Int} {M : List Rn} (h : Canon a M) : (numsR M).Pairwise (· < ·) := by
  induction M generalizing a with
  | nil => simp [numsR]
  | cons r M ih =>
    rw [numsR]
    refine List.pairwise_append.2 ⟨segR_sorted _ _, ih h.2.2, fun x hx y hy => ?_⟩
    have h1 := (mem_segR.1 hx).2
    have h2 := h.2.2.above (mem_numsR.1 hy)
    have h3 := h.2.1
    omega

/-- The numbers that are told, below a bound. -/
def toldL (Q : Nat → Bool) (n : Nat) : List Int := ((List.range n).filter Q).map fun k : Nat => -300 + (k : Int)

theorem mem_toldL {Q : Nat → Bool} {n : Nat} {z : Int} : z ∈ toldL Q n ↔ ∃ k : Nat, k < n ∧ Q k = true ∧ z = -300 + (k : Int) := by
  simp only [toldL, List.mem_map, List.mem_filter, List.mem_range]
  constructor
  · rintro ⟨k, ⟨h1, h2⟩, rfl⟩
    exact ⟨k, h1, h2, rfl⟩
  · rintro ⟨k, h1, h2, rfl⟩
    exact ⟨k, ⟨h1, h2⟩, rfl⟩

theorem toldL_succ (Q : Nat → Bool) (n : Nat) : toldL Q (n + 1) = toldL Q n ++ (if Q n = true then [-300 + (n : Int)] else []) := by
  unfold toldL
  rw [List.range_succ, List.filter_append, List.map_append]
  cases h : Q n <;> simp [h]

theorem toldL_sorted (Q : Nat → Bool) (n : Nat) : (toldL Q n).Pairwise (· < ·) := by
  induction n with
  | zero => simp [toldL]
  | succ n ih =>
    rw [toldL_succ]
    split
    · refine List.pairwise_append.2 ⟨ih, by simp, fun x hx y hy => ?_⟩
      simp only [List.mem_singleton] at hy
      subst hy
      obtain ⟨k, h1, _, rfl⟩ := mem_toldL.1 hx
      omega
    · simpa using ih

/-- How many are told, below a bound. -/
def cntT (Q : Nat → Bool) (n : Nat) : Nat := (toldL Q n).length

theorem cntT_zero (Q : Nat → Bool) : cntT Q 0 = 0 := by simp [cntT, toldL]

theorem cntT_succ (Q : Nat → Bool) (n : Nat) : cntT Q (n + 1) = cntT Q n + (if Q n = true then 1 else 0) := by
  unfold cntT
  rw [toldL_succ, List.length_append]
  split <;> simp

theorem cntT_le (Q : Nat → Bool) (n : Nat) : cntT Q n ≤ n := by
  induction n with
  | zero => rw [cntT_zero]; omega
  | succ n ih => rw [cntT_succ]; split <;> omega

theorem Told.nums {M : List Rn} {Q : Nat → Bool} (h : Told M Q) : numsR M = toldL Q 601 := by
  obtain ⟨⟨a, ha⟩, hm⟩ := h
  exact sorted_ext (numsR_sorted ha) (toldL_sorted Q 601) fun z => by rw [mem_numsR, hm z, mem_toldL]

theorem Told.len {M : List Rn} {Q : Nat → Bool} (h : Told M Q) : (numsR M).length = cntT Q 601 := by rw [h.nums]; rfl

theorem sumLen_nums (M : List Rn) : sumLen M = ((numsR M).length : Int) := by
  induction M with
  | nil => rfl
  | cons r M ih =>
    rw [sumLen, numsR, List.length_append, ih]
    have : (segR r.f (r.t - r.f).toNat).length = (r.t - r.f).toNat := by simp [segR]
    rw [this]
    split <;> omega

/-- A number that comes next: greater than the last one, and told. -/
theorem Told.next {M : List Rn} {Q : Nat → Bool} (h : Told M Q) {pre : List Int} {x : Int} (hp : pre ++ [x] <+: numsR M) :
    (∀ y ∈ pre, y < x) ∧ ∃ k : Nat, k < 601 ∧ Q k = true ∧ x = -300 + (k : Int) := by
  obtain ⟨⟨a, ha⟩, hm⟩ := h
  have h1 := numsR_sorted ha
  have hx : x ∈ numsR M := hp.subset (by simp)
  refine ⟨fun y hy => ?_, (hm x).1 (mem_numsR.1 hx)⟩
  obtain ⟨z, hz⟩ := hp
  rw [← hz] at h1
  have h2 := (List.pairwise_append.1 h1).1
  exact (List.pairwise_append.1 h2).2.2 y hy x (by simp)

/-- The last number, or one far below. -/
def lastN (pre : List Int) : Int := pre.getLastD (-1000)

theorem lastN_snoc (pre : List Int) (x : Int) : lastN (pre ++ [x]) = x := by simp [lastN]

theorem lastN_lt {pre : List Int} {x : Int} (h : ∀ y ∈ pre, y < x) (hx : -1000 < x) : lastN pre < x := by
  rcases List.eq_nil_or_concat pre with rfl | ⟨p, y, rfl⟩
  · simpa [lastN] using hx
  · rw [List.concat_eq_append, lastN_snoc]
    exact h y (by simp)

/-- What three sets make, told. -/
theorem told_of {M L : List Rn} (hM : IsSet M) (h : ∀ z, inR M z ↔ inR L z) (hL : ∀ r ∈ L, -300 < r.f ∧ r.f < 300 ∧ -300 < r.t ∧ r.t < 300) : Told M (inP L) := by
  refine ⟨hM, fun z => ?_⟩
  rw [h z]
  constructor
  · rintro ⟨r, hr, h1, h2⟩
    have := hL r hr
    exact ⟨(z + 300).toNat, by omega, by unfold inP; rw [inB_iff]; exact ⟨r, hr, by omega, by omega⟩, by omega⟩
  · rintro ⟨k, hk, h1, rfl⟩
    unfold inP at h1
    rw [inB_iff] at h1
    rw [show (-300 : Int) + (k : Int) = (k : Int) - 300 by omega]
    exact h1

theorem Told.in_ {M : List Rn} {Q : Nat → Bool} (h : Told M Q) {k : Nat} (hk : k < 601) : Q k = true ↔ inR M ((k : Int) - 300) := by
  rw [h.2]
  constructor
  · intro hq; exact ⟨k, hk, hq, by omega⟩
  · rintro ⟨j, h1, h2, h3⟩
    obtain rfl : j = k := by omega
    exact h2

theorem Told.ends {M : List Rn} {Q : Nat → Bool} (h : Told M Q) : ∀ r ∈ M, -300 ≤ r.f ∧ r.f < r.t ∧ r.t ≤ 301 := h.1.ends fun z hz => by
  obtain ⟨k, h1, _, h3⟩ := (h.2 z).1 hz
  omega

theorem Told.ok {M : List Rn} {Q : Nat → Bool} (h : Told M Q) : ∀ r ∈ M, r.ok := fun r hr => by
  have := h.ends r hr
  exact ⟨by omega, by omega, by omega, by omega⟩

theorem told_join {A B C K : List Rn} {P Q O : Nat → Bool} (hA : Told A P) (hB : Told B Q) (hC : Told C O) (hK : IsSet K) (J : Bool → Bool → Bool → Bool) (hJ : J false false false = false)
    (h : ∀ z (a b c : Bool), (a = true ↔ inR A z) → (b = true ↔ inR B z) → (c = true ↔ inR C z) → (inR K z ↔ J a b c = true)) : Told K (fun k => J (P k) (Q k) (O k)) := by
  refine ⟨hK, fun z => ?_⟩
  by_cases hz : ∃ k : Nat, k < 601 ∧ z = (k : Int) - 300
  · obtain ⟨k, hk, rfl⟩ := hz
    rw [h _ _ _ _ (hA.in_ hk) (hB.in_ hk) (hC.in_ hk)]
    constructor
    · intro hj; exact ⟨k, hk, hj, by omega⟩
    · rintro ⟨j, h1, h2, h3⟩
      obtain rfl : j = k := by omega
      exact h2
  · have no : ∀ {M : List Rn} {R : Nat → Bool}, Told M R → ¬ inR M z := fun hM hi => by
      obtain ⟨k, h1, _, h3⟩ := (hM.2 z).1 hi
      exact hz ⟨k, h1, by omega⟩
    rw [h z false false false (by simp [no hA]) (by simp [no hB]) (by simp [no hC]), hJ]
    constructor
    · intro hf; cases hf
    · rintro ⟨k, h1, _, h3⟩
      exact absurd ⟨k, h1, by omega⟩ hz

end Go.Proofs.Ytfmaapojlbheaaa
