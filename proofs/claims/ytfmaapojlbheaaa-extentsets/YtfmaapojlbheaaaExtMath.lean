/- The plain mathematics of sets of numbers as runs: a list of runs that lie apart, in increasing order, is known by its numbers. No condition. -/
namespace Go.Proofs.Ytfmaapojlbheaaa

/-- A run: the numbers from f on, below t. -/
structure Rn where
  f : Int
  t : Int

/-- Is a number in a run? -/
def Rn.has (r : Rn) (x : Int) : Prop := r.f ≤ x ∧ x < r.t

/-- Is a number in one of some runs? -/
def inR (L : List Rn) (x : Int) : Prop := ∃ r ∈ L, r.has x

theorem inR_nil (x : Int) : ¬ inR [] x := by rintro ⟨r, h, _⟩; cases h

theorem inR_cons {r : Rn} {L : List Rn} {x : Int} : inR (r :: L) x ↔ r.has x ∨ inR L x := by
  constructor
  · rintro ⟨q, hq, hx⟩
    rcases List.mem_cons.1 hq with rfl | hq
    · exact .inl hx
    · exact .inr ⟨q, hq, hx⟩
  · rintro (h | ⟨q, hq, hx⟩)
    · exact ⟨r, by simp, h⟩
    · exact ⟨q, by simp [hq], hx⟩

theorem inR_append {L M : List Rn} {x : Int} : inR (L ++ M) x ↔ inR L x ∨ inR M x := by
  induction L with
  | nil => simp [inR_nil]
  | cons r L ih => rw [List.cons_append, inR_cons, inR_cons, ih, or_assoc]

/-- Runs that lie apart, in increasing order, all above a number; none is empty. -/
def Canon : Int → List Rn → Prop
  | _, [] => True
  | a, r :: L => a < r.f ∧ r.f < r.t ∧ Canon r.t L

theorem Canon.lower {a b : Int} {L : List Rn} (h : Canon a L) (hb : b ≤ a) : Canon b L := by
  cases L with
  | nil => trivial
  | cons r L => exact ⟨by have := h.1; omega, h.2⟩

theorem Canon.above {a : Int} {L : List Rn} (h : Canon a L) {x : Int} (hx : inR L x) : a < x := by
  induction L generalizing a with
  | nil => exact absurd hx (inR_nil x)
  | cons r L ih =>
    obtain ⟨h1, h2, h3⟩ := h
    rcases inR_cons.1 hx with h | h
    · have := h.1; omega
    · have := ih h3 h; omega

theorem Canon.unique {a b : Int} {L M : List Rn} (hL : Canon a L) (hM : Canon b M) (h : ∀ x, inR L x ↔ inR M x) : L = M := by
  induction L generalizing a b M with
  | nil =>
    cases M with
    | nil => rfl
    | cons r M =>
      obtain ⟨_, h2, _⟩ := hM
      exact absurd ((h r.f).2 (inR_cons.2 (.inl ⟨Int.le_refl _, h2⟩))) (inR_nil _)
  | cons r L ih =>
    cases M with
    | nil =>
      obtain ⟨_, h2, _⟩ := hL
      exact absurd ((h r.f).1 (inR_cons.2 (.inl ⟨Int.le_refl _, h2⟩))) (inR_nil _)
    | cons q M =>
      obtain ⟨h1, h2, h3⟩ := hL
      obtain ⟨k1, k2, k3⟩ := hM
      have lo1 : ∀ x, inR (r :: L) x → r.f ≤ x := by
        intro x hx
        rcases inR_cons.1 hx with h | h
        · exact h.1
        · have := h3.above h; omega
      have lo2 : ∀ x, inR (q :: M) x → q.f ≤ x := by
        intro x hx
        rcases inR_cons.1 hx with h | h
        · exact h.1
        · have := k3.above h; omega
      have e1 : r.f = q.f := by
        have a1 := lo2 r.f ((h r.f).1 (inR_cons.2 (.inl ⟨Int.le_refl _, h2⟩)))
        have a2 := lo1 q.f ((h q.f).2 (inR_cons.2 (.inl ⟨Int.le_refl _, k2⟩)))
        omega
      have n1 : ¬ inR (r :: L) r.t := by
        intro hx
        rcases inR_cons.1 hx with h | h
        · have := h.2; omega
        · have := h3.above h; omega
      have n2 : ¬ inR (q :: M) q.t := by
        intro hx
        rcases inR_cons.1 hx with h | h
        · have := h.2; omega
        · have := k3.above h; omega
      have e2 : r.t = q.t := by
        rcases Int.lt_trichotomy r.t q.t with hlt | he | hlt
        · exact absurd ((h r.t).2 (inR_cons.2 (.inl ⟨by omega, hlt⟩))) n1
        · exact he
        · exact absurd ((h q.t).1 (inR_cons.2 (.inl ⟨by omega, hlt⟩))) n2
      have e : r = q := by
        cases r
        cases q
        simp only at e1 e2
        rw [e1, e2]
      subst e
      congr 1
      refine ih h3 k3 fun x => ⟨fun hx => ?_, fun hx => ?_⟩
      · have := h3.above hx
        rcases inR_cons.1 ((h x).1 (inR_cons.2 (.inr hx))) with h | h
        · have := h.2; omega
        · exact h
      · have := k3.above hx
        rcases inR_cons.1 ((h x).2 (inR_cons.2 (.inr hx))) with h | h
        · have := h.2; omega
        · exact h

theorem Canon.snoc {a : Int} {L : List Rn} {r : Rn} (h : Canon a L) (hr : r.f < r.t) (ha : a < r.f) (hx : ∀ q ∈ L, q.t < r.f) : Canon a (L ++ [r]) := by
  induction L generalizing a with
  | nil => exact ⟨ha, hr, trivial⟩
  | cons q L ih => exact ⟨h.1, h.2.1, ih h.2.2 (hx q (by simp)) fun p hp => hx p (by simp [hp])⟩

theorem Canon.grow {a : Int} {L : List Rn} {f t t' : Int} (h : Canon a (L ++ [⟨f, t⟩])) (ht : t ≤ t') : Canon a (L ++ [⟨f, t'⟩]) := by
  induction L generalizing a with
  | nil => exact ⟨h.1, by have := h.2.1; simp only at this ⊢; omega, trivial⟩
  | cons q L ih => exact ⟨h.1, h.2.1, ih h.2.2⟩

theorem Canon.last {a : Int} {L : List Rn} {r : Rn} (h : Canon a (L ++ [r])) : r.f < r.t ∧ a < r.f ∧ ∀ q ∈ L, q.t < r.f := by
  induction L generalizing a with
  | nil => exact ⟨h.2.1, h.1, by simp⟩
  | cons q L ih =>
    obtain ⟨h1, h2, h3⟩ := ih h.2.2
    refine ⟨h1, by have := h.1; have := h.2.1; omega, fun p hp => ?_⟩
    rcases List.mem_cons.1 hp with rfl | hp
    · exact h2
    · exact h3 p hp

/-- The runs of the first i of the numbers that are told, from lo on. -/
structure Up (lo : Int) (P : Nat → Bool) (i : Nat) (L : List Rn) : Prop where
  can : Canon (lo - 1) L
  mem : ∀ x, inR L x ↔ ∃ k : Nat, k < i ∧ P k = true ∧ x = lo + (k : Int)
  le : ∀ r ∈ L, r.t ≤ lo + (i : Int)
  last : 0 < i → P (i - 1) = true → ∃ L0 r, L = L0 ++ [r] ∧ r.t = lo + (i : Int)
  apart : i = 0 ∨ P (i - 1) = false → ∀ r ∈ L, r.t < lo + (i : Int)

theorem up_start (lo : Int) (P : Nat → Bool) : Up lo P 0 [] :=
  ⟨trivial, fun x => ⟨fun h => absurd h (inR_nil x), fun ⟨k, hk, _⟩ => by omega⟩, by simp, by omega, by simp⟩

theorem Up.skip {lo : Int} {P : Nat → Bool} {i : Nat} {L : List Rn} (h : Up lo P i L) (hp : P i = false) : Up lo P (i + 1) L := by
  refine ⟨h.can, fun x => ?_, fun r hr => by have := h.le r hr; omega, fun _ hc => ?_, fun _ r hr => by have := h.le r hr; omega⟩
  · rw [h.mem x]
    constructor
    · rintro ⟨k, h1, h2⟩
      exact ⟨k, by omega, h2⟩
    · rintro ⟨k, h1, h2, h3⟩
      rcases Nat.lt_or_ge k i with hk | hk
      · exact ⟨k, hk, h2, h3⟩
      · have e : k = i := by omega
        rw [e, hp] at h2
        cases h2
  · rw [Nat.add_sub_cancel, hp] at hc
    cases hc

theorem Up.fresh {lo : Int} {P : Nat → Bool} {i : Nat} {L : List Rn} (h : Up lo P i L) (hp : P i = true) (ha : i = 0 ∨ P (i - 1) = false) : Up lo P (i + 1) (L ++ [⟨lo + (i : Int), lo + (i : Int) + 1⟩]) := by
  have hap := h.apart ha
  refine ⟨h.can.snoc (by simp only; omega) (by simp only; omega) (fun q hq => hap q hq), fun x => ?_, fun r hr => ?_, fun _ _ => ⟨L, _, rfl, by simp only; omega⟩, fun hc => ?_⟩
  · rw [inR_append, h.mem x, inR_cons]
    constructor
    · rintro (⟨k, h1, h2⟩ | h1 | h1)
      · exact ⟨k, by omega, h2⟩
      · exact ⟨i, by omega, hp, by have := h1.1; have := h1.2; simp only at *; omega⟩
      · exact absurd h1 (inR_nil x)
    · rintro ⟨k, h1, h2, h3⟩
      rcases Nat.lt_or_ge k i with hk | hk
      · exact .inl ⟨k, hk, h2, h3⟩
      · have e : k = i := by omega
        subst e
        exact .inr (.inl ⟨by simp only; omega, by simp only; omega⟩)
  · rcases List.mem_append.1 hr with hr | hr
    · have := h.le r hr; omega
    · simp only [List.mem_singleton] at hr
      subst hr
      simp only
      omega
  · rcases hc with hc | hc
    · omega
    · rw [Nat.add_sub_cancel, hp] at hc
      cases hc

theorem Up.grow {lo : Int} {P : Nat → Bool} {i : Nat} {L : List Rn} {f t : Int} (h : Up lo P i (L ++ [⟨f, t⟩])) (hp : P i = true) (ht : t = lo + (i : Int)) : Up lo P (i + 1) (L ++ [⟨f, lo + (i : Int) + 1⟩]) := by
  subst ht
  obtain ⟨l1, l2, l3⟩ := h.can.last
  simp only at l1 l2 l3
  refine ⟨h.can.grow (by omega), fun x => ?_, fun r hr => ?_, fun _ _ => ⟨L, _, rfl, by simp only; omega⟩, fun hc => ?_⟩
  · have hm := h.mem x
    rw [inR_append, inR_cons] at hm ⊢
    constructor
    · intro hx
      by_cases e : x = lo + (i : Int)
      · exact ⟨i, by omega, hp, e⟩
      · obtain ⟨k, h1, h2⟩ := hm.1 (by
          rcases hx with h1 | h1 | h1
          · exact .inl h1
          · exact .inr (.inl ⟨h1.1, by have := h1.2; simp only at *; omega⟩)
          · exact absurd h1 (inR_nil x))
        exact ⟨k, by omega, h2⟩
    · rintro ⟨k, h1, h2, h3⟩
      rcases Nat.lt_or_ge k i with hk | hk
      · rcases hm.2 ⟨k, hk, h2, h3⟩ with h4 | h4 | h4
        · exact .inl h4
        · exact .inr (.inl ⟨h4.1, by have := h4.2; simp only at *; omega⟩)
        · exact absurd h4 (inR_nil x)
      · have e : k = i := by omega
        subst e
        exact .inr (.inl ⟨by simp only; omega, by simp only; omega⟩)
  · rcases List.mem_append.1 hr with hr | hr
    · have := h.le r (by simp [hr]); omega
    · simp only [List.mem_singleton] at hr
      subst hr
      simp only
      omega
  · rcases hc with hc | hc
    · omega
    · rw [Nat.add_sub_cancel, hp] at hc
      cases hc

/-- How many numbers. -/
def lenR (L : List Rn) : Int := (L.map fun r => r.t - r.f).sum

end Go.Proofs.Ytfmaapojlbheaaa
