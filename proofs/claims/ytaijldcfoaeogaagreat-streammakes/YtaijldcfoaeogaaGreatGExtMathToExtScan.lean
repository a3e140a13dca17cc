
/- The plain mathematics of sets of numbers as runs: a list of runs that lie apart, in increasing order, is known by its numbers. No condition. -/
namespace Go.Proofs.YtaijldcfoaeogaaGreat

/-- A run: the numbers from f on, below t. -/
structure Rn where
  f : Int
  t : Int

/-- Is a number in a run? -/
def Rn.has (r : Rn) (x : Int) : Prop := r.f ≤ x ∧ x < r.t

/-- Is a number in one of some runs? -/
def inR (L : List Rn) (x : Int) : Prop := ∃ r ∈ L, r.has x

theorem inR_nil (x : Int) : ¬ inR [] x := by rintro ⟨r, h, _⟩; cases h

theorem inR_cons {r : Rn} {L : List Rn} {x : Int} : inR (r :: L) x ↔ r.has x ∨ inR L x := by
  constructor
  · rintro ⟨q, hq, hx⟩
    rcases List.mem_cons.1 hq with rfl | hq
    · exact .inl hx
    · exact .inr ⟨q, hq, hx⟩
  · rintro (h | ⟨q, hq, hx⟩)
    · exact ⟨r, by simp, h⟩
    · exact ⟨q, by simp [hq], hx⟩

theorem inR_append {L M : List Rn} {x : Int} : inR (L ++ M) x ↔ inR L x ∨ inR M x := by
  induction L with
  | nil => simp [inR_nil]
  | cons r L ih => rw [List.cons_append, inR_cons, inR_cons, ih, or_assoc]

/-- Runs that lie apart, in increasing order, all above a number; none is empty. -/
def Canon : Int → List Rn → Prop
  | _, [] => True
  | a, r :: L => a < r.f ∧ r.f < r.t ∧ Canon r.t L

theorem Canon.lower {a b : Int} {L : List Rn} (h : Canon a L) (hb : b ≤ a) : Canon b L := by
  cases L with
  | nil => trivial
  | cons r L => exact ⟨by have := h.1; omega, h.2⟩

theorem Canon.above {a : Int} {L : List Rn} (h : Canon a L) {x : Int} (hx : inR L x) : a < x := by
  induction L generalizing a with
  | nil => exact absurd hx (inR_nil x)
  | cons r L ih =>
    obtain ⟨h1, h2, h3⟩ := h
    rcases inR_cons.1 hx with h | h
    · have := h.1; omega
    · have := ih h3 h; omega

theorem Canon.unique {a b : Int} {L M : List Rn} (hL : Canon a L) (hM : Canon b M) (h : ∀ x, inR L x ↔ inR M x) : L = M := by
  induction L generalizing a b M with
  | nil =>
    cases M with
    | nil => rfl
    | cons r M =>
      obtain ⟨_, h2, _⟩ := hM
      exact absurd ((h r.f).2 (inR_cons.2 (.inl ⟨Int.le_refl _, h2⟩))) (inR_nil _)
  | cons r L ih =>
    cases M with
    | nil =>
      obtain ⟨_, h2, _⟩ := hL
      exact absurd ((h r.f).1 (inR_cons.2 (.inl ⟨Int.le_refl _, h2⟩))) (inR_nil _)
    | cons q M =>
      obtain ⟨h1, h2, h3⟩ := hL
      obtain ⟨k1, k2, k3⟩ := hM
      have lo1 : ∀ x, inR (r :: L) x → r.f ≤ x := by
        intro x hx
        rcases inR_cons.1 hx with h | h
        · exact h.1
        · have := h3.above h; omega
      have lo2 : ∀ x, inR (q :: M) x → q.f ≤ x := by
        intro x hx
        rcases inR_cons.1 hx with h | h
        · exact h.1
        · have := k3.above h; omega
      have e1 : r.f = q.f := by
        have a1 := lo2 r.f ((h r.f).1 (inR_cons.2 (.inl ⟨Int.le_refl _, h2⟩)))
        have a2 := lo1 q.f ((h q.f).2 (inR_cons.2 (.inl ⟨Int.le_refl _, k2⟩)))
        omega
      have n1 : ¬ inR (r :: L) r.t := by
        intro hx
        rcases inR_cons.1 hx with h | h
        · have := h.2; omega
        · have := h3.above h; omega
      have n2 : ¬ inR (q :: M) q.t := by
        intro hx
        rcases inR_cons.1 hx with h | h
        · have := h.2; omega
        · have := k3.above h; omega
      have e2 : r.t = q.t := by
        rcases Int.lt_trichotomy r.t q.t with hlt | he | hlt
        · exact absurd ((h r.t).2 (inR_cons.2 (.inl ⟨by omega, hlt⟩))) n1
        · exact he
        · exact absurd ((h q.t).1 (inR_cons.2 (.inl ⟨by omega, hlt⟩))) n2
      have e : r = q := by
        cases r
        cases q
        simp only at e1 e2
        rw [e1, e2]
      subst e
      congr 1
      refine ih h3 k3 fun x => ⟨fun hx => ?_, fun hx => ?_⟩
      · have := h3.above hx
        rcases inR_cons.1 ((h x).1 (inR_cons.2 (.inr hx))) with h | h
        · have := h.2; omega
        · exact h
      · have := k3.above hx
        rcases inR_cons.1 ((h x).2 (inR_cons.2 (.inr hx))) with h | h
        · have := h.2; omega
        · exact h

theorem Canon.snoc {a : Int} {L : List Rn} {r : Rn} (h : Canon a L) (hr : r.f < r.t) (ha : a < r.f) (hx : ∀ q ∈ L, q.t < r.f) : Canon a (L ++ [r]) := by
  induction L generalizing a with
  | nil => exact ⟨ha, hr, trivial⟩
  | cons q L ih => exact ⟨h.1, h.2.1, ih h.2.2 (hx q (by simp)) fun p hp => hx p (by simp [hp])⟩

theorem Canon.grow {a : Int} {L : List Rn} {f t t' : Int} (h : Canon a (L ++ [⟨f, t⟩])) (ht : t ≤ t') : Canon a (L ++ [⟨f, t'⟩]) := by
  induction L generalizing a with
  | nil => exact ⟨h.1, by have := h.2.1; simp only at this ⊢; omega, trivial⟩
  | cons q L ih => exact ⟨h.1, h.2.1, ih h.2.2⟩

theorem Canon.last {a : Int} {L : List Rn} {r : Rn} (h : Canon a (L ++ [r])) : r.f < r.t ∧ a < r.f ∧ ∀ q ∈ L, q.t < r.f := by
  induction L generalizing a with
  | nil => exact ⟨h.2.1, h.1, by simp⟩
  | cons q L ih =>
    obtain ⟨h1, h2, h3⟩ := ih h.2.2
    refine ⟨h1, by have := h.1; have := h.2.1; omega, fun p hp => ?_⟩
    rcases List.mem_cons.1 hp with rfl | hp
    · exact h2
    · exact h3 p hp

/-- The runs of the first i of the numbers that are told, from lo on. -/
structure Up (lo : Int) (P : Nat → Bool) (i : Nat) (L : List Rn) : Prop where
  can : Canon (lo - 1) L
  mem : ∀ x, inR L x ↔ ∃ k : Nat, k < i ∧ P k = true ∧ x = lo + (k : Int)
  le : ∀ r ∈ L, r.t ≤ lo + (i : Int)
  last : 0 < i → P (i - 1) = true → ∃ L0 r, L = L0 ++ [r] ∧ r.t = lo + (i : Int)
  apart : i = 0 ∨ P (i - 1) = false → ∀ r ∈ L, r.t < lo + (i : Int)

theorem up_start (lo : Int) (P : Nat → Bool) : Up lo P 0 [] :=
  ⟨trivial, fun x => ⟨fun h => absurd h (inR_nil x), fun ⟨k, hk, _⟩ => by omega⟩, by simp, by omega, by simp⟩

theorem Up.skip {lo : Int} {P : Nat → Bool} {i : Nat} {L : List Rn} (h : Up lo P i L) (hp : P i = false) : Up lo P (i + 1) L := by
  refine ⟨h.can, fun x => ?_, fun r hr => by have := h.le r hr; omega, fun _ hc => ?_, fun _ r hr => by have := h.le r hr; omega⟩
  · rw [h.mem x]
    constructor
    · rintro ⟨k, h1, h2⟩
      exact ⟨k, by omega, h2⟩
    · rintro ⟨k, h1, h2, h3⟩
      rcases Nat.lt_or_ge k i with hk | hk
      · exact ⟨k, hk, h2, h3⟩
      · have e : k = i := by omega
        rw [e, hp] at h2
        cases h2
  · rw [Nat.add_sub_cancel, hp] at hc
    cases hc

theorem Up.fresh {lo : Int} {P : Nat → Bool} {i : Nat} {L : List Rn} (h : Up lo P i L) (hp : P i = true) (ha : i = 0 ∨ P (i - 1) = false) : Up lo P (i + 1) (L ++ [⟨lo + (i : Int), lo + (i : Int) + 1⟩]) := by
  have hap := h.apart ha
  refine ⟨h.can.snoc (by simp only; omega) (by simp only; omega) (fun q hq => hap q hq), fun x => ?_, fun r hr => ?_, fun _ _ => ⟨L, _, rfl, by simp only; omega⟩, fun hc => ?_⟩
  · rw [inR_append, h.mem x, inR_cons]
    constructor
    · rintro (⟨k, h1, h2⟩ | h1 | h1)
      · exact ⟨k, by omega, h2⟩
      · exact ⟨i, by omega, hp, by have := h1.1; have := h1.2; simp only at *; omega⟩
      · exact absurd h1 (inR_nil x)
    · rintro ⟨k, h1, h2, h3⟩
      rcases Nat.lt_or_ge k i with hk | hk
      · exact .inl ⟨k, hk, h2, h3⟩
      · have e : k = i := by omega
        subst e
        exact .inr (.inl ⟨by simp only; omega, by simp only; omega⟩)
  · rcases List.mem_append.1 hr with hr | hr
    · have := h.le r hr; omega
    · simp only [List.mem_singleton] at hr
      subst hr
      simp only
      omega
  · rcases hc with hc | hc
    · omega
    · rw [Nat.add_sub_cancel, hp] at hc
      cases hc

theorem Up.grow {lo : Int} {P : Nat → Bool} {i : Nat} {L : List Rn} {f t : Int} (h : Up lo P i (L ++ [⟨f, t⟩])) (hp : P i = true) (ht : t = lo + (i : Int)) : Up lo P (i + 1) (L ++ [⟨f, lo + (i : Int) + 1⟩]) := by
  subst ht
  obtain ⟨l1, l2, l3⟩ := h.can.last
  simp only at l1 l2 l3
  refine ⟨h.can.grow (by omega), fun x => ?_, fun r hr => ?_, fun _ _ => ⟨L, _, rfl, by simp only; omega⟩, fun hc => ?_⟩
  · have hm := h.mem x
    rw [inR_append, inR_cons] at hm ⊢
    constructor
    · intro hx
      by_cases e : x = lo + (i : Int)
      · exact ⟨i, by omega, hp, e⟩
      · obtain ⟨k, h1, h2⟩ := hm.1 (by
          rcases hx with h1 | h1 | h1
          · exact .inl h1
          · exact .inr (.inl ⟨h1.1, by have := h1.2; simp only at *; omega⟩)
          · exact absurd h1 (inR_nil x))
        exact ⟨k, by omega, h2⟩
    · rintro ⟨k, h1, h2, h3⟩
      rcases Nat.lt_or_ge k i with hk | hk
      · rcases hm.2 ⟨k, hk, h2, h3⟩ with h4 | h4 | h4
        · exact .inl h4
        · exact .inr (.inl ⟨h4.1, by have := h4.2; simp only at *; omega⟩)
        · exact absurd h4 (inR_nil x)
      · have e : k = i := by omega
        subst e
        exact .inr (.inl ⟨by simp only; omega, by simp only; omega⟩)
  · rcases List.mem_append.1 hr with hr | hr
    · have := h.le r (by simp [hr]); omega
    · simp only [List.mem_singleton] at hr
      subst hr
      simp only
      omega
  · rcases hc with hc | hc
    · omega
    · rw [Nat.add_sub_cancel, hp] at hc
      cases hc

/-- How many numbers. -/
def lenR (L : List Rn) : Int := (L.map fun r => r.t - r.f).sum

/-- A set of numbers that are not below 0. -/
def Pos (M : List Rn) : Prop := Canon (-1) M

end Go.Proofs.YtaijldcfoaeogaaGreat

/- The plain mathematics of counting over sorted steps: the runs in which a count is great enough; which numbers they have. No condition. -/
namespace Go.Proofs.YtaijldcfoaeogaaGreat

instance : Inhabited Rn := ⟨⟨0, 0⟩⟩

/-- The count at a number: all steps at it or below it. -/
def cntS : List Rn → Int → Int
  | [], _ => 0
  | s :: S, x => (if s.f ≤ x then s.t else 0) + cntS S x

/-- All steps together. -/
def sumS : List Rn → Int
  | [] => 0
  | s :: S => s.t + sumS S

/-- Steps that rise. -/
def RisS (S : List Rn) : Prop := S.Pairwise fun a b => a.f ≤ b.f

theorem cntS_perm {S T : List Rn} (h : S.Perm T) (x : Int) : cntS S x = cntS T x := by
  induction h with
  | nil => rfl
  | cons a _ ih => simp only [cntS, ih]
  | swap a b l => simp only [cntS]; omega
  | trans _ _ h1 h2 => rw [h1, h2]

theorem sumS_perm {S T : List Rn} (h : S.Perm T) : sumS S = sumS T := by
  induction h with
  | nil => rfl
  | cons a _ ih => simp only [sumS, ih]
  | swap a b l => simp only [sumS]; omega
  | trans _ _ h1 h2 => rw [h1, h2]

theorem cntS_append (S T : List Rn) (x : Int) : cntS (S ++ T) x = cntS S x + cntS T x := by
  induction S with
  | nil => simp [cntS]
  | cons s S ih => simp only [List.cons_append, cntS, ih]; omega

theorem sumS_append (S T : List Rn) : sumS (S ++ T) = sumS S + sumS T := by
  induction S with
  | nil => simp [sumS]
  | cons s S ih => simp only [List.cons_append, sumS, ih]; omega

theorem cntS_low {S : List Rn} {x : Int} (h : ∀ s ∈ S, x < s.f) : cntS S x = 0 := by
  induction S with
  | nil => rfl
  | cons s S ih =>
    have h1 := h s (by simp)
    simp only [cntS, ih fun q hq => h q (by simp [hq])]
    rw [if_neg (by omega)]
    rfl

/-- Does a group of steps go on? -/
def goesOn (x : Rn) : List Rn → Bool
  | [] => false
  | y :: _ => decide (y.f = x.f)

/-- What is left to be found, from a count, whether a run is open, and where it began. -/
def scanS (least : Int) : List Rn → Int → Bool → Int → List Rn
  | [], _, _, _ => []
  | x :: S, c, o, f =>
    if goesOn x S then scanS least S (c + x.t) o f
    else if least ≤ c + x.t then scanS least S (c + x.t) true (if o then f else x.f)
    else if o then ⟨f, x.f⟩ :: scanS least S (c + x.t) false f
    else scanS least S (c + x.t) false f

theorem scan_spec (least : Int) (S : List Rn) : ∀ (c : Int) (o : Bool) (f : Int), RisS S → c + sumS S < least → (S = [] → o = false) → (o = true → ∀ s ∈ S, f < s.f) →
    (∀ a, (∀ s ∈ S, a < s.f) → (o = true → a < f) → Canon a (scanS least S c o f)) ∧
    (∀ z, (∀ s ∈ S, z < s.f) → (inR (scanS least S c o f) z ↔ o = true ∧ f ≤ z)) ∧
    (∀ z s0 R, S = s0 :: R → s0.f ≤ z → (inR (scanS least S c o f) z ↔ least ≤ c + cntS S z)) := by
  induction S with
  | nil =>
    intro c o f _ _ ho _
    refine ⟨fun _ _ _ => trivial, fun z _ => ?_, fun z s0 R h => by cases h⟩
    rw [ho rfl]
    simp [scanS, inR_nil]
  | cons x S ih =>
    intro c o f hr hs _ hf
    have hr' : RisS S := (List.pairwise_cons.1 hr).2
    have hx : ∀ s ∈ S, x.f ≤ s.f := (List.pairwise_cons.1 hr).1
    have hs' : c + x.t + sumS S < least := by simp only [sumS] at hs; omega
    by_cases hg : goesOn x S = true
    · cases S with
      | nil => simp [goesOn] at hg
      | cons y R =>
        have hy : y.f = x.f := by simpa [goesOn] using hg
        have e : scanS least (x :: y :: R) c o f = scanS least (y :: R) (c + x.t) o f := by rw [scanS, if_pos hg]
        obtain ⟨i1, i2, i3⟩ := ih (c + x.t) o f hr' hs' (by simp) fun h s hq => hf h s (by simp [List.mem_cons] at hq ⊢; exact .inr hq)
        rw [e]
        refine ⟨fun a ha hb => i1 a (fun s hq => ha s (List.mem_cons_of_mem _ hq)) hb, fun z hz => i2 z fun s hq => hz s (List.mem_cons_of_mem _ hq), fun z s0 R' hS hz => ?_⟩
        have h0 : s0 = x := by injection hS with h1 _; exact h1.symm
        subst h0
        rw [i3 z y R rfl (by omega)]
        rw [show cntS (s0 :: y :: R) z = s0.t + cntS (y :: R) z by rw [cntS, if_pos hz]]
        rw [Int.add_assoc]
    · have hlt : ∀ s ∈ S, x.f < s.f := by
        cases S with
        | nil => simp
        | cons y R =>
          have hne : y.f ≠ x.f := by simpa [goesOn] using hg
          have h1 := hx y (by simp)
          intro s hq
          rcases List.mem_cons.1 hq with rfl | hq
          · omega
          · have := (List.pairwise_cons.1 hr').1 s hq
            omega
      have hcut : ∀ z, ¬ (∀ s ∈ S, z < s.f) → ∃ s0 R, S = s0 :: R ∧ s0.f ≤ z := by
        intro z hz
        cases S with
        | nil => exact absurd (by simp) hz
        | cons y R =>
          refine ⟨y, R, rfl, ?_⟩
          rcases Int.lt_or_le z y.f with h | h
          · exact absurd (fun s hq => by
              rcases List.mem_cons.1 hq with rfl | hq
              · exact h
              · have := (List.pairwise_cons.1 hr').1 s hq
                omega) hz
          · exact h
      by_cases hl : least ≤ c + x.t
      · have e : scanS least (x :: S) c o f = scanS least S (c + x.t) true (if o then f else x.f) := by rw [scanS, if_neg hg, if_pos hl]
        have hne : S = [] → True = False := by
          rintro rfl
          simp only [sumS] at hs'
          omega
        have hfx : o = true → f < x.f := fun h => hf h x (by simp)
        obtain ⟨i1, i2, i3⟩ := ih (c + x.t) true (if o then f else x.f) hr' hs' (fun h => by have := hne h; simp at this) (fun _ s hq => by
          have h1 := hlt s hq
          cases o with
          | false => exact h1
          | true => have := hfx rfl; simp only [if_true]; omega)
        rw [e]
        refine ⟨fun a ha hb => i1 a (fun s hq => ha s (by simp [hq])) (fun _ => ?_), fun z hz => ?_, fun z s0 R' hS hz => ?_⟩
        · cases o with
          | false => exact ha x (by simp)
          | true => exact hb rfl
        · have hzx := hz x (by simp)
          rw [i2 z fun s hq => by have := hlt s hq; omega]
          cases o with
          | false => simp; omega
          | true => simp
        · injection hS with h1 h2
          subst h1
          rw [show cntS (x :: S) z = x.t + cntS S z by rw [cntS, if_pos hz]]
          by_cases hall : ∀ s ∈ S, z < s.f
          · rw [i2 z hall, cntS_low hall]
            have : (if o = true then f else x.f) ≤ z := by
              cases o with
              | false => simpa using hz
              | true => have := hfx rfl; simp only [if_true]; omega
            simp only [this, and_self, true_iff]
            omega
          · obtain ⟨s1, R1, hS1, hz1⟩ := hcut z hall
            rw [i3 z s1 R1 hS1 hz1, Int.add_assoc]
      · cases o with
        | false =>
          have e : scanS least (x :: S) c false f = scanS least S (c + x.t) false f := by rw [scanS, if_neg hg, if_neg hl]; simp
          obtain ⟨i1, i2, i3⟩ := ih (c + x.t) false f hr' hs' (fun _ => rfl) (fun h => by cases h)
          rw [e]
          refine ⟨fun a ha hb => i1 a (fun s hq => ha s (by simp [hq])) hb, fun z hz => i2 z fun s hq => hz s (by simp [hq]), fun z s0 R' hS hz => ?_⟩
          injection hS with h1 h2
          subst h1
          rw [show cntS (x :: S) z = x.t + cntS S z by rw [cntS, if_pos hz]]
          by_cases hall : ∀ s ∈ S, z < s.f
          · rw [i2 z hall, cntS_low hall]
            simp
            omega
          · obtain ⟨s1, R1, hS1, hz1⟩ := hcut z hall
            rw [i3 z s1 R1 hS1 hz1, Int.add_assoc]
        | true =>
          have e : scanS least (x :: S) c true f = ⟨f, x.f⟩ :: scanS least S (c + x.t) false f := by rw [scanS, if_neg hg, if_neg hl]; simp
          have hfx : f < x.f := hf rfl x (by simp)
          obtain ⟨i1, i2, i3⟩ := ih (c + x.t) false f hr' hs' (fun _ => rfl) (fun h => by cases h)
          rw [e]
          refine ⟨fun a ha hb => ⟨hb rfl, hfx, i1 x.f hlt (fun h => by cases h)⟩, fun z hz => ?_, fun z s0 R' hS hz => ?_⟩
          · have hzx := hz x (by simp)
            rw [inR_cons, i2 z fun s hq => by have := hlt s hq; omega]
            simp [Rn.has]
            omega
          · injection hS with h1 h2
            subst h1
            rw [show cntS (x :: S) z = x.t + cntS S z by rw [cntS, if_pos hz]]
            rw [inR_cons]
            have hno : ¬ Rn.has ⟨f, x.f⟩ z := by rintro ⟨_, h⟩; simp only at h; omega
            by_cases hall : ∀ s ∈ S, z < s.f
            · rw [i2 z hall, cntS_low hall]
              simp [hno]
              omega
            · obtain ⟨s1, R1, hS1, hz1⟩ := hcut z hall
              rw [i3 z s1 R1 hS1 hz1, Int.add_assoc]
              simp [hno]

theorem scan_all {least : Int} {S : List Rn} (hr : RisS S) (hs : sumS S = 0) (hl : 0 < least) :
    (∀ a, (∀ s ∈ S, a < s.f) → Canon a (scanS least S 0 false 0)) ∧ ∀ z, inR (scanS least S 0 false 0) z ↔ least ≤ cntS S z := by
  obtain ⟨h1, h2, h3⟩ := scan_spec least S 0 false 0 hr (by omega) (fun _ => rfl) (fun h => by cases h)
  refine ⟨fun a ha => h1 a ha (fun h => by cases h), fun z => ?_⟩
  by_cases hall : ∀ s ∈ S, z < s.f
  · rw [h2 z hall, cntS_low hall]
    simp
    omega
  · cases S with
    | nil => exact absurd (by simp) hall
    | cons y R =>
      have hy : y.f ≤ z := by
        rcases Int.lt_or_le z y.f with h | h
        · exact absurd (fun s hq => by
            rcases List.mem_cons.1 hq with rfl | hq
            · exact h
            · have := (List.pairwise_cons.1 hr).1 s hq
              omega) hall
        · exact h
      rw [h3 z y R rfl hy, Int.zero_add]

/-- The steps of some runs. -/
def stepsR (d : Int) (L : List Rn) : List Rn := L.flatMap fun r => if r.f < r.t then [⟨r.f, d⟩, ⟨r.t, -d⟩] else []

/-- In how many of some runs a number is. -/
def occR : List Rn → Int → Nat
  | [], _ => 0
  | r :: L, x => (if r.f ≤ x ∧ x < r.t then 1 else 0) + occR L x

theorem stepsR_cons (d : Int) (r : Rn) (L : List Rn) : stepsR d (r :: L) = (if r.f < r.t then [⟨r.f, d⟩, ⟨r.t, -d⟩] else []) ++ stepsR d L := by simp [stepsR]

theorem stepsR_snoc (d : Int) (r : Rn) (L : List Rn) : stepsR d (L ++ [r]) = stepsR d L ++ (if r.f < r.t then [⟨r.f, d⟩, ⟨r.t, -d⟩] else []) := by simp [stepsR]

theorem stepsR_len (d : Int) (L : List Rn) : (stepsR d L).length ≤ 2 * L.length := by
  induction L with
  | nil => simp [stepsR]
  | cons r L ih =>
    rw [stepsR_cons, List.length_append, List.length_cons]
    split <;> simp <;> omega

theorem stepsR_sum (d : Int) (L : List Rn) : sumS (stepsR d L) = 0 := by
  induction L with
  | nil => rfl
  | cons r L ih =>
    rw [stepsR_cons, sumS_append, ih]
    split <;> simp [sumS] <;> omega

theorem stepsR_cnt (d : Int) (L : List Rn) (x : Int) : cntS (stepsR d L) x = d * (occR L x : Int) := by
  induction L with
  | nil => simp [stepsR, cntS, occR]
  | cons r L ih =>
    rw [stepsR_cons, cntS_append, ih, occR]
    have key : cntS (if r.f < r.t then [⟨r.f, d⟩, ⟨r.t, -d⟩] else []) x = if r.f ≤ x ∧ x < r.t then d else 0 := by
      by_cases h : r.f < r.t
      · rw [if_pos h]
        simp only [cntS]
        by_cases h1 : r.f ≤ x
        · by_cases h2 : x < r.t
          · rw [if_pos h1, if_neg (by omega), if_pos ⟨h1, h2⟩]; omega
          · rw [if_pos h1, if_pos (by omega), if_neg (by omega)]; omega
        · rw [if_neg h1, if_neg (by omega), if_neg (by omega)]; omega
      · rw [if_neg h, if_neg (by omega)]; rfl
    rw [key]
    split
    · rw [Int.natCast_add, Int.mul_add]; simp
    · simp

theorem stepsR_small {d : Int} {L : List Rn} {s : Rn} (h : s ∈ stepsR d L) : s.t = d ∨ s.t = -d := by
  simp only [stepsR, List.mem_flatMap] at h
  obtain ⟨r, _, h⟩ := h
  split at h
  · simp only [List.mem_cons, List.not_mem_nil, or_false] at h
    rcases h with rfl | rfl
    · exact .inl rfl
    · exact .inr rfl
  · cases h

theorem occR_pos {L : List Rn} {x : Int} : 1 ≤ occR L x ↔ inR L x := by
  induction L with
  | nil => simp [occR, inR_nil]
  | cons r L ih =>
    rw [occR, inR_cons, ← ih]
    unfold Rn.has
    split <;> omega

theorem Canon.occ {a : Int} {L : List Rn} (h : Canon a L) (x : Int) : occR L x ≤ 1 := by
  induction L generalizing a with
  | nil => simp [occR]
  | cons r L ih =>
    rw [occR]
    have h1 := ih h.2.2
    split
    · have h2 : ¬ inR L x := fun hx => by have := h.2.2.above hx; omega
      rw [← occR_pos] at h2
      omega
    · omega

theorem Canon.occ_iff {a : Int} {L : List Rn} (h : Canon a L) (x : Int) : (occR L x = 1 ∧ inR L x) ∨ (occR L x = 0 ∧ ¬ inR L x) := by
  have h1 := h.occ x
  have h2 := occR_pos (L := L) (x := x)
  by_cases hi : inR L x
  · exact .inl ⟨by have := h2.2 hi; omega, hi⟩
  · refine .inr ⟨?_, hi⟩
    rcases Nat.eq_zero_or_pos (occR L x) with h | h
    · exact h
    · exact absurd (h2.1 h) hi

/-- How often a number is in some lists of runs, together. -/
def occAll : List (List Rn) → Int → Nat
  | [], _ => 0
  | L :: M, x => occR L x + occAll M x

/-- All steps of some lists of runs. -/
def stepsAll (d : Int) (M : List (List Rn)) : List Rn := M.flatMap (stepsR d)

theorem stepsAll_cons (d : Int) (L : List Rn) (M : List (List Rn)) : stepsAll d (L :: M) = stepsR d L ++ stepsAll d M := by simp [stepsAll]

theorem stepsAll_snoc (d : Int) (L : List Rn) (M : List (List Rn)) : stepsAll d (M ++ [L]) = stepsAll d M ++ stepsR d L := by simp [stepsAll]

theorem stepsAll_sum (d : Int) (M : List (List Rn)) : sumS (stepsAll d M) = 0 := by
  induction M with
  | nil => rfl
  | cons L M ih => rw [stepsAll_cons, sumS_append, ih, stepsR_sum]; rfl

theorem stepsAll_cnt (d : Int) (M : List (List Rn)) (x : Int) : cntS (stepsAll d M) x = d * (occAll M x : Int) := by
  induction M with
  | nil => simp [stepsAll, cntS, occAll]
  | cons L M ih => rw [stepsAll_cons, cntS_append, ih, stepsR_cnt, occAll, Int.natCast_add, Int.mul_add]

theorem occAll_pos {M : List (List Rn)} {x : Int} : 1 ≤ occAll M x ↔ ∃ L ∈ M, inR L x := by
  induction M with
  | nil => simp [occAll]
  | cons L M ih =>
    rw [occAll]
    have h1 := occR_pos (L := L) (x := x)
    constructor
    · intro h
      by_cases hL : 1 ≤ occR L x
      · exact ⟨L, by simp, h1.1 hL⟩
      · obtain ⟨K, hK, hx⟩ := ih.1 (by omega)
        exact ⟨K, by simp [hK], hx⟩
    · rintro ⟨K, hK, hx⟩
      rcases List.mem_cons.1 hK with rfl | hK
      · have := h1.2 hx; omega
      · have := ih.2 ⟨K, hK, hx⟩; omega

theorem occAll_full {M : List (List Rn)} (hM : ∀ L ∈ M, ∃ a, Canon a L) (x : Int) : occAll M x ≤ M.length ∧ (M.length ≤ occAll M x ↔ ∀ L ∈ M, inR L x) := by
  induction M with
  | nil => simp [occAll]
  | cons L M ih =>
    obtain ⟨i1, i2⟩ := ih fun K hK => hM K (by simp [hK])
    obtain ⟨a, ha⟩ := hM L (by simp)
    rw [occAll, List.length_cons]
    rcases ha.occ_iff x with ⟨h1, h2⟩ | ⟨h1, h2⟩
    · refine ⟨by omega, ?_⟩
      rw [h1]
      constructor
      · intro h K hK
        rcases List.mem_cons.1 hK with rfl | hK
        · exact h2
        · exact i2.1 (by omega) K hK
      · intro h
        have := i2.2 fun K hK => h K (by simp [hK])
        omega
    · refine ⟨by omega, ?_⟩
      rw [h1]
      constructor
      · intro h
        omega
      · intro h
        exact absurd (h L (by simp)) h2

end Go.Proofs.YtaijldcfoaeogaaGreat
