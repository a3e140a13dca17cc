/- The plain mathematics of counting over sorted steps: the runs in which a count is great enough; which numbers they have. No condition. -/
import Derived.Test.YtfmaapojlbheaaaExtMath
namespace Go.Proofs.Ytfmaapojlbheaaa

instance : Inhabited Rn := ⟨⟨0, 0⟩⟩

/-- The count at a number: all steps at it or below it. -/
def cntS : List Rn → Int → Int
  | [], _ => 0
  | s :: S, x => (if s.f ≤ x then s.t else 0) + cntS S x

/-- All steps together. -/
def sumS : List Rn → Int
  | [] => 0
  | s :: S => s.t + sumS S

/-- Steps that rise. -/
def RisS (S : List Rn) : Prop := S.Pairwise fun a b => a.f ≤ b.f

theorem cntS_perm {S T : List Rn} (h : S.Perm T) (x : Int) : cntS S x = cntS T x := by
  induction h with
  | nil => rfl
  | cons a _ ih => simp only [cntS, ih]
  | swap a b l => simp only [cntS]; omega
  | trans _ _ h1 h2 => rw [h1, h2]

theorem sumS_perm {S T : List Rn} (h : S.Perm T) : sumS S = sumS T := by
  induction h with
  | nil => rfl
  | cons a _ ih => simp only [sumS, ih]
  | swap a b l => simp only [sumS]; omega
  | trans _ _ h1 h2 => rw [h1, h2]

theorem cntS_append (S T : List Rn) (x : Int) : cntS (S ++ T) x = cntS S x + cntS T x := by
  induction S with
  | nil => simp [cntS]
  | cons s S ih => simp only [List.cons_append, cntS, ih]; omega

theorem sumS_append (S T : List Rn) : sumS (S ++ T) = sumS S + sumS T := by
  induction S with
  | nil => simp [sumS]
  | cons s S ih => simp only [List.cons_append, sumS, ih]; omega

theorem cntS_low {S : List Rn} {x : Int} (h : ∀ s ∈ S, x < s.f) : cntS S x = 0 := by
  induction S with
  | nil => rfl
  | cons s S ih =>
    have h1 := h s (by simp)
    simp only [cntS, ih fun q hq => h q (by simp [hq])]
    rw [if_neg (by omega)]
    rfl

/-- Does a group of steps go on? -/
def goesOn (x : Rn) : List Rn → Bool
  | [] => false
  | y :: _ => decide (y.f = x.f)

/-- What is left to be found, from a count, whether a run is open, and where it began. -/
def scanS (least : Int) : List Rn → Int → Bool → Int → List Rn
  | [], _, _, _ => []
  | x :: S, c, o, f =>
    if goesOn x S then scanS least S (c + x.t) o f
    else if least ≤ c + x.t then scanS least S (c + x.t) true (if o then f else x.f)
    else if o then ⟨f, x.f⟩ :: scanS least S (c + x.t) false f
    else scanS least S (c + x.t) false f

theorem scan_spec (least : Int) (S : List Rn) : ∀ (c : Int) (o : Bool) (f : Int), RisS S → c + sumS S < least → (S = [] → o = false) → (o = true → ∀ s ∈ S, f < s.f) →
    (∀ a, (∀ s ∈ S, a < s.f) → (o = true → a < f) → Canon a (scanS least S c o f)) ∧
    (∀ z, (∀ s ∈ S, z < s.f) → (inR (scanS least S c o f) z ↔ o = true ∧ f ≤ z)) ∧
    (∀ z s0 R, S = s0 :: R → s0.f ≤ z → (inR (scanS least S c o f) z ↔ least ≤ c + cntS S z)) := by
  induction S with
  | nil =>
    intro c o f _ _ ho _
    refine ⟨fun _ _ _ => trivial, fun z _ => ?_, fun z s0 R h => by cases h⟩
    rw [ho rfl]
    simp [scanS, inR_nil]
  | cons x S ih =>
    intro c o f hr hs _ hf
    have hr' : RisS S := (List.pairwise_cons.1 hr).2
    have hx : ∀ s ∈ S, x.f ≤ s.f := (List.pairwise_cons.1 hr).1
    have hs' : c + x.t + sumS S < least := by simp only [sumS] at hs; omega
    by_cases hg : goesOn x S = true
    · cases S with
      | nil => simp [goesOn] at hg
      | cons y R =>
        have hy : y.f = x.f := by simpa [goesOn] using hg
        have e : scanS least (x :: y :: R) c o f = scanS least (y :: R) (c + x.t) o f := by rw [scanS, if_pos hg]
        obtain ⟨i1, i2, i3⟩ := ih (c + x.t) o f hr' hs' (by simp) fun h s hq => hf h s (by simp [List.mem_cons] at hq ⊢; exact .inr hq)
        rw [e]
        refine ⟨fun a ha hb => i1 a (fun s hq => ha s (List.mem_cons_of_mem _ hq)) hb, fun z hz => i2 z fun s hq => hz s (List.mem_cons_of_mem _ hq), fun z s0 R' hS hz => ?_⟩
        have h0 : s0 = x := by injection hS with h1 _; exact h1.symm
        subst h0
        rw [i3 z y R rfl (by omega)]
        rw [show cntS (s0 :: y :: R) z = s0.t + cntS (y :: R) z by rw [cntS, if_pos hz]]
        rw [Int.add_assoc]
    · have hlt : ∀ s ∈ S, x.f < s.f := by
        cases S with
        | nil => simp
        | cons y R =>
          have hne : y.f ≠ x.f := by simpa [goesOn] using hg
          have h1 := hx y (by simp)
          intro s hq
          rcases List.mem_cons.1 hq with rfl | hq
          · omega
          · have := (List.pairwise_cons.1 hr').1 s hq
            omega
      have hcut : ∀ z, ¬ (∀ s ∈ S, z < s.f) → ∃ s0 R, S = s0 :: R ∧ s0.f ≤ z := by
        intro z hz
        cases S with
        | nil => exact absurd (by simp) hz
        | cons y R =>
          refine ⟨y, R, rfl, ?_⟩
          rcases Int.lt_or_le z y.f with h | h
          · exact absurd (fun s hq => by
              rcases List.mem_cons.1 hq with rfl | hq
              · exact h
              · have := (List.pairwise_cons.1 hr').1 s hq
                omega) hz
          · exact h
      by_cases hl : least ≤ c + x.t
      · have e : scanS least (x :: S) c o f = scanS least S (c + x.t) true (if o then f else x.f) := by rw [scanS, if_neg hg, if_pos hl]
        have hne : S = [] → True = False := by
          rintro rfl
          simp only [sumS] at hs'
          omega
        have hfx : o = true → f < x.f := fun h => hf h x (by simp)
        obtain ⟨i1, i2, i3⟩ := ih (c + x.t) true (if o then f else x.f) hr' hs' (fun h => by have := hne h; simp at this) (fun _ s hq => by
          have h1 := hlt s hq
          cases o with
          | false => exact h1
          | true => have := hfx rfl; simp only [if_true]; omega)
        rw [e]
        refine ⟨fun a ha hb => i1 a (fun s hq => ha s (by simp [hq])) (fun _ => ?_), fun z hz => ?_, fun z s0 R' hS hz => ?_⟩
        · cases o with
          | false => exact ha x (by simp)
          | true => exact hb rfl
        · have hzx := hz x (by simp)
          rw [i2 z fun s hq => by have := hlt s hq; omega]
          cases o with
          | false => simp; omega
          | true => simp
        · injection hS with h1 h2
          subst h1
          rw [show cntS (x :: S) z = x.t + cntS S z by rw [cntS, if_pos hz]]
          by_cases hall : ∀ s ∈ S, z < s.f
          · rw [i2 z hall, cntS_low hall]
            have : (if o = true then f else x.f) ≤ z := by
              cases o with
              | false => simpa using hz
              | true => have := hfx rfl; simp only [if_true]; omega
            simp only [this, and_self, true_iff]
            omega
          · obtain ⟨s1, R1, hS1, hz1⟩ := hcut z hall
            rw [i3 z s1 R1 hS1 hz1, Int.add_assoc]
      · cases o with
        | false =>
          have e : scanS least (x :: S) c false f = scanS least S (c + x.t) false f := by rw [scanS, if_neg hg, if_neg hl]; simp
          obtain ⟨i1, i2, i3⟩ := ih (c + x.t) false f hr' hs' (fun _ => rfl) (fun h => by cases h)
          rw [e]
          refine ⟨fun a ha hb => i1 a (fun s hq => ha s (by simp [hq])) hb, fun z hz => i2 z fun s hq => hz s (by simp [hq]), fun z s0 R' hS hz => ?_⟩
          injection hS with h1 h2
          subst h1
          rw [show cntS (x :: S) z = x.t + cntS S z by rw [cntS, if_pos hz]]
          by_cases hall : ∀ s ∈ S, z < s.f
          · rw [i2 z hall, cntS_low hall]
            simp
            omega
          · obtain ⟨s1, R1, hS1, hz1⟩ := hcut z hall
            rw [i3 z s1 R1 hS1 hz1, Int.add_assoc]
        | true =>
          have e : scanS least (x :: S) c true f = ⟨f, x.f⟩ :: scanS least S (c + x.t) false f := by rw [scanS, if_neg hg, if_neg hl]; simp
          have hfx : f < x.f := hf rfl x (by simp)
          obtain ⟨i1, i2, i3⟩ := ih (c + x.t) false f hr' hs' (fun _ => rfl) (fun h => by cases h)
          rw [e]
          refine ⟨fun a ha hb => ⟨hb rfl, hfx, i1 x.f hlt (fun h => by cases h)⟩, fun z hz => ?_, fun z s0 R' hS hz => ?_⟩
          · have hzx := hz x (by simp)
            rw [inR_cons, i2 z fun s hq => by have := hlt s hq; omega]
            simp [Rn.has]
            omega
          · injection hS with h1 h2
            subst h1
            rw [show cntS (x :: S) z = x.t + cntS S z by rw [cntS, if_pos hz]]
            rw [inR_cons]
            have hno : ¬ Rn.has ⟨f, x.f⟩ z := by rintro ⟨_, h⟩; simp only at h; omega
            by_cases hall : ∀ s ∈ S, z < s.f
            · rw [i2 z hall, cntS_low hall]
              simp [hno]
              omega
            · obtain ⟨s1, R1, hS1, hz1⟩ := hcut z hall
              rw [i3 z s1 R1 hS1 hz1, Int.add_assoc]
              simp [hno]

theorem scan_all {least : Int} {S : List Rn} (hr : RisS S) (hs : sumS S = 0) (hl : 0 < least) :
    (∀ a, (∀ s ∈ S, a < s.f) → Canon a (scanS least S 0 false 0)) ∧ ∀ z, inR (scanS least S 0 false 0) z ↔ least ≤ cntS S z := by
  obtain ⟨h1, h2, h3⟩ := scan_spec least S 0 false 0 hr (by omega) (fun _ => rfl) (fun h => by cases h)
  refine ⟨fun a ha => h1 a ha (fun h => by cases h), fun z => ?_⟩
  by_cases hall : ∀ s ∈ S, z < s.f
  · rw [h2 z hall, cntS_low hall]
    simp
    omega
  · cases S with
    | nil => exact absurd (by simp) hall
    | cons y R =>
      have hy : y.f ≤ z := by
        rcases Int.lt_or_le z y.f with h | h
        · exact absurd (fun s hq => by
            rcases List.mem_cons.1 hq with rfl | hq
            · exact h
            · have := (List.pairwise_cons.1 hr).1 s hq
              omega) hall
        · exact h
      rw [h3 z y R rfl hy, Int.zero_add]

/-- The steps of some runs. -/
def stepsR (d : Int) (L : List Rn) : List Rn := L.flatMap fun r => if r.f < r.t then [⟨r.f, d⟩, ⟨r.t, -d⟩] else []

/-- In how many of some runs a number is. -/
def occR : List Rn → Int → Nat
  | [], _ => 0
  | r :: L, x => (if r.f ≤ x ∧ x < r.t then 1 else 0) + occR L x

theorem stepsR_cons (d : Int) (r : Rn) (L : List Rn) : stepsR d (r :: L) = (if r.f < r.t then [⟨r.f, d⟩, ⟨r.t, -d⟩] else []) ++ stepsR d L := by simp [stepsR]

theorem stepsR_snoc (d : Int) (r : Rn) (L : List Rn) : stepsR d (L ++ [r]) = stepsR d L ++ (if r.f < r.t then [⟨r.f, d⟩, ⟨r.t, -d⟩] else []) := by simp [stepsR]

theorem stepsR_len (d : Int) (L : List Rn) : (stepsR d L).length ≤ 2 * L.length := by
  induction L with
  | nil => simp [stepsR]
  | cons r L ih =>
    rw [stepsR_cons, List.length_append, List.length_cons]
    split <;> simp <;> omega

theorem stepsR_sum (d : Int) (L : List Rn) : sumS (stepsR d L) = 0 := by
  induction L with
  | nil => rfl
  | cons r L ih =>
    rw [stepsR_cons, sumS_append, ih]
    split <;> simp [sumS] <;> omega

theorem stepsR_cnt (d : Int) (L : List Rn) (x : Int) : cntS (stepsR d L) x = d * (occR L x : Int) := by
  induction L with
  | nil => simp [stepsR, cntS, occR]
  | cons r L ih =>
    rw [stepsR_cons, cntS_append, ih, occR]
    have key : cntS (if r.f < r.t then [⟨r.f, d⟩, ⟨r.t, -d⟩] else []) x = if r.f ≤ x ∧ x < r.t then d else 0 := by
      by_cases h : r.f < r.t
      · rw [if_pos h]
        simp only [cntS]
        by_cases h1 : r.f ≤ x
        · by_cases h2 : x < r.t
          · rw [if_pos h1, if_neg (by omega), if_pos ⟨h1, h2⟩]; omega
          · rw [if_pos h1, if_pos (by omega), if_neg (by omega)]; omega
        · rw [if_neg h1, if_neg (by omega), if_neg (by omega)]; omega
      · rw [if_neg h, if_neg (by omega)]; rfl
    rw [key]
    split
    · rw [Int.natCast_add, Int.mul_add]; simp
    · simp

theorem stepsR_small {d : Int} {L : List Rn} {s : Rn} (h : s ∈ stepsR d L) : s.t = d ∨ s.t = -d := by
  simp only [stepsR, List.mem_flatMap] at h
  obtain ⟨r, _, h⟩ := h
  split at h
  · simp only [List.mem_cons, List.not_mem_nil, or_false] at h
    rcases h with rfl | rfl
    · exact .inl rfl
    · exact .inr rfl
  · cases h

theorem occR_pos {L : List Rn} {x : Int} : 1 ≤ occR L x ↔ inR L x := by
  induction L with
  | nil => simp [occR, inR_nil]
  | cons r L ih =>
    rw [occR, inR_cons, ← ih]
    unfold Rn.has
    split <;> omega

theorem Canon.occ {a : Int} {L : List Rn} (h : Canon a L) (x : Int) : occR L x ≤ 1 := by
  induction L generalizing a with
  | nil => simp [occR]
  | cons r L ih =>
    rw [occR]
    have h1 := ih h.2.2
    split
    · have h2 : ¬ inR L x := fun hx => by have := h.2.2.above hx; omega
      rw [← occR_pos] at h2
      omega
    · omega

theorem Canon.occ_iff {a : Int} {L : List Rn} (h : Canon a L) (x : Int) : (occR L x = 1 ∧ inR L x) ∨ (occR L x = 0 ∧ ¬ inR L x) := by
  have h1 := h.occ x
  have h2 := occR_pos (L := L) (x := x)
  by_cases hi : inR L x
  · exact .inl ⟨by have := h2.2 hi; omega, hi⟩
  · refine .inr ⟨?_, hi⟩
    rcases Nat.eq_zero_or_pos (occR L x) with h | h
    · exact h
    · exact absurd (h2.1 h) hi

/-- How often a number is in some lists of runs, together. -/
def occAll : List (List Rn) → Int → Nat
  | [], _ => 0
  | L :: M, x => occR L x + occAll M x

/-- All steps of some lists of runs. -/
def stepsAll (d : Int) (M : List (List Rn)) : List Rn := M.flatMap (stepsR d)

theorem stepsAll_cons (d : Int) (L : List Rn) (M : List (List Rn)) : stepsAll d (L :: M) = stepsR d L ++ stepsAll d M := by simp [stepsAll]

theorem stepsAll_snoc (d : Int) (L : List Rn) (M : List (List Rn)) : stepsAll d (M ++ [L]) = stepsAll d M ++ stepsR d L := by simp [stepsAll]

theorem stepsAll_sum (d : Int) (M : List (List Rn)) : sumS (stepsAll d M) = 0 := by
  induction M with
  | nil => rfl
  | cons L M ih => rw [stepsAll_cons, sumS_append, ih, stepsR_sum]; rfl

theorem stepsAll_cnt (d : Int) (M : List (List Rn)) (x : Int) : cntS (stepsAll d M) x = d * (occAll M x : Int) := by
  induction M with
  | nil => simp [stepsAll, cntS, occAll]
  | cons L M ih => rw [stepsAll_cons, cntS_append, ih, stepsR_cnt, occAll, Int.natCast_add, Int.mul_add]

theorem occAll_pos {M : List (List Rn)} {x : Int} : 1 ≤ occAll M x ↔ ∃ L ∈ M, inR L x := by
  induction M with
  | nil => simp [occAll]
  | cons L M ih =>
    rw [occAll]
    have h1 := occR_pos (L := L) (x := x)
    constructor
    · intro h
      by_cases hL : 1 ≤ occR L x
      · exact ⟨L, by simp, h1.1 hL⟩
      · obtain ⟨K, hK, hx⟩ := ih.1 (by omega)
        exact ⟨K, by simp [hK], hx⟩
    · rintro ⟨K, hK, hx⟩
      rcases List.mem_cons.1 hK with rfl | hK
      · have := h1.2 hx; omega
      · have := ih.2 ⟨K, hK, hx⟩; omega

theorem occAll_full {M : List (List Rn)} (hM : ∀ L ∈ M, ∃ a, Canon a L) (x : Int) : occAll M x ≤ M.length ∧ (M.length ≤ occAll M x ↔ ∀ L ∈ M, inR L x) := by
  induction M with
  | nil => simp [occAll]
  | cons L M ih =>
    obtain ⟨i1, i2⟩ := ih fun K hK => hM K (by simp [hK])
    obtain ⟨a, ha⟩ := hM L (by simp)
    rw [occAll, List.length_cons]
    rcases ha.occ_iff x with ⟨h1, h2⟩ | ⟨h1, h2⟩
    · refine ⟨by omega, ?_⟩
      rw [h1]
      constructor
      · intro h K hK
        rcases List.mem_cons.1 hK with rfl | hK
        · exact h2
        · exact i2.1 (by omega) K hK
      · intro h
        have := i2.2 fun K hK => h K (by simp [hK])
        omega
    · refine ⟨by omega, ?_⟩
      rw [h1]
      constructor
      · intro h
        omega
      · intro h
        exact absurd (h L (by simp)) h2

end Go.Proofs.Ytfmaapojlbheaaa
