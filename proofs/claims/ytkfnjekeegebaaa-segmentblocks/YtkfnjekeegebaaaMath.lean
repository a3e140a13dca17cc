/- The plain mathematics of varints, over lists of naturals: a number's row of bytes, what a row of bytes begins with, and that the two undo each other. No condition. -/
namespace Go.Proofs.Ytkfnjekeegebaaa

/-- A number's bytes. -/
def vEnc (n : Nat) : List Nat := if n < 128 then [n] else (n % 128 + 128) :: vEnc (n / 128)
termination_by n
decreasing_by omega

theorem vEnc_small {n : Nat} (h : n < 128) : vEnc n = [n] := by rw [vEnc, if_pos h]
theorem vEnc_large {n : Nat} (h : ¬ n < 128) : vEnc n = (n % 128 + 128) :: vEnc (n / 128) := by rw [vEnc, if_neg h]

/-- The value of digits, the least one first. -/
def vVal : List Nat → Nat
  | [] => 0
  | c :: r => c % 128 + 128 * vVal r

/-- May the byte c not stand at place i? -/
def vBad (i c : Nat) : Bool := (i == 9 && decide (1 < c)) || (decide (0 < i) && c == 0)

/-- From place i on: how many bytes the number has, and the error. -/
def vScan : List Nat → Nat → Nat × Nat
  | [], _ => (0, 2)
  | c :: r, i => if vBad i c = true then (0, 3) else if c < 128 then (i + 1, 0) else vScan r (i + 1)

def vLen (l : List Nat) : Nat := (vScan l 0).1
def vErr (l : List Nat) : Nat := (vScan l 0).2
/-- The number with which bytes begin; 0 where there is none. -/
def vNum (l : List Nat) : Nat := vVal (l.take (vLen l))

theorem vVal_append (a b : List Nat) : vVal (a ++ b) = vVal a + 128 ^ a.length * vVal b := by
  induction a with
  | nil => simp [vVal]
  | cons c r ih =>
    simp only [List.cons_append, vVal, ih, List.length_cons, Nat.pow_succ, Nat.mul_add]
    rw [Nat.mul_assoc (128 ^ r.length), Nat.mul_left_comm, Nat.add_assoc]

theorem vVal_snoc (a : List Nat) (c : Nat) : vVal (a ++ [c]) = vVal a + 128 ^ a.length * (c % 128) := by
  rw [vVal_append]; simp [vVal]

theorem vVal_lt (a : List Nat) : vVal a < 128 ^ a.length := by
  induction a with
  | nil => simp [vVal]
  | cons c r ih =>
    simp only [vVal, List.length_cons, Nat.pow_succ]
    have := Nat.mod_lt c (show 0 < 128 by omega)
    omega

theorem vVal_drop_le (a : List Nat) (k : Nat) : vVal (a.drop k) ≤ vVal a := by
  induction a generalizing k with
  | nil => simp
  | cons c r ih =>
    cases k with
    | zero => simp
    | succ k =>
      simp only [List.drop_succ_cons, vVal]
      have := ih k
      omega

/-- What a step of the scan says. -/
theorem vScan_bad {c i : Nat} {r : List Nat} (h : vBad i c = true) : vScan (c :: r) i = (0, 3) := by simp [vScan, h]
theorem vScan_last {c i : Nat} {r : List Nat} (h : vBad i c = false) (hc : c < 128) : vScan (c :: r) i = (i + 1, 0) := by simp [vScan, h, hc]
theorem vScan_more {c i : Nat} {r : List Nat} (h : vBad i c = false) (hc : ¬ c < 128) : vScan (c :: r) i = vScan r (i + 1) := by simp [vScan, h, hc]

theorem vBad_nine {c : Nat} (h : vBad 9 c = false) : c = 1 := by
  simp [vBad] at h; omega

/-- A scan that goes well: what it passed. -/
theorem vScan_ok (l : List Nat) (i : Nat) (hi : i ≤ 9) (h : (vScan l i).2 = 0) :
    ∃ k, k < l.length ∧ (vScan l i).1 = i + k + 1 ∧ i + k ≤ 9 ∧ (∀ j, j < k → 128 ≤ l.getD j 0) ∧ l.getD k 0 < 128 ∧ vBad (i + k) (l.getD k 0) = false := by
  induction l generalizing i with
  | nil => simp [vScan] at h
  | cons c r ih =>
    by_cases hb : vBad i c = true
    · rw [vScan_bad hb] at h; simp at h
    · have hb' : vBad i c = false := by simpa using hb
      by_cases hc : c < 128
      · refine ⟨0, by simp, by rw [vScan_last hb' hc], by omega, by omega, by simpa using hc, by simpa using hb'⟩
      · have h9 : i ≠ 9 := by
          rintro rfl
          have := vBad_nine hb'
          omega
        rw [vScan_more hb' hc] at h ⊢
        obtain ⟨k, h1, h2, h3, h4, h5, h6⟩ := ih (i + 1) (by omega) h
        refine ⟨k + 1, by simpa using h1, by omega, by omega, ?_, by simpa using h5, ?_⟩
        · intro j hj
          cases j with
          | zero => simp; omega
          | succ j => simpa using h4 j (by omega)
        · have : i + (k + 1) = i + 1 + k := by omega
          rw [this]; simpa using h6

theorem vScan_err (l : List Nat) (i : Nat) (h : (vScan l i).2 ≠ 0) : (vScan l i).1 = 0 := by
  induction l generalizing i with
  | nil => simp [vScan]
  | cons c r ih =>
    by_cases hb : vBad i c = true
    · rw [vScan_bad hb]
    · have hb' : vBad i c = false := by simpa using hb
      by_cases hc : c < 128
      · rw [vScan_last hb' hc] at h; simp at h
      · rw [vScan_more hb' hc] at h ⊢; exact ih _ h

theorem vErr_cases (l : List Nat) (i : Nat) : (vScan l i).2 = 0 ∨ (vScan l i).2 = 2 ∨ (vScan l i).2 = 3 := by
  induction l generalizing i with
  | nil => simp [vScan]
  | cons c r ih =>
    by_cases hb : vBad i c = true
    · rw [vScan_bad hb]; simp
    · have hb' : vBad i c = false := by simpa using hb
      by_cases hc : c < 128
      · rw [vScan_last hb' hc]; simp
      · rw [vScan_more hb' hc]; exact ih _

theorem vNum_err {l : List Nat} (h : vErr l ≠ 0) : vLen l = 0 ∧ vNum l = 0 := by
  have := vScan_err l 0 h
  refine ⟨this, ?_⟩
  unfold vNum vLen
  rw [this]; simp [vVal]

/-- Digits all of which but the last have 128 added, the last one not 0 unless it is the only one: they are a number's own bytes. -/
theorem vEnc_of (k : Nat) : ∀ (l : List Nat), k < l.length → (∀ j, j < l.length → l.getD j 0 < 256) → (∀ j, j < k → 128 ≤ l.getD j 0) → l.getD k 0 < 128 → (0 < k → 0 < l.getD k 0) → vEnc (vVal (l.take (k + 1))) = l.take (k + 1) := by
  induction k with
  | zero =>
    intro l hl _ _ h2 _
    match l, hl with
    | c :: r, _ =>
      simp only [List.getD_cons_zero] at h2
      simp only [List.take_succ_cons, List.take_zero, vVal]
      rw [vEnc_small (by omega)]
      congr 1; omega
  | succ k ih =>
    intro l hl hb h1 h2 h3
    match l, hl with
    | c :: r, hl =>
      have hc := h1 0 (by omega)
      have hc2 := hb 0 (by simp)
      simp only [List.getD_cons_zero] at hc hc2
      have hr := ih r (by simpa using hl) (fun j hj => by have := hb (j + 1) (by simpa using hj); simpa using this) (fun j hj => by have := h1 (j + 1) (by omega); simpa using this)
        (by simpa using h2) (fun _ => by have := h3 (by omega); simpa using this)
      have hpos : 0 < vVal (r.take (k + 1)) := by
        have hk : k < r.length := by simpa using hl
        rw [List.take_succ_eq_append_getElem hk, vVal_snoc]
        have e : r.getD k 0 = r[k] := by simp [List.getD, hk]
        have h3' := h3 (by omega)
        have h2' := h2
        simp only [List.getD_cons_succ] at h3' h2'
        rw [e] at h3' h2'
        have : 0 < 128 ^ (r.take k).length * (r[k] % 128) := Nat.mul_pos (Nat.pow_pos (by omega)) (by omega)
        omega
      simp only [List.take_succ_cons, vVal]
      rw [vEnc_large (by omega)]
      have e1 : (c % 128 + 128 * vVal (r.take (k + 1))) % 128 + 128 = c := by omega
      have e2 : (c % 128 + 128 * vVal (r.take (k + 1))) / 128 = vVal (r.take (k + 1)) := by omega
      rw [e1, e2, hr]

/-- A number that is read is put as it was. -/
theorem vOne {l : List Nat} (hb : ∀ x ∈ l, x < 256) (h : vErr l = 0) : vEnc (vNum l) = l.take (vLen l) ∧ 0 < vLen l ∧ vLen l ≤ 10 ∧ vLen l ≤ l.length ∧ vNum l < 18446744073709551616 := by
  obtain ⟨k, h1, h2, h3, h4, h5, h6⟩ := vScan_ok l 0 (by omega) h
  have hl : vLen l = k + 1 := by show (vScan l 0).1 = k + 1; omega
  have hz : 0 + k = k := by omega
  rw [hz] at h6 h3
  refine ⟨?_, by omega, by omega, by omega, ?_⟩
  · unfold vNum
    rw [hl]
    refine vEnc_of k l h1 (fun j hj => hb _ (by simp [List.getD, hj])) h4 h5 fun hk => ?_
    rcases Nat.eq_zero_or_pos (l.getD k 0) with h0 | h0
    · rw [h0] at h6; simp [vBad, hk] at h6
    · exact h0
  · unfold vNum
    rw [hl, List.take_succ_eq_append_getElem h1, vVal_snoc]
    have hv := vVal_lt (l.take k)
    have hlen : (l.take k).length = k := by simp; omega
    rw [hlen] at hv ⊢
    have e : l.getD k 0 = l[k] := by simp [List.getD, h1]
    rw [e] at h5 h6
    by_cases h9 : k = 9
    · subst h9
      have := vBad_nine h6
      rw [this]
      omega
    · have : 128 ^ k ≤ 128 ^ 8 := Nat.pow_le_pow_right (by omega) (by omega)
      have h7 : l[k] % 128 ≤ 127 := by omega
      have := Nat.mul_le_mul (Nat.le_refl (128 ^ k)) h7
      omega

/-! ### What is put is read -/
theorem vEnc_pos (n : Nat) : 0 < (vEnc n).length := by
  by_cases h : n < 128
  · rw [vEnc_small h]; simp
  · rw [vEnc_large h]; simp

theorem vEnc_byte (n : Nat) : ∀ x ∈ vEnc n, x < 256 := by
  induction n using Nat.strongRecOn with
  | _ n ih =>
    by_cases h : n < 128
    · rw [vEnc_small h]; simp; omega
    · rw [vEnc_large h]
      intro x hx
      simp only [List.mem_cons] at hx
      rcases hx with rfl | hx
      · omega
      · exact ih (n / 128) (by omega) x hx

theorem vEnc_len (m : Nat) : ∀ n, n < 128 ^ (m + 1) → (vEnc n).length ≤ m + 1 := by
  induction m with
  | zero => intro n h; rw [vEnc_small (by omega)]; simp
  | succ m ih =>
    intro n h
    by_cases h1 : n < 128
    · rw [vEnc_small h1]; simp
    · rw [vEnc_large h1]
      have := ih (n / 128) (by rw [Nat.pow_succ] at h; omega)
      simp; omega

theorem vEnc_len10 {n : Nat} (h : n < 18446744073709551616) : (vEnc n).length ≤ 10 := vEnc_len 9 n (by omega)

/-- The scan of a number's own bytes, from place i on. -/
theorem vScan_vEnc (m : Nat) : ∀ (n i : Nat) (r : List Nat), i + m = 9 → n < 128 ^ m * 2 → (0 < i → 0 < n) → vScan (vEnc n ++ r) i = (i + (vEnc n).length, 0) ∧ vVal (vEnc n) = n := by
  induction m with
  | zero =>
    intro n i r hi hn hp
    have h1 : n < 2 := by omega
    rw [vEnc_small (by omega)]
    have h0 := hp (by omega)
    refine ⟨?_, by simp [vVal]; omega⟩
    have : n = 1 := by omega
    subst this
    have : i = 9 := by omega
    subst this
    rfl
  | succ m ih =>
    intro n i r hi hn hp
    by_cases h1 : n < 128
    · rw [vEnc_small h1]
      refine ⟨?_, by simp [vVal]; omega⟩
      simp only [List.cons_append, List.nil_append, List.length_cons, List.length_nil]
      refine vScan_last ?_ h1
      have : i ≠ 9 := by omega
      simp only [vBad, Bool.or_eq_false_iff, Bool.and_eq_false_iff]
      refine ⟨.inl (by simpa using this), ?_⟩
      rcases Nat.eq_zero_or_pos i with h | h
      · left; simp [h]
      · right; have := hp h; simp; omega
    · rw [vEnc_large h1]
      obtain ⟨e1, e2⟩ := ih (n / 128) (i + 1) r (by omega) (by rw [Nat.pow_succ] at hn; omega) (fun _ => by omega)
      constructor
      · simp only [List.cons_append, List.length_cons]
        rw [vScan_more (by simp [vBad]; omega) (by omega), e1]
        congr 1; omega
      · simp only [vVal, e2]; omega

theorem vRead {n : Nat} (r : List Nat) (hn : n < 18446744073709551616) : vErr (vEnc n ++ r) = 0 ∧ vLen (vEnc n ++ r) = (vEnc n).length ∧ vNum (vEnc n ++ r) = n := by
  obtain ⟨e1, e2⟩ := vScan_vEnc 9 n 0 r (by omega) (by omega) (by omega)
  refine ⟨by unfold vErr; rw [e1], by unfold vLen; rw [e1]; simp, ?_⟩
  unfold vNum vLen
  rw [e1]
  simp [e2]

#print axioms vOne
#print axioms vRead
end Go.Proofs.Ytkfnjekeegebaaa
