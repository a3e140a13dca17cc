/- The checksum of bytes, bit by bit, and that bytes of which at most 32 bits in a row are others have another one. No condition. -/
import Derived.Test.YtkfnjekeegebaaaCheckMath
namespace Go.Proofs.Ytkfnjekeegebaaa

/-- The bits of bytes, in the order in which they are taken in. -/
def bitsOf (b : List Nat) : List Bool := b.flatMap (nBits 8)
/-- The state behind bytes. -/
def cState (n : Nat) (b : List Nat) : Nat := cBits n (bitsOf b)
/-- The checksum. -/
def cSum (b : List Nat) : Nat := 4294967295 - cState 4294967295 b

theorem nBits_length (k D : Nat) : (nBits k D).length = k := by simp [nBits]
theorem bitsOf_length (b : List Nat) : (bitsOf b).length = 8 * b.length := by
  induction b with
  | nil => rfl
  | cons c r ih =>
    have : bitsOf (c :: r) = nBits 8 c ++ bitsOf r := rfl
    rw [this, List.length_append, ih, nBits_length, List.length_cons]; omega

theorem bitsOf_append (a b : List Nat) : bitsOf (a ++ b) = bitsOf a ++ bitsOf b := by simp [bitsOf]
theorem cState_append (n : Nat) (a b : List Nat) : cState n (a ++ b) = cState (cState n a) b := by
  unfold cState; rw [bitsOf_append, cBits_append]

theorem cBits_lt : ∀ (l : List Bool) (n : Nat), n < 4294967296 → cBits n l < 4294967296
  | [], _, h => h
  | d :: l, n, h => by
    have : cBit n d < 4294967296 := by
      unfold cBit
      refine cStep_lt ?_
      refine Nat.xor_lt_two_pow (n := 32) h ?_
      cases d <;> simp
    exact cBits_lt l _ this

theorem cState_lt {n : Nat} (h : n < 4294967296) (b : List Nat) : cState n b < 4294967296 := cBits_lt _ _ h
theorem cSum_lt (b : List Nat) : cSum b < 4294967296 := by unfold cSum; omega

/-- Bit j of bytes. -/
def bitAt (b : List Nat) (j : Nat) : Bool := (b.getD (j / 8) 0).testBit (j % 8)

theorem bitsOf_get : ∀ (b : List Nat) (j : Nat) (h : j < (bitsOf b).length), (bitsOf b)[j] = bitAt b j
  | [], j, h => by simp [bitsOf] at h
  | c :: r, j, h => by
    have e : bitsOf (c :: r) = nBits 8 c ++ bitsOf r := rfl
    have hl := bitsOf_length (c :: r)
    simp only [e]
    by_cases h8 : j < 8
    · rw [List.getElem_append_left (by rw [nBits_length]; exact h8)]
      have h1 : j / 8 = 0 := by omega
      have h2 : j % 8 = j := by omega
      simp [bitAt, h1, h2, nBits]
    · have hj : j - 8 < (bitsOf r).length := by
        have := bitsOf_length r
        rw [List.length_cons] at hl
        omega
      rw [List.getElem_append_right (by rw [nBits_length]; omega)]
      have ih := bitsOf_get r (j - 8) hj
      have h1 : j / 8 = (j - 8) / 8 + 1 := by omega
      have h2 : j % 8 = (j - 8) % 8 := by omega
      have e2 : bitAt (c :: r) j = bitAt r (j - 8) := by simp only [bitAt, h1, h2, List.getD_cons_succ]
      rw [e2, ← ih]
      congr 1

/-- Is bit j one of those that are turned? -/
def turned (i D k j : Nat) : Bool := decide (i ≤ j) && decide (j < i + k) && D.testBit (j - i)

/-- Two rows of bytes whose bits differ within 32 in a row. -/
theorem cSum_differ {b c : List Nat} {i D : Nat} (hl : c.length = b.length) (hi : i + 32 ≤ 8 * b.length) (hD : D < 4294967296) (h0 : D ≠ 0) (hb : ∀ j, j < 8 * b.length → bitAt c j = (bitAt b j ^^ turned i D 32 j)) : cSum b ≠ cSum c := by
  have hlen : (bitsOf b).length = (bitsOf c).length := by rw [bitsOf_length, bitsOf_length, hl]
  have hz : List.zipWith (· ^^ ·) (bitsOf b) (bitsOf c) = List.replicate i false ++ nBits 32 D ++ List.replicate (8 * b.length - i - 32) false := by
    apply List.ext_getElem
    · rw [List.length_zipWith, ← hlen, Nat.min_self, bitsOf_length]
      simp [nBits_length]; omega
    · intro j h1 h2
      have hj : j < 8 * b.length := by
        rw [List.length_zipWith, ← hlen, Nat.min_self, bitsOf_length] at h1; exact h1
      rw [List.getElem_zipWith, bitsOf_get, bitsOf_get, hb j hj]
      have hx : (bitAt b j ^^ (bitAt b j ^^ turned i D 32 j)) = turned i D 32 j := by cases bitAt b j <;> simp
      rw [hx]
      by_cases hlt : j < i
      · rw [List.getElem_append_left (by simp [nBits_length]; omega), List.getElem_append_left (by simpa using hlt)]
        simp [turned]; omega
      · by_cases hlt2 : j < i + 32
        · rw [List.getElem_append_left (by simp [nBits_length]; omega), List.getElem_append_right (by simp; omega)]
          simp [turned, nBits]; omega
        · rw [List.getElem_append_right (by simp [nBits_length]; omega)]
          simp [turned]; omega
  intro he
  have hs : cState 4294967295 b = cState 4294967295 c := by
    have h1 := cState_lt (n := 4294967295) (by omega) b
    have h2 := cState_lt (n := 4294967295) (by omega) c
    unfold cSum at he
    omega
  exact cBits_differ hlen hz hD h0 hs

/-- The bytes, the first k of those bits turned. -/
def flipTo (b : List Nat) (i D : Nat) : Nat → List Nat
  | 0 => b
  | k + 1 => if D.testBit k = true then (flipTo b i D k).set ((i + k) / 8) ((flipTo b i D k).getD ((i + k) / 8) 0 ^^^ 2 ^ ((i + k) % 8)) else flipTo b i D k

theorem flipTo_length (b : List Nat) (i D k : Nat) : (flipTo b i D k).length = b.length := by
  induction k with
  | zero => rfl
  | succ k ih =>
    unfold flipTo
    split
    · rw [List.length_set]; exact ih
    · exact ih

theorem bitAt_set {l : List Nat} {p q : Nat} (hp : p < 8 * l.length) :
    bitAt (l.set (p / 8) (l.getD (p / 8) 0 ^^^ 2 ^ (p % 8))) q = (bitAt l q ^^ decide (q = p)) := by
  unfold bitAt
  by_cases h8 : q / 8 = p / 8
  · have hlt : p / 8 < l.length := by omega
    rw [h8]
    have e : (l.set (p / 8) (l.getD (p / 8) 0 ^^^ 2 ^ (p % 8))).getD (p / 8) 0 = l.getD (p / 8) 0 ^^^ 2 ^ (p % 8) := by simp [List.getD, hlt]
    rw [e, Nat.testBit_xor, Nat.testBit_two_pow]
    congr 1
    by_cases hm : p % 8 = q % 8
    · have : q = p := by omega
      simp [this]
    · have : ¬ q = p := by rintro rfl; exact hm rfl
      simp [this, hm]
  · have e : (l.set (p / 8) (l.getD (p / 8) 0 ^^^ 2 ^ (p % 8))).getD (q / 8) 0 = l.getD (q / 8) 0 := by
      simp [List.getD, List.getElem?_set_ne (fun h => h8 h.symm)]
    rw [e]
    have : ¬ q = p := by rintro rfl; exact h8 rfl
    simp [this]

theorem bitAt_flipTo (b : List Nat) (i D k : Nat) (hi : i + k ≤ 8 * b.length) : ∀ j, j < 8 * b.length → bitAt (flipTo b i D k) j = (bitAt b j ^^ turned i D k j) := by
  induction k with
  | zero =>
    intro j _
    have : turned i D 0 j = false := by simp [turned]; omega
    rw [this]; simp [flipTo]
  | succ k ih =>
    intro j hj
    have ih' := ih (by omega) j hj
    have hl := flipTo_length b i D k
    unfold flipTo
    by_cases hd : D.testBit k = true
    · rw [if_pos hd, bitAt_set (by rw [hl]; omega), ih', Bool.xor_assoc]
      congr 1
      by_cases hjk : j = i + k
      · subst hjk
        have e : i + k - i = k := by omega
        simp [turned, e, hd]
      · have : (j < i + (k + 1)) = (j < i + k) := by
          apply propext; constructor <;> intro h <;> omega
        simp [turned, this, hjk]
    · rw [if_neg hd, ih']
      congr 1
      by_cases hjk : j = i + k
      · subst hjk
        have e : i + k - i = k := by omega
        have hd' : D.testBit k = false := by simpa using hd
        simp [turned, e, hd']
      · have : (j < i + (k + 1)) = (j < i + k) := by
          apply propext; constructor <;> intro h <;> omega
        simp [turned, this]

theorem flipTo_byte {b : List Nat} (hb : ∀ x ∈ b, x < 256) (i D k : Nat) : ∀ x ∈ flipTo b i D k, x < 256 := by
  induction k with
  | zero => exact hb
  | succ k ih =>
    unfold flipTo
    split
    · intro x hx
      rcases List.mem_or_eq_of_mem_set hx with hx | rfl
      · exact ih x hx
      · have h1 : (flipTo b i D k).getD ((i + k) / 8) 0 < 256 := by
          by_cases hlt : (i + k) / 8 < (flipTo b i D k).length
          · have e : (flipTo b i D k).getD ((i + k) / 8) 0 = (flipTo b i D k)[(i + k) / 8] := by simp [List.getD, hlt]
            rw [e]; exact ih _ (List.getElem_mem hlt)
          · simp [List.getD, Nat.le_of_not_lt hlt]
        exact Nat.xor_lt_two_pow (n := 8) h1 (Nat.pow_lt_pow_right (by omega) (by omega))
    · exact ih

/-- What the statement needs. -/
theorem cSum_flip (b : List Nat) (i D : Nat) (hi : i + 32 ≤ 8 * b.length) (hD : D < 4294967296) (h0 : D ≠ 0) : cSum b ≠ cSum (flipTo b i D 32) :=
  cSum_differ (flipTo_length b i D 32) hi hD h0 (bitAt_flipTo b i D 32 hi)
#print axioms cSum_flip
end Go.Proofs.Ytkfnjekeegebaaa
