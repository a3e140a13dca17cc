
/- The plain mathematics of a 32-bit checksum, over naturals and lists of bits: a step is linear and one-to-one, so that rows of bits that differ within 32 of them have different sums. No condition. -/
namespace Go.Proofs.Ytcmbnijjkpfhlaa

/-- One step without a bit: shifted, and the polynomial where the bit that fell out was 1. -/
def cStep (x : Nat) : Nat := if x % 2 = 1 then x / 2 ^^^ 3945912366 else x / 2
/-- A bit is taken in. -/
def cBit (n : Nat) (d : Bool) : Nat := cStep (n ^^^ d.toNat)
def cBits (n : Nat) (l : List Bool) : Nat := l.foldl cBit n

theorem xor_mod2 (x y : Nat) : (x ^^^ y) % 2 = (x % 2 + y % 2) % 2 := by
  have h : decide ((x ^^^ y) % 2 = 1) = (decide (x % 2 = 1) ^^ decide (y % 2 = 1)) := by
    have h0 := Nat.testBit_xor (x := x) (y := y) (i := 0)
    rw [Nat.testBit_zero, Nat.testBit_zero, Nat.testBit_zero] at h0
    exact h0
  have hx : x % 2 = 0 ∨ x % 2 = 1 := by omega
  have hy : y % 2 = 0 ∨ y % 2 = 1 := by omega
  rcases hx with hx | hx <;> rcases hy with hy | hy <;> rw [hx, hy] at h ⊢
  · have := of_decide_eq_false h; omega
  · have := of_decide_eq_true h; omega
  · have := of_decide_eq_true h; omega
  · have := of_decide_eq_false h; omega

theorem xor_div2 (x y : Nat) : (x ^^^ y) / 2 = x / 2 ^^^ y / 2 := by
  apply Nat.eq_of_testBit_eq
  intro i
  simp [Nat.testBit_div_two, Nat.testBit_xor]

theorem cStep_xor (x y : Nat) : cStep (x ^^^ y) = cStep x ^^^ cStep y := by
  have hm := xor_mod2 x y
  have hd := xor_div2 x y
  have hx : x % 2 = 0 ∨ x % 2 = 1 := by omega
  have hy : y % 2 = 0 ∨ y % 2 = 1 := by omega
  unfold cStep
  rw [hd]
  rcases hx with hx | hx <;> rcases hy with hy | hy <;> rw [hx, hy] at hm
  · rw [if_neg (by omega), if_neg (by omega), if_neg (by omega)]
  · rw [if_pos (by omega), if_neg (by omega), if_pos hy, Nat.xor_assoc]
  · rw [if_pos (by omega), if_pos hx, if_neg (by omega), Nat.xor_assoc, Nat.xor_assoc, Nat.xor_comm (y / 2)]
  · rw [if_neg (by omega), if_pos hx, if_pos hy]
    apply Nat.eq_of_testBit_eq
    intro i
    simp only [Nat.testBit_xor]
    cases (x / 2).testBit i <;> cases (y / 2).testBit i <;> cases Nat.testBit 3945912366 i <;> rfl

theorem cStep_lt {x : Nat} (h : x < 4294967296) : cStep x < 4294967296 := by
  unfold cStep
  split
  · exact Nat.xor_lt_two_pow (n := 32) (by omega) (by omega)
  · omega

theorem cStep_zero {x : Nat} (h : x < 4294967296) (hz : cStep x = 0) : x = 0 := by
  unfold cStep at hz
  split at hz
  · have h1 : x / 2 = 3945912366 := by
      have h2 : x / 2 ^^^ 3945912366 ^^^ 3945912366 = 0 ^^^ 3945912366 := by rw [hz]
      rw [Nat.xor_assoc, Nat.xor_self, Nat.xor_zero, Nat.zero_xor] at h2
      exact h2
    omega
  · omega

def cSteps : Nat → Nat → Nat
  | 0, x => x
  | k + 1, x => cSteps k (cStep x)

theorem cSteps_lt (k : Nat) : ∀ {x : Nat}, x < 4294967296 → cSteps k x < 4294967296 := by
  induction k with
  | zero => intro x h; exact h
  | succ k ih => intro x h; exact ih (cStep_lt h)

theorem cSteps_zero (k : Nat) : ∀ {x : Nat}, x < 4294967296 → cSteps k x = 0 → x = 0 := by
  induction k with
  | zero => intro x _ h; exact h
  | succ k ih => intro x h hz; exact cStep_zero h (ih (cStep_lt h) hz)

theorem cBit_xor (n m : Nat) (d e : Bool) : cBit (n ^^^ m) (d ^^ e) = cBit n d ^^^ cBit m e := by
  unfold cBit
  rw [← cStep_xor]
  congr 1
  have h : (d ^^ e).toNat = d.toNat ^^^ e.toNat := by cases d <;> cases e <;> rfl
  rw [h]
  apply Nat.eq_of_testBit_eq
  intro i
  simp only [Nat.testBit_xor]
  cases n.testBit i <;> cases m.testBit i <;> cases Nat.testBit d.toNat i <;> cases Nat.testBit e.toNat i <;> rfl

theorem cBits_xor : ∀ (l k : List Bool) (n m : Nat), l.length = k.length → cBits n l ^^^ cBits m k = cBits (n ^^^ m) (List.zipWith (· ^^ ·) l k)
  | [], [], _, _, _ => rfl
  | d :: l, e :: k, n, m, h => by
    simp only [cBits, List.foldl_cons, List.zipWith_cons_cons]
    rw [cBit_xor]
    exact cBits_xor l k _ _ (by simpa using h)
  | [], _ :: _, _, _, h => by simp at h
  | _ :: _, [], _, _, h => by simp at h

theorem cBits_append (n : Nat) (l k : List Bool) : cBits n (l ++ k) = cBits (cBits n l) k := by simp [cBits]

theorem cBits_falses (k : Nat) : ∀ n, cBits n (List.replicate k false) = cSteps k n := by
  induction k with
  | zero => intro n; rfl
  | succ k ih =>
    intro n
    simp only [List.replicate_succ, cBits, List.foldl_cons, cSteps]
    have : cBit n false = cStep n := by simp [cBit]
    rw [this]
    exact ih _

theorem cSteps_zero_eq (k : Nat) : cSteps k 0 = 0 := by
  induction k with
  | zero => rfl
  | succ k ih => show cSteps k (cStep 0) = 0; exact ih

/-- The bits of a number, the least one first. -/
def nBits (k D : Nat) : List Bool := (List.range k).map fun i => D.testBit i

theorem nBits_succ (k D : Nat) : nBits (k + 1) D = D.testBit 0 :: nBits k (D / 2) := by
  unfold nBits
  rw [List.range_succ_eq_map, List.map_cons, List.map_map]
  congr 1
  apply List.map_congr_left
  intro i _
  simp [Nat.testBit_succ]

/-- k bits, taken in one behind the other, are k steps of what they come to. -/
theorem cBits_nBits (k : Nat) : ∀ (n D : Nat), D < 2 ^ k → cBits n (nBits k D) = cSteps k (n ^^^ D) := by
  induction k with
  | zero =>
    intro n D h
    have : D = 0 := by simpa using h
    subst this
    simp [nBits, cBits, cSteps]
  | succ k ih =>
    intro n D h
    rw [nBits_succ]
    simp only [cBits, List.foldl_cons, cSteps]
    have ihk := ih (cBit n (D.testBit 0)) (D / 2) (by rw [Nat.pow_succ] at h; omega)
    simp only [cBits] at ihk
    rw [ihk]
    congr 1
    -- cBit n d0 ^^^ D/2 = cStep (n ^^^ D)
    have hD : D = (D.testBit 0).toNat ^^^ (2 * (D / 2)) := by
      apply Nat.eq_of_testBit_eq
      intro i
      cases i with
      | zero => rw [Nat.testBit_xor, Nat.testBit_zero, Nat.testBit_zero, Nat.testBit_zero]; have h2 : D % 2 = 0 ∨ D % 2 = 1 := by omega
                rcases h2 with h2 | h2 <;> simp [h2]
      | succ i =>
        rw [Nat.testBit_xor, Nat.testBit_succ (x := 2 * (D / 2))]
        have : 2 * (D / 2) / 2 = D / 2 := by omega
        rw [this, Nat.testBit_succ]
        cases D.testBit 0 <;> simp [Nat.testBit_succ]
    have hs : cStep (2 * (D / 2)) = D / 2 := by
      unfold cStep
      rw [if_neg (by omega)]; omega
    have ht : cStep (n ^^^ (D.testBit 0).toNat) ^^^ cStep (2 * (D / 2)) = cStep (n ^^^ D) := by rw [← cStep_xor, Nat.xor_assoc, ← hD]
    rw [hs] at ht
    exact ht

/-- A row of bits that is 0 but for at most 32 in a row, not all of them 0, taken in from 0 on, does not come to 0. -/
theorem cBits_burst (i D r : Nat) (hD : D < 4294967296) (h0 : D ≠ 0) : cBits 0 (List.replicate i false ++ nBits 32 D ++ List.replicate r false) ≠ 0 := by
  rw [cBits_append, cBits_append, cBits_falses i 0, cSteps_zero_eq, cBits_nBits 32 0 D (by omega), cBits_falses]
  intro hz
  rw [Nat.zero_xor] at hz
  have h1 := cSteps_zero r (cSteps_lt 32 hD) hz
  exact h0 (cSteps_zero 32 hD h1)

/-- So do two rows that differ just so. -/
theorem cBits_differ {l k : List Bool} {i D r n : Nat} (hl : l.length = k.length) (hx : List.zipWith (· ^^ ·) l k = List.replicate i false ++ nBits 32 D ++ List.replicate r false) (hD : D < 4294967296) (h0 : D ≠ 0) : cBits n l ≠ cBits n k := by
  intro he
  have h := cBits_xor l k n n hl
  rw [he, Nat.xor_self, Nat.xor_self, hx] at h
  exact cBits_burst i D r hD h0 h.symm

#print axioms cBits_differ
end Go.Proofs.Ytcmbnijjkpfhlaa

/- The checksum of bytes, bit by bit, and that bytes of which at most 32 bits in a row are others have another one. No condition. -/
namespace Go.Proofs.Ytcmbnijjkpfhlaa

/-- The bits of bytes, in the order in which they are taken in. -/
def bitsOf (b : List Nat) : List Bool := b.flatMap (nBits 8)
/-- The state behind bytes. -/
def cState (n : Nat) (b : List Nat) : Nat := cBits n (bitsOf b)
/-- The checksum. -/
def cSum (b : List Nat) : Nat := 4294967295 - cState 4294967295 b

theorem nBits_length (k D : Nat) : (nBits k D).length = k := by simp [nBits]
theorem bitsOf_length (b : List Nat) : (bitsOf b).length = 8 * b.length := by
  induction b with
  | nil => rfl
  | cons c r ih =>
    have : bitsOf (c :: r) = nBits 8 c ++ bitsOf r := rfl
    rw [this, List.length_append, ih, nBits_length, List.length_cons]; omega

theorem bitsOf_append (a b : List Nat) : bitsOf (a ++ b) = bitsOf a ++ bitsOf b := by simp [bitsOf]
theorem cState_append (n : Nat) (a b : List Nat) : cState n (a ++ b) = cState (cState n a) b := by
  unfold cState; rw [bitsOf_append, cBits_append]

theorem cBits_lt : ∀ (l : List Bool) (n : Nat), n < 4294967296 → cBits n l < 4294967296
  | [], _, h => h
  | d :: l, n, h => by
    have : cBit n d < 4294967296 := by
      unfold cBit
      refine cStep_lt ?_
      refine Nat.xor_lt_two_pow (n := 32) h ?_
      cases d <;> simp
    exact cBits_lt l _ this

theorem cState_lt {n : Nat} (h : n < 4294967296) (b : List Nat) : cState n b < 4294967296 := cBits_lt _ _ h
theorem cSum_lt (b : List Nat) : cSum b < 4294967296 := by unfold cSum; omega

/-- Bit j of bytes. -/
def bitAt (b : List Nat) (j : Nat) : Bool := (b.getD (j / 8) 0).testBit (j % 8)

theorem bitsOf_get : ∀ (b : List Nat) (j : Nat) (h : j < (bitsOf b).length), (bitsOf b)[j] = bitAt b j
  | [], j, h => by simp [bitsOf] at h
  | c :: r, j, h => by
    have e : bitsOf (c :: r) = nBits 8 c ++ bitsOf r := rfl
    have hl := bitsOf_length (c :: r)
    simp only [e]
    by_cases h8 : j < 8
    · rw [List.getElem_append_left (by rw [nBits_length]; exact h8)]
      have h1 : j / 8 = 0 := by omega
      have h2 : j % 8 = j := by omega
      simp [bitAt, h1, h2, nBits]
    · have hj : j - 8 < (bitsOf r).length := by
        have := bitsOf_length r
        rw [List.length_cons] at hl
        omega
      rw [List.getElem_append_right (by rw [nBits_length]; omega)]
      have ih := bitsOf_get r (j - 8) hj
      have h1 : j / 8 = (j - 8) / 8 + 1 := by omega
      have h2 : j % 8 = (j - 8) % 8 := by omega
      have e2 : bitAt (c :: r) j = bitAt r (j - 8) := by simp only [bitAt, h1, h2, List.getD_cons_succ]
      rw [e2, ← ih]
      congr 1

/-- Is bit j one of those that are turned? -/
def turned (i D k j : Nat) : Bool := decide (i ≤ j) && decide (j < i + k) && D.testBit (j - i)

/-- Two rows of bytes whose bits differ within 32 in a row. -/
theorem cSum_differ {b c : List Nat} {i D : Nat} (hl : c.length = b.length) (hi : i + 32 ≤ 8 * b.length) (hD : D < 4294967296) (h0 : D ≠ 0) (hb : ∀ j, j < 8 * b.length → bitAt c j = (bitAt b j ^^ turned i D 32 j)) : cSum b ≠ cSum c := by
  have hlen : (bitsOf b).length = (bitsOf c).length := by rw [bitsOf_length, bitsOf_length, hl]
  have hz : List.zipWith (· ^^ ·) (bitsOf b) (bitsOf c) = List.replicate i false ++ nBits 32 D ++ List.replicate (8 * b.length - i - 32) false := by
    apply List.ext_getElem
    · rw [List.length_zipWith, ← hlen, Nat.min_self, bitsOf_length]
      simp [nBits_length]; omega
    · intro j h1 h2
      have hj : j < 8 * b.length := by
        rw [List.length_zipWith, ← hlen, Nat.min_self, bitsOf_length] at h1; exact h1
      rw [List.getElem_zipWith, bitsOf_get, bitsOf_get, hb j hj]
      have hx : (bitAt b j ^^ (bitAt b j ^^ turned i D 32 j)) = turned i D 32 j := by cases bitAt b j <;> simp
      rw [hx]
      by_cases hlt : j < i
      · rw [List.getElem_append_left (by simp [nBits_length]; omega), List.getElem_append_left (by simpa using hlt)]
        simp [turned]; omega
      · by_cases hlt2 : j < i + 32
        · rw [List.getElem_append_left (by simp [nBits_length]; omega), List.getElem_append_right (by simp; omega)]
          simp [turned, nBits]; omega
        · rw [List.getElem_append_right (by simp [nBits_length]; omega)]
          simp [turned]; omega
  intro he
  have hs : cState 4294967295 b = cState 4294967295 c := by
    have h1 := cState_lt (n := 4294967295) (by omega) b
    have h2 := cState_lt (n := 4294967295) (by omega) c
    unfold cSum at he
    omega
  exact cBits_differ hlen hz hD h0 hs

/-- The bytes, the first k of those bits turned. -/
def flipTo (b : List Nat) (i D : Nat) : Nat → List Nat
  | 0 => b
  | k + 1 => if D.testBit k = true then (flipTo b i D k).set ((i + k) / 8) ((flipTo b i D k).getD ((i + k) / 8) 0 ^^^ 2 ^ ((i + k) % 8)) else flipTo b i D k

theorem flipTo_length (b : List Nat) (i D k : Nat) : (flipTo b i D k).length = b.length := by
  induction k with
  | zero => rfl
  | succ k ih =>
    unfold flipTo
    split
    · rw [List.length_set]; exact ih
    · exact ih

theorem bitAt_set {l : List Nat} {p q : Nat} (hp : p < 8 * l.length) :
    bitAt (l.set (p / 8) (l.getD (p / 8) 0 ^^^ 2 ^ (p % 8))) q = (bitAt l q ^^ decide (q = p)) := by
  unfold bitAt
  by_cases h8 : q / 8 = p / 8
  · have hlt : p / 8 < l.length := by omega
    rw [h8]
    have e : (l.set (p / 8) (l.getD (p / 8) 0 ^^^ 2 ^ (p % 8))).getD (p / 8) 0 = l.getD (p / 8) 0 ^^^ 2 ^ (p % 8) := by simp [List.getD, hlt]
    rw [e, Nat.testBit_xor, Nat.testBit_two_pow]
    congr 1
    by_cases hm : p % 8 = q % 8
    · have : q = p := by omega
      simp [this]
    · have : ¬ q = p := by rintro rfl; exact hm rfl
      simp [this, hm]
  · have e : (l.set (p / 8) (l.getD (p / 8) 0 ^^^ 2 ^ (p % 8))).getD (q / 8) 0 = l.getD (q / 8) 0 := by
      simp [List.getD, List.getElem?_set_ne (fun h => h8 h.symm)]
    rw [e]
    have : ¬ q = p := by rintro rfl; exact h8 rfl
    simp [this]

theorem bitAt_flipTo (b : List Nat) (i D k : Nat) (hi : i + k ≤ 8 * b.length) : ∀ j, j < 8 * b.length → bitAt (flipTo b i D k) j = (bitAt b j ^^ turned i D k j) := by
  induction k with
  | zero =>
    intro j _
    have : turned i D 0 j = false := by simp [turned]; omega
    rw [this]; simp [flipTo]
  | succ k ih =>
    intro j hj
    have ih' := ih (by omega) j hj
    have hl := flipTo_length b i D k
    unfold flipTo
    by_cases hd : D.testBit k = true
    · rw [if_pos hd, bitAt_set (by rw [hl]; omega), ih', Bool.xor_assoc]
      congr 1
      by_cases hjk : j = i + k
      · subst hjk
        have e : i + k - i = k := by omega
        simp [turned, e, hd]
      · have : (j < i + (k + 1)) = (j < i + k) := by
          apply propext; constructor <;> intro h <;> omega
        simp [turned, this, hjk]
    · rw [if_neg hd, ih']
      congr 1
      by_cases hjk : j = i + k
      · subst hjk
        have e : i + k - i = k := by omega
        have hd' : D.testBit k = false := by simpa using hd
        simp [turned, e, hd']
      · have : (j < i + (k + 1)) = (j < i + k) := by
          apply propext; constructor <;> intro h <;> omega
        simp [turned, this]

theorem flipTo_byte {b : List Nat} (hb : ∀ x ∈ b, x < 256) (i D k : Nat) : ∀ x ∈ flipTo b i D k, x < 256 := by
  induction k with
  | zero => exact hb
  | succ k ih =>
    unfold flipTo
    split
    · intro x hx
      rcases List.mem_or_eq_of_mem_set hx with hx | rfl
      · exact ih x hx
      · have h1 : (flipTo b i D k).getD ((i + k) / 8) 0 < 256 := by
          by_cases hlt : (i + k) / 8 < (flipTo b i D k).length
          · have e : (flipTo b i D k).getD ((i + k) / 8) 0 = (flipTo b i D k)[(i + k) / 8] := by simp [List.getD, hlt]
            rw [e]; exact ih _ (List.getElem_mem hlt)
          · simp [List.getD, Nat.le_of_not_lt hlt]
        exact Nat.xor_lt_two_pow (n := 8) h1 (Nat.pow_lt_pow_right (by omega) (by omega))
    · exact ih

/-- What the statement needs. -/
theorem cSum_flip (b : List Nat) (i D : Nat) (hi : i + 32 ≤ 8 * b.length) (hD : D < 4294967296) (h0 : D ≠ 0) : cSum b ≠ cSum (flipTo b i D 32) :=
  cSum_differ (flipTo_length b i D 32) hi hD h0 (bitAt_flipTo b i D 32 hi)
#print axioms cSum_flip
end Go.Proofs.Ytcmbnijjkpfhlaa
