/- The plain mathematics of a 32-bit checksum, over naturals and lists of bits: a step is linear and one-to-one, so that rows of bits that differ within 32 of them have different sums. No condition. -/
namespace Go.Proofs.Ytkfnjekeegebaaa

/-- One step without a bit: shifted, and the polynomial where the bit that fell out was 1. -/
def cStep (x : Nat) : Nat := if x % 2 = 1 then x / 2 ^^^ 3945912366 else x / 2
/-- A bit is taken in. -/
def cBit (n : Nat) (d : Bool) : Nat := cStep (n ^^^ d.toNat)
def cBits (n : Nat) (l : List Bool) : Nat := l.foldl cBit n

theorem xor_mod2 (x y : Nat) : (x ^^^ y) % 2 = (x % 2 + y % 2) % 2 := by
  have h : decide ((x ^^^ y) % 2 = 1) = (decide (x % 2 = 1) ^^ decide (y % 2 = 1)) := by
    have h0 := Nat.testBit_xor (x := x) (y := y) (i := 0)
    rw [Nat.testBit_zero, Nat.testBit_zero, Nat.testBit_zero] at h0
    exact h0
  have hx : x % 2 = 0 ∨ x % 2 = 1 := by omega
  have hy : y % 2 = 0 ∨ y % 2 = 1 := by omega
  rcases hx with hx | hx <;> rcases hy with hy | hy <;> rw [hx, hy] at h ⊢
  · have := of_decide_eq_false h; omega
  · have := of_decide_eq_true h; omega
  · have := of_decide_eq_true h; omega
  · have := of_decide_eq_false h; omega

theorem xor_div2 (x y : Nat) : (x ^^^ y) / 2 = x / 2 ^^^ y / 2 := by
  apply Nat.eq_of_testBit_eq
  intro i
  simp [Nat.testBit_div_two, Nat.testBit_xor]

theorem cStep_xor (x y : Nat) : cStep (x ^^^ y) = cStep x ^^^ cStep y := by
  have hm := xor_mod2 x y
  have hd := xor_div2 x y
  have hx : x % 2 = 0 ∨ x % 2 = 1 := by omega
  have hy : y % 2 = 0 ∨ y % 2 = 1 := by omega
  unfold cStep
  rw [hd]
  rcases hx with hx | hx <;> rcases hy with hy | hy <;> rw [hx, hy] at hm
  · rw [if_neg (by omega), if_neg (by omega), if_neg (by omega)]
  · rw [if_pos (by omega), if_neg (by omega), if_pos hy, Nat.xor_assoc]
  · rw [if_pos (by omega), if_pos hx, if_neg (by omega), Nat.xor_assoc, Nat.xor_assoc, Nat.xor_comm (y / 2)]
  · rw [if_neg (by omega), if_pos hx, if_pos hy]
    apply Nat.eq_of_testBit_eq
    intro i
    simp only [Nat.testBit_xor]
    cases (x / 2).testBit i <;> cases (y / 2).testBit i <;> cases Nat.testBit 3945912366 i <;> rfl

theorem cStep_lt {x : Nat} (h : x < 4294967296) : cStep x < 4294967296 := by
  unfold cStep
  split
  · exact Nat.xor_lt_two_pow (n := 32) (by omega) (by omega)
  · omega

theorem cStep_zero {x : Nat} (h : x < 4294967296) (hz : cStep x = 0) : x = 0 := by
  unfold cStep at hz
  split at hz
  · have h1 : x / 2 = 3945912366 := by
      have h2 : x / 2 ^^^ 3945912366 ^^^ 3945912366 = 0 ^^^ 3945912366 := by rw [hz]
      rw [Nat.xor_assoc, Nat.xor_self, Nat.xor_zero, Nat.zero_xor] at h2
      exact h2
    omega
  · omega

def cSteps : Nat → Nat → Nat
  | 0, x => x
  | k + 1, x => cSteps k (cStep x)

theorem cSteps_lt (k : Nat) : ∀ {x : Nat}, x < 4294967296 → cSteps k x < 4294967296 := by
  induction k with
  | zero => intro x h; exact h
  | succ k ih => intro x h; exact ih (cStep_lt h)

theorem cSteps_zero (k : Nat) : ∀ {x : Nat}, x < 4294967296 → cSteps k x = 0 → x = 0 := by
  induction k with
  | zero => intro x _ h; exact h
  | succ k ih => intro x h hz; exact cStep_zero h (ih (cStep_lt h) hz)

theorem cBit_xor (n m : Nat) (d e : Bool) : cBit (n ^^^ m) (d ^^ e) = cBit n d ^^^ cBit m e := by
  unfold cBit
  rw [← cStep_xor]
  congr 1
  have h : (d ^^ e).toNat = d.toNat ^^^ e.toNat := by cases d <;> cases e <;> rfl
  rw [h]
  apply Nat.eq_of_testBit_eq
  intro i
  simp only [Nat.testBit_xor]
  cases n.testBit i <;> cases m.testBit i <;> cases Nat.testBit d.toNat i <;> cases Nat.testBit e.toNat i <;> rfl

theorem cBits_xor : ∀ (l k : List Bool) (n m : Nat), l.length = k.length → cBits n l ^^^ cBits m k = cBits (n ^^^ m) (List.zipWith (· ^^ ·) l k)
  | [], [], _, _, _ => rfl
  | d :: l, e :: k, n, m, h => by
    simp only [cBits, List.foldl_cons, List.zipWith_cons_cons]
    rw [cBit_xor]
    exact cBits_xor l k _ _ (by simpa using h)
  | [], _ :: _, _, _, h => by simp at h
  | _ :: _, [], _, _, h => by simp at h

theorem cBits_append (n : Nat) (l k : List Bool) : cBits n (l ++ k) = cBits (cBits n l) k := by simp [cBits]

theorem cBits_falses (k : Nat) : ∀ n, cBits n (List.replicate k false) = cSteps k n := by
  induction k with
  | zero => intro n; rfl
  | succ k ih =>
    intro n
    simp only [List.replicate_succ, cBits, List.foldl_cons, cSteps]
    have : cBit n false = cStep n := by simp [cBit]
    rw [this]
    exact ih _

theorem cSteps_zero_eq (k : Nat) : cSteps k 0 = 0 := by
  induction k with
  | zero => rfl
  | succ k ih => show cSteps k (cStep 0) = 0; exact ih

/-- The bits of a number, the least one first. -/
def nBits (k D : Nat) : List Bool := (List.range k).map fun i => D.testBit i

theorem nBits_succ (k D : Nat) : nBits (k + 1) D = D.testBit 0 :: nBits k (D / 2) := by
  unfold nBits
  rw [List.range_succ_eq_map, List.map_cons, List.map_map]
  congr 1
  apply List.map_congr_left
  intro i _
  simp [Nat.testBit_succ]

/-- k bits, taken in one behind the other, are k steps of what they come to. -/
theorem cBits_nBits (k : Nat) : ∀ (n D : Nat), D < 2 ^ k → cBits n (nBits k D) = cSteps k (n ^^^ D) := by
  induction k with
  | zero =>
    intro n D h
    have : D = 0 := by simpa using h
    subst this
    simp [nBits, cBits, cSteps]
  | succ k ih =>
    intro n D h
    rw [nBits_succ]
    simp only [cBits, List.foldl_cons, cSteps]
    have ihk := ih (cBit n (D.testBit 0)) (D / 2) (by rw [Nat.pow_succ] at h; omega)
    simp only [cBits] at ihk
    rw [ihk]
    congr 1
    -- cBit n d0 ^^^ D/2 = cStep (n ^^^ D)
    have hD : D = (D.testBit 0).toNat ^^^ (2 * (D / 2)) := by
      apply Nat.eq_of_testBit_eq
      intro i
      cases i with
      | zero => rw [Nat.testBit_xor, Nat.testBit_zero, Nat.testBit_zero, Nat.testBit_zero]; have h2 : D % 2 = 0 ∨ D % 2 = 1 := by omega
                rcases h2 with h2 | h2 <;> simp [h2]
      | succ i =>
        rw [Nat.testBit_xor, Nat.testBit_succ (x := 2 * (D / 2))]
        have : 2 * (D / 2) / 2 = D / 2 := by omega
        rw [this, Nat.testBit_succ]
        cases D.testBit 0 <;> simp [Nat.testBit_succ]
    have hs : cStep (2 * (D / 2)) = D / 2 := by
      unfold cStep
      rw [if_neg (by omega)]; omega
    have ht : cStep (n ^^^ (D.testBit 0).toNat) ^^^ cStep (2 * (D / 2)) = cStep (n ^^^ D) := by rw [← cStep_xor, Nat.xor_assoc, ← hD]
    rw [hs] at ht
    exact ht

/-- A row of bits that is 0 but for at most 32 in a row, not all of them 0, taken in from 0 on, does not come to 0. -/
theorem cBits_burst (i D r : Nat) (hD : D < 4294967296) (h0 : D ≠ 0) : cBits 0 (List.replicate i false ++ nBits 32 D ++ List.replicate r false) ≠ 0 := by
  rw [cBits_append, cBits_append, cBits_falses i 0, cSteps_zero_eq, cBits_nBits 32 0 D (by omega), cBits_falses]
  intro hz
  rw [Nat.zero_xor] at hz
  have h1 := cSteps_zero r (cSteps_lt 32 hD) hz
  exact h0 (cSteps_zero 32 hD h1)

/-- So do two rows that differ just so. -/
theorem cBits_differ {l k : List Bool} {i D r n : Nat} (hl : l.length = k.length) (hx : List.zipWith (· ^^ ·) l k = List.replicate i false ++ nBits 32 D ++ List.replicate r false) (hD : D < 4294967296) (h0 : D ≠ 0) : cBits n l ≠ cBits n k := by
  intro he
  have h := cBits_xor l k n n hl
  rw [he, Nat.xor_self, Nat.xor_self, hx] at h
  exact cBits_burst i D r hD h0 h.symm

#print axioms cBits_differ
end Go.Proofs.Ytkfnjekeegebaaa
