
/- Digests, in plain numbers: a product reckoned in halves, reduced modulo 2^61 - 1; what bytes come to; what joins and cuts come to. No number of a seat. -/
namespace Go.Proofs.YtaijldcfoaeogaaGreat

/-- A product of two numbers of two halves each, the way bits.Mul64 takes. -/
theorem mul_halves (a0 a1 b0 b1 : Nat) :
    a1 * b1 + (a1 * b0 + a0 * b0 / 4294967296) / 4294967296 + ((a1 * b0 + a0 * b0 / 4294967296) % 4294967296 + a0 * b1) / 4294967296 = (a1 * 4294967296 + a0) * (b1 * 4294967296 + b0) / 18446744073709551616 := by
  have e : (a1 * 4294967296 + a0) * (b1 * 4294967296 + b0) = (a1 * b1) * 18446744073709551616 + (a1 * b0) * 4294967296 + (a0 * b1) * 4294967296 + a0 * b0 := by
    simp only [Nat.add_mul, Nat.mul_add]
    have e1 : a1 * 4294967296 * (b1 * 4294967296) = a1 * b1 * 18446744073709551616 := by
      rw [Nat.mul_mul_mul_comm]
    have e2 : a1 * 4294967296 * b0 = a1 * b0 * 4294967296 := Nat.mul_right_comm _ _ _
    have e3 : a0 * (b1 * 4294967296) = a0 * b1 * 4294967296 := (Nat.mul_assoc _ _ _).symm
    rw [e1, e2, e3]; omega
  rw [e]
  generalize a1 * b1 = p11
  generalize a1 * b0 = p10
  generalize a0 * b1 = p01
  generalize a0 * b0 = p00
  omega

theorem mul_lt32 {a b : Nat} (ha : a < 4294967296) (hb : b < 4294967296) : a * b ≤ 18446744065119617025 := by
  have := Nat.mul_le_mul (show a ≤ 4294967295 by omega) (show b ≤ 4294967295 by omega)
  simpa using this

/-- What stands above the lowest 61 bits, added to them. -/
theorem fold61 {x : Nat} (h : x / 2305843009213693952 < 2305843009213693951) :
    (if x / 2305843009213693952 + x % 2305843009213693952 < 2305843009213693951 then x / 2305843009213693952 + x % 2305843009213693952 else x / 2305843009213693952 + x % 2305843009213693952 - 2305843009213693951) = x % 2305843009213693951 := by
  split <;> omega

theorem prod_lt {a b : Nat} (ha : a < 2305843009213693951) (hb : b < 2305843009213693951) : a * b / 2305843009213693952 < 2305843009213693951 := by
  have h := Nat.mul_le_mul (show a ≤ 2305843009213693950 by omega) (show b ≤ 2305843009213693950 by omega)
  have h3 : a * b < 2305843009213693951 * 2305843009213693952 := Nat.lt_of_le_of_lt h (by decide)
  exact Nat.div_lt_of_lt_mul (Nat.mul_comm 2305843009213693951 2305843009213693952 ▸ h3)

/-- Base to the power of n. -/
def dPow (n : Nat) : Nat := 1000003 ^ n % 2305843009213693951

theorem dPow_lt (n : Nat) : dPow n < 2305843009213693951 := Nat.mod_lt _ (by omega)

theorem dPow_add (a b : Nat) : dPow (a + b) = dPow a * dPow b % 2305843009213693951 := by
  unfold dPow; rw [Nat.pow_add, Nat.mul_mod]

/-- A byte more. -/
def dStep (s c : Nat) : Nat := (s * 1000003 + c + 1) % 2305843009213693951

def dFrom (s : Nat) (l : List Nat) : Nat := l.foldl dStep s

/-- What bytes come to. -/
def dSum (l : List Nat) : Nat := dFrom 0 l

theorem dStep_lt (s c : Nat) : dStep s c < 2305843009213693951 := Nat.mod_lt _ (by omega)

theorem dFrom_snoc (s : Nat) (l : List Nat) (c : Nat) : dFrom s (l ++ [c]) = dStep (dFrom s l) c := by simp [dFrom]

theorem dFrom_append (s : Nat) (l m : List Nat) : dFrom s (l ++ m) = dFrom (dFrom s l) m := by simp [dFrom]

theorem dFrom_lt {s : Nat} (hs : s < 2305843009213693951) (l : List Nat) : dFrom s l < 2305843009213693951 := by
  induction l generalizing s with
  | nil => exact hs
  | cons c r ih => exact ih (dStep_lt s c)

theorem dSum_lt (l : List Nat) : dSum l < 2305843009213693951 := dFrom_lt (by omega) l

/-- What is ahead counts with Base to the power of what follows. -/
theorem dFrom_eq (s : Nat) (l : List Nat) : dFrom s l % 2305843009213693951 = (s * 1000003 ^ l.length + dFrom 0 l) % 2305843009213693951 := by
  induction l generalizing s with
  | nil => simp [dFrom]
  | cons c r ih =>
    have h1 := ih (dStep s c)
    have h2 := ih (dStep 0 c)
    have e1 : dFrom s (c :: r) = dFrom (dStep s c) r := rfl
    have e2 : dFrom 0 (c :: r) = dFrom (dStep 0 c) r := rfl
    rw [e1, h1]
    have h3 : (s * 1000003 ^ (c :: r).length + dFrom 0 (c :: r)) % 2305843009213693951 = (s * 1000003 ^ (c :: r).length + (dStep 0 c * 1000003 ^ r.length + dFrom 0 r)) % 2305843009213693951 := by
      rw [Nat.add_mod, e2, h2, ← Nat.add_mod]
    rw [h3]
    unfold dStep
    rw [Nat.add_mod, Nat.mul_mod, Nat.mod_mod, ← Nat.mul_mod, ← Nat.add_mod]
    have h4 : (s * 1000003 ^ (c :: r).length + ((0 * 1000003 + c + 1) % 2305843009213693951 * 1000003 ^ r.length + dFrom 0 r)) % 2305843009213693951 = (s * 1000003 ^ (c :: r).length + ((0 * 1000003 + c + 1) * 1000003 ^ r.length + dFrom 0 r)) % 2305843009213693951 := by
      rw [← Nat.add_assoc, ← Nat.add_assoc, Nat.add_mod _ (dFrom 0 r), Nat.add_mod (s * _), Nat.mul_mod ((0 * 1000003 + c + 1) % _), Nat.mod_mod, ← Nat.mul_mod, ← Nat.add_mod (s * _), ← Nat.add_mod]
    rw [h4]
    congr 1
    have e3 : (c :: r).length = r.length + 1 := rfl
    rw [e3, Nat.pow_succ]
    generalize 1000003 ^ r.length = q
    have e5 : s * 1000003 + c + 1 = s * 1000003 + (0 * 1000003 + c + 1) := by omega
    rw [e5, Nat.add_mul, Nat.mul_assoc s, Nat.mul_comm 1000003 q, Nat.add_assoc]

theorem dSum_append (a b : List Nat) : dSum (a ++ b) = (dSum a * dPow b.length + dSum b) % 2305843009213693951 := by
  have h := dFrom_eq (dSum a) b
  rw [Nat.mod_eq_of_lt (dFrom_lt (dSum_lt a) b)] at h
  unfold dSum at h ⊢
  rw [dFrom_append, h]
  unfold dPow
  rw [Nat.add_mod, Nat.mul_mod, ← Nat.mod_mod (1000003 ^ b.length), ← Nat.mul_mod, Nat.mod_mod, ← Nat.add_mod]

/-- What digests come to, one behind the other: lengths and sums. -/
def dJoin (l : List (Nat × Nat)) : Nat × Nat := l.foldl (fun s d => (s.1 + d.1, (s.2 * dPow d.1 + d.2) % 2305843009213693951)) (0, 0)

theorem dJoin_snoc (l : List (Nat × Nat)) (d : Nat × Nat) : dJoin (l ++ [d]) = ((dJoin l).1 + d.1, ((dJoin l).2 * dPow d.1 + d.2) % 2305843009213693951) := by simp [dJoin]

theorem dJoin_lt (l : List (Nat × Nat)) : (dJoin l).2 < 2305843009213693951 := by
  rcases List.eq_nil_or_concat l with rfl | ⟨r, d, rfl⟩
  · simp [dJoin]
  · rw [List.concat_eq_append, dJoin_snoc]; exact Nat.mod_lt _ (by omega)

/-- The digest of bytes. -/
def dOf (l : List Nat) : Nat × Nat := (l.length, dSum l)

theorem dJoin_of (l : List (Nat × Nat)) (a b : List Nat) (h : dJoin l = dOf a) : dJoin (l ++ [dOf b]) = dOf (a ++ b) := by
  rw [dJoin_snoc, h]
  simp only [dOf, List.length_append, dSum_append]

/-- What stands behind a place. -/
theorem dCut {A h t n : Nat} (ht : t < 2305843009213693951) (e : A = (h * dPow n + t) % 2305843009213693951) : (A + (2305843009213693951 - h * dPow n % 2305843009213693951)) % 2305843009213693951 = t := by
  have h1 : h * dPow n % 2305843009213693951 < 2305843009213693951 := Nat.mod_lt _ (by omega)
  rw [Nat.add_mod] at e
  generalize h * dPow n % 2305843009213693951 = m at *
  omega

theorem dJoined {A h n : Nat} (hA : A < 2305843009213693951) : (h * dPow n + (A + (2305843009213693951 - h * dPow n % 2305843009213693951)) % 2305843009213693951) % 2305843009213693951 = A := by
  have h1 : h * dPow n % 2305843009213693951 < 2305843009213693951 := Nat.mod_lt _ (by omega)
  rw [Nat.add_mod]
  generalize h * dPow n % 2305843009213693951 = m at *
  omega

/-- A power by squares: one step. -/
theorem pow_half (p s n : Nat) : (p * s ^ n) % 2305843009213693951 = ((if n % 2 = 1 then p * s % 2305843009213693951 else p) * (s * s % 2305843009213693951) ^ (n / 2)) % 2305843009213693951 := by
  have e : s ^ n = s ^ (n % 2) * (s * s) ^ (n / 2) := by
    have h := Nat.div_add_mod n 2
    rw [← Nat.pow_two, ← Nat.pow_mul, ← Nat.pow_add]
    congr 1; omega
  have hm : ∀ x y : Nat, (x * (y % 2305843009213693951) ^ (n / 2)) % 2305843009213693951 = (x * y ^ (n / 2)) % 2305843009213693951 := by
    intro x y
    rw [Nat.mul_mod, ← Nat.pow_mod, ← Nat.mul_mod]
  rw [hm]
  split
  · rename_i h
    rw [e, h, Nat.pow_one, ← Nat.mul_assoc, Nat.mul_mod (p * s), Nat.mul_mod (p * s % 2305843009213693951) ((s * s) ^ (n / 2)), Nat.mod_mod]
  · rename_i h
    have h0 : n % 2 = 0 := by omega
    rw [e, h0, Nat.pow_zero, Nat.one_mul]

/-- A product by doubles: one step. -/
theorem mul_half (o a b : Nat) : (o + a * b) % 2305843009213693951 = ((if b % 2 = 1 then (o + a) % 2305843009213693951 else o) + ((a + a) % 2305843009213693951) * (b / 2)) % 2305843009213693951 := by
  have hm : ∀ x y z : Nat, (x + (y % 2305843009213693951) * z) % 2305843009213693951 = (x + y * z) % 2305843009213693951 := by
    intro x y z
    rw [Nat.add_mod, Nat.mul_mod, Nat.mod_mod, ← Nat.mul_mod, ← Nat.add_mod]
  rw [hm]
  have e : a * b = a * (b % 2) + (a + a) * (b / 2) := by
    have h := Nat.div_add_mod b 2
    have h2 : a * b = a * (2 * (b / 2) + b % 2) := by rw [h]
    rw [h2, Nat.mul_add, ← Nat.mul_assoc, Nat.mul_two]; omega
  rw [e]
  split
  · rename_i h
    rw [h, Nat.mul_one, ← Nat.add_assoc, Nat.add_mod (o + a), Nat.add_mod ((o + a) % 2305843009213693951) ((a + a) * (b / 2)), Nat.mod_mod]
  · rename_i h
    have h0 : b % 2 = 0 := by omega
    rw [h0, Nat.mul_zero, Nat.zero_add]

theorem dPow_half (n : Nat) : dPow n = if n % 2 = 1 then (dPow (n / 2) * dPow (n / 2) % 2305843009213693951) * 1000003 % 2305843009213693951 else dPow (n / 2) * dPow (n / 2) % 2305843009213693951 := by
  have h1 : dPow 1 = 1000003 := by decide
  rw [← dPow_add]
  split
  · rename_i h
    have := dPow_add (n / 2 + n / 2) 1
    rw [h1] at this
    rw [← this]
    congr 1; omega
  · congr 1; omega

end Go.Proofs.YtaijldcfoaeogaaGreat
