/- Numbers in eight bytes, and root sectors: plain lists. -/
import Derived.Test.YtpdpnlgiaehegaaMath
import Derived.Test.YtpdpnlgiaehegaaCheckBytes
namespace Go.Proofs.Ytpdpnlgiaehegaa

/-- The number that bytes make, the least significant first. -/
def le : List Nat → Nat
  | [] => 0
  | x :: r => x + 256 * le r

/-- A number's k lowest bytes, the least significant first. -/
def g8 : Nat → Nat → List Nat
  | 0, _ => []
  | k + 1, N => N % 256 :: g8 k (N / 256)

theorem g8_length (k N : Nat) : (g8 k N).length = k := by
  induction k generalizing N with
  | zero => rfl
  | succ k ih => simp [g8, ih]

theorem g8_byte (k N : Nat) : ∀ x ∈ g8 k N, x < 256 := by
  induction k generalizing N with
  | zero => simp [g8]
  | succ k ih =>
    intro x hx
    simp only [g8, List.mem_cons] at hx
    rcases hx with rfl | hx
    · omega
    · exact ih _ _ hx

theorem g8_snoc (k N : Nat) : g8 (k + 1) N = g8 k N ++ [N / 256 ^ k % 256] := by
  induction k generalizing N with
  | zero => simp [g8]
  | succ k ih =>
    have e : N / 256 / 256 ^ k = N / 256 ^ (k + 1) := by rw [Nat.div_div_eq_div_mul, Nat.pow_succ, Nat.mul_comm]
    rw [g8, ih (N / 256), e]
    rfl

theorem le_append (a b : List Nat) : le (a ++ b) = le a + 256 ^ a.length * le b := by
  induction a with
  | nil => simp [le]
  | cons x r ih =>
    simp only [List.cons_append, le, ih, List.length_cons, Nat.pow_succ]
    rw [Nat.mul_add, Nat.mul_comm (256 ^ r.length) 256, Nat.mul_assoc]
    omega

theorem le_lt (a : List Nat) (h : ∀ x ∈ a, x < 256) : le a < 256 ^ a.length := by
  induction a with
  | nil => simp [le]
  | cons x r ih =>
    have h1 := ih fun y hy => h y (by simp [hy])
    have h2 := h x (by simp)
    simp only [le, List.length_cons, Nat.pow_succ]
    omega

theorem le_take {l : List Nat} {j : Nat} (hj : j < l.length) : le (l.take (j + 1)) = le (l.take j) + 256 ^ j * l.getD j 0 := by
  have e : (l.take j).length = j := by simp; omega
  rw [List.take_succ_eq_append_getElem hj, le_append, e]
  simp [le, List.getD, hj]

theorem le_g8 (k N : Nat) : le (g8 k N) = N % 256 ^ k := by
  induction k generalizing N with
  | zero => simp [g8, le, Nat.mod_one]
  | succ k ih =>
    rw [g8, le, ih, Nat.pow_succ, Nat.mul_comm (256 ^ k) 256, Nat.mod_mul]

/-- A root sector of a generation that has these bytes. -/
def rHead (G : Nat) (b : List Nat) : List Nat := g8 8 G ++ [b.length, cSum b].flatMap vEnc

def rSec (G : Nat) (b : List Nat) : List Nat := rHead G b ++ List.replicate (56 - (rHead G b).length) 0 ++ g8 8 G

theorem rHead_eq (G : Nat) (b : List Nat) : rHead G b = g8 8 G ++ (vEnc b.length ++ vEnc (cSum b)) := by simp [rHead]

theorem rHead_len (G : Nat) (b : List Nat) (h : b.length < 4294967296) : 10 ≤ (rHead G b).length ∧ (rHead G b).length ≤ 18 := by
  rw [rHead_eq]
  have h1 := vEnc_len 4 b.length (by omega)
  have h2 := vEnc_len 4 (cSum b) (by have := cSum_lt b; omega)
  have h3 := vEnc_pos b.length
  have h4 := vEnc_pos (cSum b)
  simp only [List.length_append, g8_length]
  omega

theorem rSec_len (G : Nat) (b : List Nat) (h : b.length < 4294967296) : (rSec G b).length = 64 := by
  have := rHead_len G b h
  simp only [rSec, List.length_append, g8_length, List.length_replicate]
  omega

theorem rHead_byte (G : Nat) (b : List Nat) : ∀ x ∈ rHead G b, x < 256 := by
  rw [rHead_eq]
  intro x hx
  simp only [List.mem_append] at hx
  rcases hx with hx | hx | hx
  · exact g8_byte _ _ x hx
  · exact vEnc_byte _ x hx
  · exact vEnc_byte _ x hx

theorem rSec_byte (G : Nat) (b : List Nat) : ∀ x ∈ rSec G b, x < 256 := by
  intro x hx
  simp only [rSec, List.mem_append, List.mem_replicate] at hx
  rcases hx with (hx | hx) | hx
  · exact rHead_byte _ _ x hx
  · omega
  · exact g8_byte _ _ x hx

theorem rSec_first (G : Nat) (b : List Nat) : (rSec G b).take 8 = g8 8 G := by
  rw [rSec, rHead_eq, List.append_assoc, List.append_assoc, List.take_append_of_le_length (by rw [g8_length]; omega), List.take_of_length_le (by rw [g8_length]; omega)]

theorem rSec_last (G : Nat) (b : List Nat) (h : b.length < 4294967296) : (rSec G b).drop 56 = g8 8 G := by
  have := rHead_len G b h
  rw [rSec, List.drop_append_of_le_length (by simp; omega), List.drop_eq_nil_of_le (by simp; omega)]
  rfl

theorem rSec_mid (G : Nat) (b : List Nat) (h : b.length < 4294967296) : ∃ r, ((rSec G b).drop 8).take 48 = vEnc b.length ++ (vEnc (cSum b) ++ r) := by
  have hh := rHead_len G b h
  have e : (rSec G b).drop 8 = (vEnc b.length ++ (vEnc (cSum b) ++ List.replicate (56 - (rHead G b).length) 0)) ++ g8 8 G := by
    rw [rSec, rHead_eq]
    simp only [List.append_assoc]
    rw [List.drop_append_of_le_length (by rw [g8_length]; omega), List.drop_eq_nil_of_le (by rw [g8_length]; omega)]
    simp
  refine ⟨List.replicate (56 - (rHead G b).length) 0, ?_⟩
  have hl : (vEnc b.length ++ (vEnc (cSum b) ++ List.replicate (56 - (rHead G b).length) 0)).length = 48 := by
    have h1 : (rHead G b).length = 8 + ((vEnc b.length).length + (vEnc (cSum b)).length) := by rw [rHead_eq]; simp [g8_length]
    simp only [List.length_append, List.length_replicate]
    omega
  rw [e, List.take_append_of_le_length (by omega), List.take_of_length_le (by omega)]

end Go.Proofs.Ytpdpnlgiaehegaa
