/- Records in a row, plainly: their bytes, their Tail. -/
import Derived.Test.YtaijldcfoaeogaaGreatGRcMathToRcBytes
import Derived.Test.YtaijldcfoaeogaaGreatDMath
import Derived.Test.YtaijldcfoaeogaaGreatGMemToRcEq
import Derived.Laws.BitsAllLaws
import Derived.Deep.QuietTactic
import Derived.BigQuiet
namespace Go.Proofs.YtaijldcfoaeogaaGreat
open Go.RowKit
set_option maxRecDepth 100000
set_option linter.unusedSimpArgs false

/-- All bytes of records. -/
def flatB (xs : List Rec) : List Nat := xs.flatMap Rec.bytes

theorem flatB_append (A B : List Rec) : flatB (A ++ B) = flatB A ++ flatB B := by simp [flatB]

theorem flatB_one (x : Rec) : flatB [x] = x.bytes := by simp [flatB]

/-- The Tail behind records. -/
def tailR (xs : List Rec) : Rec := ⟨4, 0, 0, 0, 0, [], (xs.length : Int), (flatB xs).length, dSum (flatB xs)⟩

/-- A stream's bytes. -/
def strmB (xs : List Rec) : List Nat := flatB xs ++ (tailR xs).bytes

theorem bytes_len {x : Rec} (h : x.ok = true) : 1 ≤ x.bytes.length ∧ x.bytes.length ≤ 160 := by
  have h1 := Rec.plain_len h
  have h2 := vEnc_len10 (n := (x.plain ++ sumB (cSum x.plain)).length) (by simp [sumB]; omega)
  simp only [Rec.bytes, tEnc, List.length_append] at h2 ⊢
  simp [sumB] at h2 ⊢
  omega

theorem flatB_len {xs : List Rec} (h : ∀ x ∈ xs, x.ok = true) : (flatB xs).length ≤ 160 * xs.length := by
  induction xs with
  | nil => simp [flatB]
  | cons x xs ih =>
    have e : flatB (x :: xs) = x.bytes ++ flatB xs := by simp [flatB]
    have := bytes_len (h x (by simp))
    have := ih fun y hy => h y (by simp [hy])
    rw [e, List.length_append, List.length_cons]
    omega

theorem tailR_ok {xs : List Rec} (h : ∀ x ∈ xs, x.ok = true) (hl : xs.length ≤ 100000) : (tailR xs).ok = true := by
  have h1 := flatB_len h
  have h2 := dSum_lt (flatB xs)
  have e : tailR xs = ⟨4, 0, 0, 0, 0, [], (xs.length : Int), (flatB xs).length, dSum (flatB xs)⟩ := rfl
  rw [e]
  generalize (flatB xs).length = n at h1
  generalize dSum (flatB xs) = s at h2
  generalize xs.length = m at h1 hl
  simp [Rec.ok, Rec.eq, isNum]
  omega

theorem Rd.blk {w w' : World} {a : Option Addr} {n : Nat} {l : List Nat} (h : Rd w a n l) (hk : ∀ b o, a = some ⟨b, o, none⟩ → 0 < n → w'.heap[b]? = w.heap[b]?) : Rd w' a n l := by
  refine ⟨h.1, h.2.1, fun hn => ?_⟩
  obtain ⟨b, o, rfl, hc⟩ := h.2.2 hn
  refine ⟨b, o, rfl, fun j hj => ?_⟩
  have hc' := hc j hj
  simp only [World.cell?] at hc' ⊢
  rw [hk b o rfl hn]
  exact hc'

theorem Rd.in_ {w : World} {b o n : Nat} {l : List Nat} (h : Rd w (some ⟨b, o, none⟩) n l) (hn : 0 < n) : b < w.heap.size := by
  obtain ⟨b', o', e, hc⟩ := h.2.2 hn
  injection e with e
  injection e with e1 e2
  subst e1
  exact World.block_lt_of_cell? w _ (hc 0 hn)

end Go.Proofs.YtaijldcfoaeogaaGreat

/- The contracts of digest's own arithmetic (plus, times, minus, power, moved) and of bits.Mul64, over any world. -/
namespace Go.Proofs.YtaijldcfoaeogaaGreat
open Go.RowKit
set_option maxRecDepth 100000

theorem wrap64_nat {n : Nat} (h : n < 18446744073709551616) : IntKind.u64.wrap (n : Int) = (n : Int) := by
  rw [IntKind.wrap_u64]; omega

theorem and32 {n : Nat} (h : n < 18446744073709551616) : bits .and .u64 (n : Int) 4294967295 = ((n % 4294967296 : Nat) : Int) := by
  have := u64_and_nat n 4294967295 h (by omega)
  rw [show (4294967295 : Nat) = 2 ^ 32 - 1 from rfl, Nat.and_two_pow_sub_one_eq_mod] at this
  exact this

theorem hi_eq (a b : Nat) (ha : a < 18446744073709551616) (hb : b < 18446744073709551616) :
    (IntKind.u64.wrap (IntKind.u64.wrap (IntKind.u64.wrap ((a : Int) / 4294967296 * ((b : Int) / 4294967296)) +
      IntKind.u64.wrap (IntKind.u64.wrap ((a : Int) / 4294967296 * bits BinOp.and IntKind.u64 (b : Int) 4294967295) + IntKind.u64.wrap (bits BinOp.and IntKind.u64 (a : Int) 4294967295 * bits BinOp.and IntKind.u64 (b : Int) 4294967295) / 4294967296) / 4294967296) +
      IntKind.u64.wrap (bits BinOp.and IntKind.u64 (IntKind.u64.wrap (IntKind.u64.wrap ((a : Int) / 4294967296 * bits BinOp.and IntKind.u64 (b : Int) 4294967295) + IntKind.u64.wrap (bits BinOp.and IntKind.u64 (a : Int) 4294967295 * bits BinOp.and IntKind.u64 (b : Int) 4294967295) / 4294967296)) 4294967295 +
        IntKind.u64.wrap (bits BinOp.and IntKind.u64 (a : Int) 4294967295 * ((b : Int) / 4294967296))) / 4294967296)) = ((a * b / 18446744073709551616 : Nat) : Int) := by
  rw [and32 ha, and32 hb]
  obtain ⟨a1, ha1⟩ : ∃ a1, a1 = a / 4294967296 := ⟨_, rfl⟩
  obtain ⟨b1, hb1⟩ : ∃ b1, b1 = b / 4294967296 := ⟨_, rfl⟩
  obtain ⟨a0, ha0⟩ : ∃ a0, a0 = a % 4294967296 := ⟨_, rfl⟩
  obtain ⟨b0, hb0⟩ : ∃ b0, b0 = b % 4294967296 := ⟨_, rfl⟩
  have e1 : (a : Int) / 4294967296 = (a1 : Int) := by omega
  have e2 : (b : Int) / 4294967296 = (b1 : Int) := by omega
  rw [e1, e2, ← ha0, ← hb0]
  have ea : a = a1 * 4294967296 + a0 := by omega
  have eb : b = b1 * 4294967296 + b0 := by omega
  have h := mul_halves a0 a1 b0 b1
  rw [← ea, ← eb] at h
  have l1 : a1 < 4294967296 := by omega
  have l2 : b1 < 4294967296 := by omega
  have l3 : a0 < 4294967296 := by omega
  have l4 : b0 < 4294967296 := by omega
  have m11 := mul_lt32 l1 l2
  have m10 := mul_lt32 l1 l4
  have m01 := mul_lt32 l3 l2
  have m00 := mul_lt32 l3 l4
  have hall : a * b / 18446744073709551616 < 18446744073709551616 := by
    have := Nat.mul_lt_mul'' ha hb
    exact Nat.div_lt_of_lt_mul this
  rw [← h] at hall ⊢
  simp only [← Int.natCast_mul]
  generalize a1 * b1 = p11 at *
  generalize a1 * b0 = p10 at *
  generalize a0 * b1 = p01 at *
  generalize a0 * b0 = p00 at *
  clear h ea eb e1 e2 ha1 hb1 ha0 hb0 ha hb
  rw [wrap64_nat (show p11 < 18446744073709551616 by omega), wrap64_nat (show p10 < 18446744073709551616 by omega), wrap64_nat (show p01 < 18446744073709551616 by omega), wrap64_nat (show p00 < 18446744073709551616 by omega)]
  have f1 : (p10 : Int) + (p00 : Int) / 4294967296 = ((p10 + p00 / 4294967296 : Nat) : Int) := by omega
  rw [f1]
  have f2 : p10 + p00 / 4294967296 < 18446744073709551616 := by omega
  generalize p10 + p00 / 4294967296 = t at *
  rw [wrap64_nat f2, and32 f2]
  have f3 : ((t % 4294967296 : Nat) : Int) + (p01 : Int) = ((t % 4294967296 + p01 : Nat) : Int) := by omega
  rw [f3]
  have f4 : t % 4294967296 + p01 < 18446744073709551616 := by omega
  generalize t % 4294967296 + p01 = u at *
  rw [wrap64_nat f4]
  have f5 : (p11 : Int) + (t : Int) / 4294967296 = ((p11 + t / 4294967296 : Nat) : Int) := by omega
  rw [f5, wrap64_nat (by omega)]
  have f6 : ((p11 + t / 4294967296 : Nat) : Int) + (u : Int) / 4294967296 = ((p11 + t / 4294967296 + u / 4294967296 : Nat) : Int) := by omega
  rw [f6, wrap64_nat hall]

theorem lo_eq (a b : Nat) : IntKind.u64.wrap ((a : Int) * (b : Int)) = ((a * b % 18446744073709551616 : Nat) : Int) := by
  rw [IntKind.wrap_u64, ← Int.natCast_mul]; omega

set_option maxHeartbeats 400000 in
set_option maxRecDepth 100000 in
theorem mul64_any (a b : Nat) (w : World) (ha : a < 18446744073709551616) (hb : b < 18446744073709551616) :
    Calls Tryz.prog 88 #[.int .u64 (a : Int), .int .u64 (b : Int)] w fun e w' => e = .returned (.tuple #[.int .u64 ((a * b / 18446744073709551616 : Nat) : Int), .int .u64 ((a * b % 18446744073709551616 : Nat) : Int)]) ∧ w' = w := by
  go_enter Tryz.func88, Tryz.ntmps88
  go_wp2
  go_ret2
  rw [← hi_eq a b ha hb, ← lo_eq a b]
  exact ⟨rfl, rfl⟩

theorem or_add8 (h l : Nat) (hl : l < 8) : h * 8 ||| l = h * 8 + l := by
  have := Nat.two_pow_add_eq_or_of_lt (i := 3) (b := l) (by omega) h
  rw [Nat.mul_comm h 8]
  exact this.symm

theorem fold_or {x : Nat} (hx : x / 2305843009213693952 < 2305843009213693951) :
    bits .or .u64 (IntKind.u64.wrap (((x / 18446744073709551616 : Nat) : Int) * 8)) (((x % 18446744073709551616 : Nat) : Int) / 2305843009213693952) = ((x / 2305843009213693952 : Nat) : Int) := by
  have e1 : IntKind.u64.wrap (((x / 18446744073709551616 : Nat) : Int) * 8) = ((x / 18446744073709551616 * 8 : Nat) : Int) := by rw [IntKind.wrap_u64]; omega
  have e2 : ((x % 18446744073709551616 : Nat) : Int) / 2305843009213693952 = ((x % 18446744073709551616 / 2305843009213693952 : Nat) : Int) := by omega
  rw [e1, e2, u64_or_nat _ _ (by omega) (by omega), or_add8 _ _ (by omega)]
  congr 1; omega

theorem and61 {n : Nat} (h : n < 18446744073709551616) : bits .and .u64 (n : Int) 2305843009213693951 = ((n % 2305843009213693952 : Nat) : Int) := by
  have := u64_and_nat n 2305843009213693951 h (by omega)
  rw [show (2305843009213693951 : Nat) = 2 ^ 61 - 1 from rfl, Nat.and_two_pow_sub_one_eq_mod] at this
  exact this

set_option maxRecDepth 100000 in
theorem plus_any (a b : Nat) (w : World) (h : a + b < 18446744073709551616) :
    Calls Tryz.prog 67 #[.int .u64 (a : Int), .int .u64 (b : Int)] w fun e w' => e = .returned (.int .u64 (((if a + b < 2305843009213693951 then a + b else a + b - 2305843009213693951 : Nat)) : Int)) ∧ w' = w := by
  have hw : IntKind.u64.wrap ((a : Int) + (b : Int)) = ((a + b : Nat) : Int) := by rw [IntKind.wrap_u64]; omega
  by_cases hlt : a + b < 2305843009213693951
  · rw [if_pos hlt]
    have hd : decide ((2305843009213693951 : Int) ≤ ((a + b : Nat) : Int)) = false := by simp; omega
    generalize a + b = s at *
    clear hlt h
    go_enter Tryz.func67, Tryz.ntmps67
    go_wp2
    go_ret
    exact ⟨rfl, rfl⟩
  · rw [if_neg hlt]
    have hd : decide ((2305843009213693951 : Int) ≤ ((a + b : Nat) : Int)) = true := by simp; omega
    have hu : IntKind.u64.wrap (((a + b : Nat) : Int) - 2305843009213693951) = ((a + b - 2305843009213693951 : Nat) : Int) := by rw [IntKind.wrap_u64]; omega
    generalize a + b - 2305843009213693951 = r at *
    generalize a + b = s at *
    clear hlt h
    go_enter Tryz.func67, Tryz.ntmps67
    go_wp2
    go_ret
    exact ⟨rfl, rfl⟩

set_option maxHeartbeats 400000 in
set_option maxRecDepth 100000 in
theorem times_any (a b : Nat) (w : World) (ha : a < 2305843009213693951) (hb : b < 2305843009213693951) :
    Calls Tryz.prog 68 #[.int .u64 (a : Int), .int .u64 (b : Int)] w fun e w' => e = .returned (.int .u64 ((a * b % 2305843009213693951 : Nat) : Int)) ∧ w' = w := by
  obtain ⟨x, hx⟩ : ∃ x, x = a * b := ⟨_, rfl⟩
  have hlt := prod_lt ha hb
  have hm := mul64_any a b w (by omega) (by omega)
  rw [← hx] at hlt hm ⊢
  have hp := plus_any (x / 2305843009213693952) (x % 2305843009213693952) w (by omega)
  rw [fold61 hlt] at hp
  have ho := fold_or hlt
  have hn := and61 (n := x % 18446744073709551616) (by omega)
  have hn2 : x % 18446744073709551616 % 2305843009213693952 = x % 2305843009213693952 := by omega
  rw [hn2] at hn
  rw [← ho, ← hn] at hp
  generalize x % 2305843009213693951 = r at *
  generalize x / 18446744073709551616 = hi at *
  generalize x % 18446744073709551616 = lo at *
  have HM := Lib.hid hm
  have HP := Lib.hid hp
  clear hm hlt ho hn hn2 hx ha hb hp
  go_enter Tryz.func68, Tryz.ntmps68
  go_wp2_with fail
  refine HM.out.mono ?_
  rintro e w1 ⟨rfl, rfl⟩
  go_wp2_with fail
  refine HP.out.mono ?_
  rintro e w2 ⟨rfl, rfl⟩
  go_wp2
  go_ret
  exact ⟨rfl, rfl⟩

theorem and1 {n : Nat} (h : n < 18446744073709551616) : bits .and .u64 (n : Int) 1 = ((n % 2 : Nat) : Int) := by
  have := u64_and_nat n 1 h (by omega)
  rw [Nat.and_one_is_mod] at this
  exact this

end Go.Proofs.YtaijldcfoaeogaaGreat
