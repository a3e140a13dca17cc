/- The contracts of the functions of package check, over any world: shift, feed, Of, appendSum, sumOf, Seal, Open. -/
import Derived.Test.YtkfnjekeegebaaaClone
import Derived.Test.YtkfnjekeegebaaaRdT
import Derived.Test.YtkfnjekeegebaaaCheckBytes
import Derived.Laws.BitsAllLaws
import Derived.Lib.EndianBits
import Derived.Deep.QuietTactic
import Derived.BigQuiet
namespace Go.Proofs.Ytkfnjekeegebaaa
open Go.RowKit

theorem Below.drewN' {B : Nat} {a w : World} (h : Below B a w) (n : Nat) : Below B a (w.drewN n) := ⟨h.os, h.tape, h.output, h.size, h.block⟩

theorem step_u32 {x : Nat} (hx : x < 4294967296) : bits .xor .u32 ((x : Int) / 2) (bits .and .u32 3945912366 (-bits .and .u32 (x : Int) 1 % 4294967296)) = ((cStep x : Nat) : Int) := by
  have h1 : bits .and .u32 (x : Int) 1 = ((x % 2 : Nat) : Int) := by
    have := u32_and_nat x 1 hx (by omega)
    rw [Nat.and_one_is_mod] at this
    exact this
  have hd : (x : Int) / 2 = ((x / 2 : Nat) : Int) := by omega
  rw [h1, hd]
  have h2 : x % 2 = 0 ∨ x % 2 = 1 := by omega
  unfold cStep
  rcases h2 with h2 | h2
  · rw [h2, if_neg (by omega)]
    have h3 : bits .and .u32 3945912366 (-((0 : Nat) : Int) % 4294967296) = ((0 : Nat) : Int) := u32_and_nat 3945912366 0 (by omega) (by omega)
    rw [h3, u32_xor_nat _ _ (by omega) (by omega), Nat.xor_zero]
  · rw [h2, if_pos rfl]
    have h3 : bits .and .u32 3945912366 (-((1 : Nat) : Int) % 4294967296) = ((3945912366 : Nat) : Int) := u32_and_nat 3945912366 4294967295 (by omega) (by omega)
    rw [h3, u32_xor_nat _ _ (by omega) (by omega)]

theorem cSteps_next {j : Nat} (h : j < 8) (x : Nat) : cSteps (8 - j) x = cSteps (8 - (j + 1)) (cStep x) := by
  obtain ⟨k, hk⟩ : ∃ k, 8 - j = k + 1 := ⟨7 - j, by omega⟩
  have hk' : 8 - (j + 1) = k := by omega
  rw [hk, hk']; rfl

set_option maxHeartbeats 400000 in
set_option maxRecDepth 100000 in
theorem shift_any (n : Nat) (w : World) (hn : n < 4294967296) :
    Calls Try.prog 52 #[.int .u32 (n : Int)] w fun e w' => e = .returned (.int .u32 ((cSteps 8 n : Nat) : Int)) ∧ w' = w := by
  go_enter Try.func52, Try.ntmps52
  go_wp2
  go_loopg [0, 3] 8 (fun k d i wr => ∃ j x : Nat, k = 8 - j ∧ j ≤ 8 ∧ i = .int .i64 (j : Int) ∧ d = .int .u32 (x : Int) ∧ x < 4294967296 ∧ cSteps (8 - j) x = cSteps 8 n ∧ wr = w)
  case atStart => exact ⟨0, n, rfl, Nat.zero_le _, rfl, rfl, hn, rfl, rfl⟩
  case round =>
    obtain ⟨j, x, hk, hj, rfl, rfl, hx, hs, rfl⟩ := hrel
    have HK := Lib.hid hk
    have HS := Lib.hid hs
    clear hk hs
    by_cases hlt : j < 8
    · go_wp2
      go_roundg (8 - (j + 1))
      case measure => have := HK.out; omega
      case rel => exact ⟨j + 1, cStep x, rfl, by omega, by go_num, by rw [step_u32 hx], cStep_lt hx, by rw [← cSteps_next hlt]; exact HS.out, rfl⟩
    · have : j = 8 := by omega
      subst this
      go_wp2
      go_ret
      have := HS.out
      exact ⟨by rw [← this]; rfl, rfl⟩

theorem cState_byte (n : Nat) {c : Nat} (hc : c < 256) : cState n [c] = cSteps 8 (n ^^^ c) := by
  have : cState n [c] = cBits n (nBits 8 c) := by simp [cState, bitsOf]
  rw [this, cBits_nBits 8 n c (by omega)]

theorem cState_take {n j : Nat} {l : List Nat} (hb : ∀ x ∈ l, x < 256) (hj : j < l.length) : cState n (l.take (j + 1)) = cSteps 8 (cState n (l.take j) ^^^ l.getD j 0) := by
  rw [List.take_succ_eq_append_getElem hj, cState_append, cState_byte _ (hb _ (List.getElem_mem hj))]
  simp [List.getD, hj]

set_option maxHeartbeats 400000 in
set_option maxRecDepth 100000 in
theorem feed_any (n : Nat) (a : Option Addr) (m c : Nat) (l : List Nat) (w : World) (hn : n < 4294967296) (h : Rd w a m l) (hm : m ≤ 3000000) :
    Calls Try.prog 43 #[.int .u32 (n : Int), .slice a m c] w fun e w' => e = .returned (.int .u32 ((cState n l : Nat) : Int)) ∧ w' = w := by
  have HR := Lib.hid h
  clear h
  go_enter Try.func43, Try.ntmps43
  go_wp2
  go_loopg [0, 9] m (fun k d i wr => ∃ j x : Nat, k = m - j ∧ j ≤ m ∧ i = .int .i64 (j : Int) ∧ d = .int .u32 (x : Int) ∧ x < 4294967296 ∧ x = cState n (l.take j) ∧ wr = w)
  case atStart => exact ⟨0, n, rfl, Nat.zero_le _, rfl, rfl, hn, by simp [cState, bitsOf, cBits], rfl⟩
  case round =>
    obtain ⟨j, x, hk, hj, rfl, rfl, hx, hs, rfl⟩ := hrel
    have HK := Lib.hid hk
    have HS := Lib.hid hs
    clear hk hs
    by_cases hlt : j < m
    · obtain ⟨b, o, rfl, hc⟩ := HR.out.2.2 (by omega)
      have hcell := hc j hlt
      have hl := HR.out.1
      have hy : l.getD j 0 < 256 := HR.out.2.1 _ (by simp [List.getD, show j < l.length by omega])
      obtain ⟨y, hye⟩ : ∃ y, y = l.getD j 0 := ⟨_, rfl⟩
      rw [← hye] at hcell hy
      have HY := Lib.hid hye
      have HL := Lib.hid hl
      have hxor : bits .xor .u32 (x : Int) (y : Int) = ((x ^^^ y : Nat) : Int) := u32_xor_nat x y hx (by omega)
      have hlt2 : x ^^^ y < 4294967296 := Nat.xor_lt_two_pow (n := 32) hx (by omega)
      clear hye hl hc
      have HSH := Lib.hid (shift_any (x ^^^ y) wr hlt2)
      rw [← hxor] at HSH
      have HX := Lib.hid hxor
      have HLT := Lib.hid hlt2
      clear hxor hlt2
      go_wp2_with fail
      refine HSH.out.mono ?_
      rintro e w1 ⟨rfl, rfl⟩
      go_wp2
      go_roundg (m - (j + 1))
      case measure => have := HK.out; omega
      case rel => exact ⟨j + 1, cSteps 8 (x ^^^ y), rfl, by omega, by go_num, rfl, cSteps_lt 8 HLT.out, by rw [cState_take HR.out.2.1 (by have := HL.out; omega), ← HS.out, ← HY.out], rfl⟩
    · have : j = m := by omega
      subst this
      go_wp2
      go_ret
      have h1 := HS.out
      rw [List.take_of_length_le (by have := HR.out.1; omega)] at h1
      exact ⟨by rw [← h1]; rfl, rfl⟩


theorem xor_ones {x : Nat} (h : x < 4294967296) : 4294967295 ^^^ x = 4294967295 - x := by
  apply Nat.eq_of_testBit_eq
  intro i
  have e1 : 4294967295 - x = 2 ^ 32 - (x + 1) := by omega
  have e2 : (4294967295 : Nat) = 2 ^ 32 - 1 := rfl
  rw [Nat.testBit_xor, e1, Nat.testBit_two_pow_sub_succ (by omega), e2, Nat.testBit_two_pow_sub_one]
  by_cases hi : i < 32
  · simp [hi]
  · have : x.testBit i = false := Nat.testBit_lt_two_pow (Nat.lt_of_lt_of_le h (by
      have : (2 : Nat) ^ 32 ≤ 2 ^ i := Nat.pow_le_pow_right (by omega) (by omega)
      omega))
    simp [hi, this]

theorem not_u32 {x : Nat} (h : x < 4294967296) : bits .xor .u32 IntKind.u32.max (x : Int) = ((4294967295 - x : Nat) : Int) := by
  have := u32_xor_nat 4294967295 x (by omega) h
  rw [xor_ones h] at this
  exact this

theorem cState_rows {n j : Nat} {T : List (List Nat)} (hj : j < T.length) : cState n (T.take (j + 1)).flatten = cState (cState n (T.take j).flatten) (T.getD j []) := by
  rw [take_snocT hj, List.flatten_append, cState_append]; simp

set_option maxHeartbeats 400000 in
set_option maxRecDepth 100000 in
theorem chk_any (ua : Option Addr) (un uc : Nat) (T : List (List Nat)) (w : World) (h : RdT w ua un T) (hm : un ≤ 1000) (h5 : ∀ t ∈ T, t.length ≤ 3000000) :
    Calls Try.prog 30 #[.slice ua un uc] w fun e w' => e = .returned (.int .u32 ((cSum T.flatten : Nat) : Int)) ∧ w' = w := by
  have HT := Lib.hid h
  have H5 := Lib.hid h5
  clear h h5
  go_enter Try.func30, Try.ntmps30
  go_wp2
  go_loopg [3, 8] un (fun k d i wr => ∃ j x : Nat, k = un - j ∧ j ≤ un ∧ i = .int .i64 (j : Int) ∧ d = .int .u32 (x : Int) ∧ x < 4294967296 ∧ x = cState 4294967295 (T.take j).flatten ∧ wr = w)
  case atStart => exact ⟨0, 4294967295, rfl, Nat.zero_le _, rfl, rfl, by omega, by simp [cState, bitsOf, cBits], rfl⟩
  case round =>
    obtain ⟨j, x, hk, hj, rfl, rfl, hx, hs, rfl⟩ := hrel
    have HK := Lib.hid hk
    have HS := Lib.hid hs
    clear hk hs
    by_cases hlt : j < un
    · obtain ⟨tb, t0, aj, cj, rfl, hcell, hrj⟩ := HT.out.at_ (Below.refl _ _) hlt
      have hT := HT.out.1
      obtain ⟨t, hte⟩ : ∃ t, t = T.getD j [] := ⟨_, rfl⟩
      rw [← hte] at hcell hrj
      have ht5 : t.length ≤ 3000000 := by rw [hte]; exact H5.out _ (by simp [List.getD, show j < T.length by omega])
      have HF := Lib.hid (feed_any x aj t.length cj t wr hx hrj ht5)
      have HTE := Lib.hid hte
      have HTL := Lib.hid hT
      clear hte hT hrj ht5
      go_wp2_with fail
      refine HF.out.mono ?_
      rintro e w1 ⟨rfl, rfl⟩
      go_wp2
      go_roundg (un - (j + 1))
      case measure => have := HK.out; omega
      case rel => exact ⟨j + 1, cState x t, rfl, by omega, by go_num, rfl, cState_lt hx t, by rw [cState_rows (by have := HTL.out; omega), ← HS.out, ← HTE.out], rfl⟩
    · have : j = un := by omega
      subst this
      go_wp2
      go_ret
      have h1 := HS.out
      rw [List.take_of_length_le (by have := HT.out.1; omega)] at h1
      refine ⟨?_, rfl⟩
      unfold cSum
      rw [← h1]
      exact congrArg (fun z : Int => Ending.returned (.int .u32 z)) (not_u32 hx)

/-- A checksum's four bytes, and what four bytes come to. -/
def sumB (N : Nat) : List Nat := [N % 256, N / 256 % 256, N / 65536 % 256, N / 16777216]
def numB (l : List Nat) : Nat := l.getD 0 0 + l.getD 1 0 * 256 + l.getD 2 0 * 65536 + l.getD 3 0 * 16777216

theorem sumB_byte {N : Nat} (h : N < 4294967296) : ∀ x ∈ sumB N, x < 256 := by
  intro x hx
  simp only [sumB, List.mem_cons, List.not_mem_nil, or_false] at hx
  omega
theorem numB_sumB {N : Nat} : numB (sumB N) = N := by
  simp [numB, sumB, List.getD]; omega
theorem sumB_numB {l : List Nat} (h : l.length = 4) (hb : ∀ x ∈ l, x < 256) : sumB (numB l) = l := by
  match l, h with
  | [a, b, c, d], _ =>
    have h1 := hb a (by simp)
    have h2 := hb b (by simp)
    have h3 := hb c (by simp)
    have h4 := hb d (by simp)
    simp [numB, sumB, List.getD]; omega
theorem numB_lt {l : List Nat} (h : l.length = 4) (hb : ∀ x ∈ l, x < 256) : numB l < 4294967296 := by
  match l, h with
  | [a, b, c, d], _ =>
    have h1 := hb a (by simp)
    have h2 := hb b (by simp)
    have h3 := hb c (by simp)
    have h4 := hb d (by simp)
    simp [numB, List.getD]; omega

theorem rd_sumB (w : World) {N : Nat} (hN : N < 4294967296) : Rd (w.alloc (.cells #[.int .u8 ((N : Int) % 256), .int .u8 ((N : Int) / 256 % 256), .int .u8 ((N : Int) / 65536 % 256), .int .u8 ((N : Int) / 16777216)] 5)) (some ⟨w.heap.size, 0, none⟩) 4 (sumB N) :=
  rd_new w (sumB N) (sumB_byte hN)

theorem or_bytes {x0 x1 x2 x3 : Nat} (h0 : x0 < 256) (h1 : x1 < 256) (h2 : x2 < 256) (h3 : x3 < 256) :
    bits .or .u32 (bits .or .u32 (bits .or .u32 (x0 : Int) ((x1 : Int) * 256)) ((x2 : Int) * 65536)) ((x3 : Int) * 16777216) = ((numB [x0, x1, x2, x3] : Nat) : Int) := by
  have e1 : bits .or .u32 (x0 : Int) ((x1 : Int) * 256) = (x0 : Int) + (x1 : Int) * 256 := u32_or8 _ _ (by omega) (by omega) (by omega) (by omega) (by omega)
  have e2 : bits .or .u32 ((x0 : Int) + (x1 : Int) * 256) ((x2 : Int) * 65536) = (x0 : Int) + (x1 : Int) * 256 + (x2 : Int) * 65536 := u32_or16 _ _ (by omega) (by omega) (by omega) (by omega) (by omega)
  have e3 : bits .or .u32 ((x0 : Int) + (x1 : Int) * 256 + (x2 : Int) * 65536) ((x3 : Int) * 16777216) = (x0 : Int) + (x1 : Int) * 256 + (x2 : Int) * 65536 + (x3 : Int) * 16777216 := u32_or24 _ _ (by omega) (by omega) (by omega) (by omega) (by omega)
  rw [e1, e2, e3]
  simp [numB, List.getD]

set_option maxHeartbeats 400000 in
set_option maxRecDepth 100000 in
theorem appendSum_any (v : Value) (base N : Nat) (l : List Nat) (w : World) (h : Own w base v l) (hbase : base ≤ w.heap.size) (hN : N < 4294967296) (hn : l.length ≤ 2000000) :
    Calls Try.prog 28 #[v, .int .u32 (N : Int)] w fun e w' => ∃ v', e = .returned v' ∧ Own w' base v' (l ++ sumB N) ∧ Below base w w' := by
  have HO := Lib.hid h
  clear h
  go_enter Try.func28, Try.ntmps28
  go_wp2_with (at_builtin; refine wpList_append_rd rfl (.tmp 5) (.tmp 17) rfl _ rfl _ 4 4 rfl base l (HO.out.alloc _) (by simp; omega) (sumB N) ?hr (by omega) ?next)
  case hr => exact rd_sumB w hN
  case next =>
    intro v' w' ho hb
    have HO' := Lib.hid ho
    have HB' := Lib.hid hb
    clear ho hb
    go_wp2
    go_ret
    exact ⟨_, rfl, HO'.out, ((Below.refl _ _).alloc hbase _).trans HB'.out⟩

set_option maxHeartbeats 400000 in
set_option maxRecDepth 100000 in
theorem sumOf_any (a : Option Addr) (c : Nat) (l : List Nat) (w : World) (h : Rd w a 4 l) :
    Calls Try.prog 37 #[.slice a 4 c] w fun e w' => e = .returned (.int .u32 ((numB l : Nat) : Int)) ∧ ∃ m, w' = w.drewN m := by
  obtain ⟨hl, hby, hc⟩ := h
  obtain ⟨b, o, rfl, hc'⟩ := hc (by omega)
  clear hc
  match l, hl with
  | [x0, x1, x2, x3], _ =>
    have h0 := hby x0 (by simp)
    have h1 := hby x1 (by simp)
    have h2 := hby x2 (by simp)
    have h3 := hby x3 (by simp)
    have c0 : w.cell? ⟨b, o, none⟩ = some (.int .u8 (x0 : Int)) := hc' 0 (by omega)
    have c1 : w.cell? ⟨b, o + 1, none⟩ = some (.int .u8 (x1 : Int)) := hc' 1 (by omega)
    have c2 : w.cell? ⟨b, o + 2, none⟩ = some (.int .u8 (x2 : Int)) := hc' 2 (by omega)
    have c3 : w.cell? ⟨b, o + 3, none⟩ = some (.int .u8 (x3 : Int)) := hc' 3 (by omega)
    clear hc' hby
    go_enter Try.func37, Try.ntmps37
    go_wp2_with fail
    go_quiet (fail)
    go_wp2
    go_ret
    exact ⟨congrArg (fun z : Int => Ending.returned (.int .u32 z)) (or_bytes h0 h1 h2 h3), nq, rfl⟩

theorem rdT_one {w : World} {a : Option Addr} {n c : Nat} {l : List Nat} (h : Rd w a n l) (ty : TypeId) : RdT (w.alloc (.cells #[.slice a n c] ty)) (some ⟨w.heap.size, 0, none⟩) 1 [l] := by
  refine ⟨rfl, fun _ => ⟨w.heap.size, 0, rfl, fun j hj => ?_⟩⟩
  obtain rfl : j = 0 := by omega
  refine ⟨a, c, ?_, ?_⟩
  · rw [World.cell?_alloc_new]
    simp [h.1]
  · have := h.later (Below.alloc0 w (.cells #[.slice a n c] ty))
    simp only [List.getD_cons_zero, h.1]
    exact this

theorem rdT_three {w : World} {a a1 a2 : Option Addr} {n c n1 c1 n2 c2 : Nat} {l l1 l2 : List Nat} (h : Rd w a n l) (h1 : Rd w a1 n1 l1) (h2 : Rd w a2 n2 l2) (ty : TypeId) :
    RdT (w.alloc (.cells #[.slice a n c, .slice a1 n1 c1, .slice a2 n2 c2] ty)) (some ⟨w.heap.size, 0, none⟩) 3 [l, l1, l2] := by
  refine ⟨rfl, fun _ => ⟨w.heap.size, 0, rfl, fun j hj => ?_⟩⟩
  have hb := Below.alloc0 w (.cells #[.slice a n c, .slice a1 n1 c1, .slice a2 n2 c2] ty)
  match j, hj with
  | 0, _ =>
    refine ⟨a, c, ?_, ?_⟩
    · rw [World.cell?_alloc_new]; simp [h.1]
    · simp only [List.getD_cons_zero, h.1]; exact h.later hb
  | 1, _ =>
    refine ⟨a1, c1, ?_, ?_⟩
    · rw [World.cell?_alloc_new]; simp [h1.1]
    · simp only [List.getD_cons_zero, List.getD_cons_succ, h1.1]; exact h1.later hb
  | 2, _ =>
    refine ⟨a2, c2, ?_, ?_⟩
    · rw [World.cell?_alloc_new]; simp [h2.1]
    · simp only [List.getD_cons_zero, List.getD_cons_succ, h2.1]; exact h2.later hb

/-- Of of one slice. -/
theorem of_one {w : World} {a : Option Addr} {n c : Nat} {l : List Nat} (h : Rd w a n l) (hn : n ≤ 3000000) (ty : TypeId) :
    Calls Try.prog 30 #[.slice (some ⟨w.heap.size, 0, none⟩) 1 1] (w.alloc (.cells #[.slice a n c] ty)) fun e w' => e = .returned (.int .u32 ((cSum l : Nat) : Int)) ∧ w' = w.alloc (.cells #[.slice a n c] ty) := by
  refine (chk_any _ 1 1 [l] _ (rdT_one h ty) (by omega) ?_).mono ?_
  · intro t ht
    simp only [List.mem_singleton] at ht
    subst ht
    rw [h.1]; exact hn
  · rintro e w' ⟨rfl, rfl⟩
    simp

set_option maxHeartbeats 400000 in
set_option maxRecDepth 100000 in
theorem seal_any (a : Option Addr) (n c : Nat) (l : List Nat) (w : World) (h : Rd w a n l) (hn : n ≤ 1000000) :
    Calls Try.prog 12 #[.slice a n c] w fun e w' => ∃ v, e = .returned v ∧ Own w' w.heap.size v (l ++ sumB (cSum l)) ∧ Below w.heap.size w w' := by
  have HR := Lib.hid h
  clear h
  go_enter Try.func12, Try.ntmps12
  go_wp2_with fail
  refine (clone_any a n c l w HR.out hn).mono ?_
  rintro e w1 ⟨v, rfl, ho, hb⟩
  have HO := Lib.hid ho
  have HB := Lib.hid hb
  clear ho hb
  go_wp2_with fail
  refine (of_one (HR.out.later HB.out) (by omega) 26).mono ?_
  rintro e w2 ⟨rfl, rfl⟩
  go_wp2_with fail
  refine (appendSum_any v w.heap.size (cSum l) l _ (HO.out.alloc _) (by have := HB.out.size; simp; omega) (cSum_lt l) (by rw [HR.out.1]; omega)).mono ?_
  rintro e w3 ⟨v3, rfl, ho3, hb3⟩
  have HO3 := Lib.hid ho3
  have HB3 := Lib.hid hb3
  clear ho3 hb3
  go_wp2
  go_ret
  exact ⟨_, rfl, HO3.out, (HB.out.alloc HB.out.size _).trans HB3.out⟩

/-- Are the bytes sealed ones? -/
def Sealed (l : List Nat) : Prop := 4 ≤ l.length ∧ cSum (l.take (l.length - 4)) = numB (l.drop (l.length - 4))

set_option maxHeartbeats 400000 in
set_option maxRecDepth 100000 in
theorem chkOpen_any (a : Option Addr) (n c : Nat) (l : List Nat) (w : World) (h : Rd w a n l) (hn : n ≤ 1000000) (hc : n ≤ c) :
    Calls Try.prog 21 #[.slice a n c] w fun e w' => Below w.heap.size w w' ∧ ((¬ Sealed l ∧ e = .returned (.tuple #[.slice none 0 0, .bool false])) ∨ (Sealed l ∧ ∃ v, e = .returned (.tuple #[v, .bool true]) ∧ Own w' w.heap.size v (l.take (n - 4)))) := by
  have HR := Lib.hid h
  clear h
  by_cases h4 : n < 4
  · have h4' : (n : Int) < 4 := by omega
    go_enter Try.func21, Try.ntmps21
    go_wp2
    go_ret2
    exact ⟨Below.refl _ _, .inl ⟨fun hs => by have := hs.1; rw [HR.out.1] at this; omega, rfl⟩⟩
  · have h4' : 4 ≤ (n : Int) := by omega
    have HB := Lib.hid (HR.out.first (k := n - 4) (by omega))
    have HS := Lib.hid (HR.out.cut (k := n - 4) (by omega) hc)
    have e4 : n - (n - 4) = 4 := by omega
    rw [e4] at HS
    unfold cutA at HS
    rw [if_neg (by omega)] at HS
    have HL := Lib.hid HR.out.1
    have hbody : (l.take (n - 4)).length = n - 4 := HB.out.1
    obtain ⟨s, hs⟩ : ∃ s, s = numB (l.drop (n - 4)) := ⟨_, rfl⟩
    have hslt : s < 4294967296 := by rw [hs]; exact numB_lt HS.out.1 HS.out.2.1
    obtain ⟨q, hq⟩ : ∃ q, q = cSum (l.take (n - 4)) := ⟨_, rfl⟩
    have HQ := Lib.hid hq
    have HSE := Lib.hid hs
    have HE4 := Lib.hid e4
    have hiff : Sealed l ↔ q = s := by
      unfold Sealed
      rw [HL.out, hq, hs]
      exact ⟨fun h => h.2, fun h => ⟨by omega, h⟩⟩
    have HI := Lib.hid hiff
    clear hs hq e4 hbody hiff
    go_enter Try.func21, Try.ntmps21
    go_wp2_with fail
    go_quiet (fail)
    go_wp2_with fail
    rw [HE4.out]
    have HB0 : Hid (Rd (w.drewN nq) a (n - 4) (l.take (n - 4))) := HB.out
    refine (of_one HB0.out (by omega) 26).mono ?_
    rintro e w2 ⟨rfl, rfl⟩
    rw [← HQ.out]
    have hb2 : Below w.heap.size w ((w.drewN nq).alloc (.cells #[.slice a (n - 4) c] 26)) := (Below.drewN' (Below.refl _ w) nq).alloc (Nat.le_refl _) _
    have HB2 := Lib.hid hb2
    clear hb2
    obtain ⟨w2, hw2⟩ : ∃ w2, w2 = (w.drewN nq).alloc (.cells #[.slice a (n - 4) c] 26) := ⟨_, rfl⟩
    rw [← hw2] at HB2 ⊢
    clear hw2
    go_wp2_with fail
    refine (sumOf_any _ _ _ w2 (HS.out.later HB2.out)).mono ?_
    rintro e w3 ⟨rfl, m, rfl⟩
    rw [← HSE.out]
    by_cases hqs : q = s
    · have hqs' : ((q : Int) != (s : Int)) = false := by simp [hqs]
      have HQS := Lib.hid hqs
      clear hqs
      go_wp2_with fail
      have HB3 : Hid (Rd (w2.drewN m) a (n - 4) (l.take (n - 4))) := HB.out.later (Below.drewN' HB2.out m)
      refine (clone_any a (n - 4) c _ _ HB3.out (by omega)).mono ?_
      rintro e w4 ⟨v, rfl, ho, hb⟩
      have HO := Lib.hid ho
      have HB4 := Lib.hid hb
      clear ho hb
      go_wp2
      go_ret2
      exact ⟨(Below.drewN' HB2.out m).trans (HB4.out.mono HB2.out.size), .inr ⟨HI.out.2 HQS.out, v, rfl, HO.out.mono HB2.out.size⟩⟩
    · have hqs' : ((q : Int) != (s : Int)) = true := by simp; omega
      have HQS := Lib.hid hqs
      clear hqs
      go_wp2
      go_ret2
      exact ⟨Below.drewN' HB2.out m, .inl ⟨fun h => HQS.out (HI.out.1 h), rfl⟩⟩

end Go.Proofs.Ytkfnjekeegebaaa
