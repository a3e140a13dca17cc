/- The contracts of the functions of package check, over any world: shift, feed, Of, appendSum, sumOf, Seal, Open. -/
import Derived.Test.YtaijldcfoaeogaaGreatGRcDataToClone
import Derived.Test.YtaijldcfoaeogaaGreatGVPutToVBytes
import Derived.Test.YtaijldcfoaeogaaGreatGCheckMathToCheckBytes
import Derived.Laws.BitsAllLaws
import Derived.Lib.EndianBits
import Derived.Deep.QuietTactic
import Derived.BigQuiet
import Derived.Test.YtaijldcfoaeogaaGreatGMemToRcEq
import Derived.Test.YtaijldcfoaeogaaGreatMath
namespace Go.Proofs.YtaijldcfoaeogaaGreat
open Go.RowKit
set_option maxRecDepth 100000

theorem Below.drewN' {B : Nat} {a w : World} (h : Below B a w) (n : Nat) : Below B a (w.drewN n) := ⟨h.os, h.tape, h.output, h.size, h.block⟩

theorem step_u32 {x : Nat} (hx : x < 4294967296) : bits .xor .u32 ((x : Int) / 2) (bits .and .u32 3945912366 (-bits .and .u32 (x : Int) 1 % 4294967296)) = ((cStep x : Nat) : Int) := by
  have h1 : bits .and .u32 (x : Int) 1 = ((x % 2 : Nat) : Int) := by
    have := u32_and_nat x 1 hx (by omega)
    rw [Nat.and_one_is_mod] at this
    exact this
  have hd : (x : Int) / 2 = ((x / 2 : Nat) : Int) := by omega
  rw [h1, hd]
  have h2 : x % 2 = 0 ∨ x % 2 = 1 := by omega
  unfold cStep
  rcases h2 with h2 | h2
  · rw [h2, if_neg (by omega)]
    have h3 : bits .and .u32 3945912366 (-((0 : Nat) : Int) % 4294967296) = ((0 : Nat) : Int) := u32_and_nat 3945912366 0 (by omega) (by omega)
    rw [h3, u32_xor_nat _ _ (by omega) (by omega), Nat.xor_zero]
  · rw [h2, if_pos rfl]
    have h3 : bits .and .u32 3945912366 (-((1 : Nat) : Int) % 4294967296) = ((3945912366 : Nat) : Int) := u32_and_nat 3945912366 4294967295 (by omega) (by omega)
    rw [h3, u32_xor_nat _ _ (by omega) (by omega)]

theorem cSteps_next {j : Nat} (h : j < 8) (x : Nat) : cSteps (8 - j) x = cSteps (8 - (j + 1)) (cStep x) := by
  obtain ⟨k, hk⟩ : ∃ k, 8 - j = k + 1 := ⟨7 - j, by omega⟩
  have hk' : 8 - (j + 1) = k := by omega
  rw [hk, hk']; rfl

set_option maxHeartbeats 400000 in
set_option maxRecDepth 100000 in
theorem shift_any (n : Nat) (w : World) (hn : n < 4294967296) :
    Calls Tryz.prog 99 #[.int .u32 (n : Int)] w fun e w' => e = .returned (.int .u32 ((cSteps 8 n : Nat) : Int)) ∧ w' = w := by
  go_enter Tryz.func99, Tryz.ntmps99
  go_wp2
  go_loopg [0, 3] 8 (fun k d i wr => ∃ j x : Nat, k = 8 - j ∧ j ≤ 8 ∧ i = .int .i64 (j : Int) ∧ d = .int .u32 (x : Int) ∧ x < 4294967296 ∧ cSteps (8 - j) x = cSteps 8 n ∧ wr = w)
  case atStart => exact ⟨0, n, rfl, Nat.zero_le _, rfl, rfl, hn, rfl, rfl⟩
  case round =>
    obtain ⟨j, x, hk, hj, rfl, rfl, hx, hs, rfl⟩ := hrel
    have HK := Lib.hid hk
    have HS := Lib.hid hs
    clear hk hs
    by_cases hlt : j < 8
    · go_wp2
      go_roundg (8 - (j + 1))
      case measure => have := HK.out; omega
      case rel => exact ⟨j + 1, cStep x, rfl, by omega, by go_num, by rw [step_u32 hx], cStep_lt hx, by rw [← cSteps_next hlt]; exact HS.out, rfl⟩
    · have : j = 8 := by omega
      subst this
      go_wp2
      go_ret
      have := HS.out
      exact ⟨by rw [← this]; rfl, rfl⟩

theorem cState_byte (n : Nat) {c : Nat} (hc : c < 256) : cState n [c] = cSteps 8 (n ^^^ c) := by
  have : cState n [c] = cBits n (nBits 8 c) := by simp [cState, bitsOf]
  rw [this, cBits_nBits 8 n c (by omega)]

theorem cState_take {n j : Nat} {l : List Nat} (hb : ∀ x ∈ l, x < 256) (hj : j < l.length) : cState n (l.take (j + 1)) = cSteps 8 (cState n (l.take j) ^^^ l.getD j 0) := by
  rw [List.take_succ_eq_append_getElem hj, cState_append, cState_byte _ (hb _ (List.getElem_mem hj))]
  simp [List.getD, hj]

set_option maxHeartbeats 400000 in
set_option maxRecDepth 100000 in
theorem feed_any (n : Nat) (a : Option Addr) (m c : Nat) (l : List Nat) (w : World) (hn : n < 4294967296) (h : Rd w a m l) (hm : m ≤ 3000000) :
    Calls Tryz.prog 94 #[.int .u32 (n : Int), .slice a m c] w fun e w' => e = .returned (.int .u32 ((cState n l : Nat) : Int)) ∧ w' = w := by
  have HR := Lib.hid h
  clear h
  go_enter Tryz.func94, Tryz.ntmps94
  go_wp2
  go_loopg [0, 9] m (fun k d i wr => ∃ j x : Nat, k = m - j ∧ j ≤ m ∧ i = .int .i64 (j : Int) ∧ d = .int .u32 (x : Int) ∧ x < 4294967296 ∧ x = cState n (l.take j) ∧ wr = w)
  case atStart => exact ⟨0, n, rfl, Nat.zero_le _, rfl, rfl, hn, by simp [cState, bitsOf, cBits], rfl⟩
  case round =>
    obtain ⟨j, x, hk, hj, rfl, rfl, hx, hs, rfl⟩ := hrel
    have HK := Lib.hid hk
    have HS := Lib.hid hs
    clear hk hs
    by_cases hlt : j < m
    · obtain ⟨b, o, rfl, hc⟩ := HR.out.2.2 (by omega)
      have hcell := hc j hlt
      have hl := HR.out.1
      have hy : l.getD j 0 < 256 := HR.out.2.1 _ (by simp [List.getD, show j < l.length by omega])
      obtain ⟨y, hye⟩ : ∃ y, y = l.getD j 0 := ⟨_, rfl⟩
      rw [← hye] at hcell hy
      have HY := Lib.hid hye
      have HL := Lib.hid hl
      have hxor : bits .xor .u32 (x : Int) (y : Int) = ((x ^^^ y : Nat) : Int) := u32_xor_nat x y hx (by omega)
      have hlt2 : x ^^^ y < 4294967296 := Nat.xor_lt_two_pow (n := 32) hx (by omega)
      clear hye hl hc
      have HSH := Lib.hid (shift_any (x ^^^ y) wr hlt2)
      rw [← hxor] at HSH
      have HX := Lib.hid hxor
      have HLT := Lib.hid hlt2
      clear hxor hlt2
      go_wp2_with fail
      refine HSH.out.mono ?_
      rintro e w1 ⟨rfl, rfl⟩
      go_wp2
      go_roundg (m - (j + 1))
      case measure => have := HK.out; omega
      case rel => exact ⟨j + 1, cSteps 8 (x ^^^ y), rfl, by omega, by go_num, rfl, cSteps_lt 8 HLT.out, by rw [cState_take HR.out.2.1 (by have := HL.out; omega), ← HS.out, ← HY.out], rfl⟩
    · have : j = m := by omega
      subst this
      go_wp2
      go_ret
      have h1 := HS.out
      rw [List.take_of_length_le (by have := HR.out.1; omega)] at h1
      exact ⟨by rw [← h1]; rfl, rfl⟩


theorem xor_ones {x : Nat} (h : x < 4294967296) : 4294967295 ^^^ x = 4294967295 - x := by
  apply Nat.eq_of_testBit_eq
  intro i
  have e1 : 4294967295 - x = 2 ^ 32 - (x + 1) := by omega
  have e2 : (4294967295 : Nat) = 2 ^ 32 - 1 := rfl
  rw [Nat.testBit_xor, e1, Nat.testBit_two_pow_sub_succ (by omega), e2, Nat.testBit_two_pow_sub_one]
  by_cases hi : i < 32
  · simp [hi]
  · have : x.testBit i = false := Nat.testBit_lt_two_pow (Nat.lt_of_lt_of_le h (by
      have : (2 : Nat) ^ 32 ≤ 2 ^ i := Nat.pow_le_pow_right (by omega) (by omega)
      omega))
    simp [hi, this]

theorem not_u32 {x : Nat} (h : x < 4294967296) : bits .xor .u32 IntKind.u32.max (x : Int) = ((4294967295 - x : Nat) : Int) := by
  have := u32_xor_nat 4294967295 x (by omega) h
  rw [xor_ones h] at this
  exact this

theorem cState_rows {n j : Nat} {T : List (List Nat)} (hj : j < T.length) : cState n (T.take (j + 1)).flatten = cState (cState n (T.take j).flatten) (T.getD j []) := by
  rw [take_snocT hj, List.flatten_append, cState_append]; simp

set_option maxHeartbeats 400000 in
set_option maxRecDepth 100000 in
theorem chk_any (ua : Option Addr) (un uc : Nat) (T : List (List Nat)) (w : World) (h : RdT w ua un T) (hm : un ≤ 1000) (h5 : ∀ t ∈ T, t.length ≤ 3000000) :
    Calls Tryz.prog 82 #[.slice ua un uc] w fun e w' => e = .returned (.int .u32 ((cSum T.flatten : Nat) : Int)) ∧ w' = w := by
  have HT := Lib.hid h
  have H5 := Lib.hid h5
  clear h h5
  go_enter Tryz.func82, Tryz.ntmps82
  go_wp2
  go_loopg [3, 8] un (fun k d i wr => ∃ j x : Nat, k = un - j ∧ j ≤ un ∧ i = .int .i64 (j : Int) ∧ d = .int .u32 (x : Int) ∧ x < 4294967296 ∧ x = cState 4294967295 (T.take j).flatten ∧ wr = w)
  case atStart => exact ⟨0, 4294967295, rfl, Nat.zero_le _, rfl, rfl, by omega, by simp [cState, bitsOf, cBits], rfl⟩
  case round =>
    obtain ⟨j, x, hk, hj, rfl, rfl, hx, hs, rfl⟩ := hrel
    have HK := Lib.hid hk
    have HS := Lib.hid hs
    clear hk hs
    by_cases hlt : j < un
    · obtain ⟨tb, t0, aj, cj, rfl, hcell, hrj⟩ := HT.out.at_ (Below.refl _ _) hlt
      have hT := HT.out.1
      obtain ⟨t, hte⟩ : ∃ t, t = T.getD j [] := ⟨_, rfl⟩
      rw [← hte] at hcell hrj
      have ht5 : t.length ≤ 3000000 := by rw [hte]; exact H5.out _ (by simp [List.getD, show j < T.length by omega])
      have HF := Lib.hid (feed_any x aj t.length cj t wr hx hrj ht5)
      have HTE := Lib.hid hte
      have HTL := Lib.hid hT
      clear hte hT hrj ht5
      go_wp2_with fail
      refine HF.out.mono ?_
      rintro e w1 ⟨rfl, rfl⟩
      go_wp2
      go_roundg (un - (j + 1))
      case measure => have := HK.out; omega
      case rel => exact ⟨j + 1, cState x t, rfl, by omega, by go_num, rfl, cState_lt hx t, by rw [cState_rows (by have := HTL.out; omega), ← HS.out, ← HTE.out], rfl⟩
    · have : j = un := by omega
      subst this
      go_wp2
      go_ret
      have h1 := HS.out
      rw [List.take_of_length_le (by have := HT.out.1; omega)] at h1
      refine ⟨?_, rfl⟩
      unfold cSum
      rw [← h1]
      exact congrArg (fun z : Int => Ending.returned (.int .u32 z)) (not_u32 hx)

/-- A checksum's four bytes, and what four bytes come to. -/
def sumB (N : Nat) : List Nat := [N % 256, N / 256 % 256, N / 65536 % 256, N / 16777216]
def numB (l : List Nat) : Nat := l.getD 0 0 + l.getD 1 0 * 256 + l.getD 2 0 * 65536 + l.getD 3 0 * 16777216

theorem sumB_byte {N : Nat} (h : N < 4294967296) : ∀ x ∈ sumB N, x < 256 := by
  intro x hx
  simp only [sumB, List.mem_cons, List.not_mem_nil, or_false] at hx
  omega
theorem numB_sumB {N : Nat} : numB (sumB N) = N := by
  simp [numB, sumB, List.getD]; omega
theorem sumB_numB {l : List Nat} (h : l.length = 4) (hb : ∀ x ∈ l, x < 256) : sumB (numB l) = l := by
  match l, h with
  | [a, b, c, d], _ =>
    have h1 := hb a (by simp)
    have h2 := hb b (by simp)
    have h3 := hb c (by simp)
    have h4 := hb d (by simp)
    simp [numB, sumB, List.getD]; omega
theorem numB_lt {l : List Nat} (h : l.length = 4) (hb : ∀ x ∈ l, x < 256) : numB l < 4294967296 := by
  match l, h with
  | [a, b, c, d], _ =>
    have h1 := hb a (by simp)
    have h2 := hb b (by simp)
    have h3 := hb c (by simp)
    have h4 := hb d (by simp)
    simp [numB, List.getD]; omega

theorem rd_sumB (w : World) {N : Nat} (hN : N < 4294967296) : Rd (w.alloc (.cells #[.int .u8 ((N : Int) % 256), .int .u8 ((N : Int) / 256 % 256), .int .u8 ((N : Int) / 65536 % 256), .int .u8 ((N : Int) / 16777216)] 5)) (some ⟨w.heap.size, 0, none⟩) 4 (sumB N) :=
  rd_new w (sumB N) (sumB_byte hN)

theorem or_bytes {x0 x1 x2 x3 : Nat} (h0 : x0 < 256) (h1 : x1 < 256) (h2 : x2 < 256) (h3 : x3 < 256) :
    bits .or .u32 (bits .or .u32 (bits .or .u32 (x0 : Int) ((x1 : Int) * 256)) ((x2 : Int) * 65536)) ((x3 : Int) * 16777216) = ((numB [x0, x1, x2, x3] : Nat) : Int) := by
  have e1 : bits .or .u32 (x0 : Int) ((x1 : Int) * 256) = (x0 : Int) + (x1 : Int) * 256 := u32_or8 _ _ (by omega) (by omega) (by omega) (by omega) (by omega)
  have e2 : bits .or .u32 ((x0 : Int) + (x1 : Int) * 256) ((x2 : Int) * 65536) = (x0 : Int) + (x1 : Int) * 256 + (x2 : Int) * 65536 := u32_or16 _ _ (by omega) (by omega) (by omega) (by omega) (by omega)
  have e3 : bits .or .u32 ((x0 : Int) + (x1 : Int) * 256 + (x2 : Int) * 65536) ((x3 : Int) * 16777216) = (x0 : Int) + (x1 : Int) * 256 + (x2 : Int) * 65536 + (x3 : Int) * 16777216 := u32_or24 _ _ (by omega) (by omega) (by omega) (by omega) (by omega)
  rw [e1, e2, e3]
  simp [numB, List.getD]

set_option maxHeartbeats 400000 in
set_option maxRecDepth 100000 in
theorem appendSum_any (v : Value) (base N : Nat) (l : List Nat) (w : World) (h : Own w base v l) (hbase : base ≤ w.heap.size) (hN : N < 4294967296) (hn : l.length ≤ 2000000) :
    Calls Tryz.prog 81 #[v, .int .u32 (N : Int)] w fun e w' => ∃ v', e = .returned v' ∧ Own w' base v' (l ++ sumB N) ∧ Below base w w' := by
  have HO := Lib.hid h
  clear h
  go_enter Tryz.func81, Tryz.ntmps81
  go_wp2_with (at_builtin; refine wpList_append_rd rfl (.tmp 5) (.tmp 17) rfl _ rfl _ 4 4 rfl base l (HO.out.alloc _) (by simp; omega) (sumB N) ?hr (by omega) ?next)
  case hr => exact rd_sumB w hN
  case next =>
    intro v' w' ho hb
    have HO' := Lib.hid ho
    have HB' := Lib.hid hb
    clear ho hb
    go_wp2
    go_ret
    exact ⟨_, rfl, HO'.out, ((Below.refl _ _).alloc hbase _).trans HB'.out⟩

set_option maxHeartbeats 400000 in
set_option maxRecDepth 100000 in
theorem sumOf_any (a : Option Addr) (c : Nat) (l : List Nat) (w : World) (h : Rd w a 4 l) :
    Calls Tryz.prog 90 #[.slice a 4 c] w fun e w' => e = .returned (.int .u32 ((numB l : Nat) : Int)) ∧ ∃ m, w' = w.drewN m := by
  obtain ⟨hl, hby, hc⟩ := h
  obtain ⟨b, o, rfl, hc'⟩ := hc (by omega)
  clear hc
  match l, hl with
  | [x0, x1, x2, x3], _ =>
    have h0 := hby x0 (by simp)
    have h1 := hby x1 (by simp)
    have h2 := hby x2 (by simp)
    have h3 := hby x3 (by simp)
    have c0 : w.cell? ⟨b, o, none⟩ = some (.int .u8 (x0 : Int)) := hc' 0 (by omega)
    have c1 : w.cell? ⟨b, o + 1, none⟩ = some (.int .u8 (x1 : Int)) := hc' 1 (by omega)
    have c2 : w.cell? ⟨b, o + 2, none⟩ = some (.int .u8 (x2 : Int)) := hc' 2 (by omega)
    have c3 : w.cell? ⟨b, o + 3, none⟩ = some (.int .u8 (x3 : Int)) := hc' 3 (by omega)
    clear hc' hby
    go_enter Tryz.func90, Tryz.ntmps90
    go_wp2_with fail
    go_quiet (fail)
    go_wp2
    go_ret
    exact ⟨congrArg (fun z : Int => Ending.returned (.int .u32 z)) (or_bytes h0 h1 h2 h3), nq, rfl⟩

theorem rdT_one {w : World} {a : Option Addr} {n c : Nat} {l : List Nat} (h : Rd w a n l) (ty : TypeId) : RdT (w.alloc (.cells #[.slice a n c] ty)) (some ⟨w.heap.size, 0, none⟩) 1 [l] := by
  refine ⟨rfl, fun _ => ⟨w.heap.size, 0, rfl, fun j hj => ?_⟩⟩
  obtain rfl : j = 0 := by omega
  refine ⟨a, c, ?_, ?_⟩
  · rw [World.cell?_alloc_new]
    simp [h.1]
  · have := h.later (Below.alloc0 w (.cells #[.slice a n c] ty))
    simp only [List.getD_cons_zero, h.1]
    exact this

theorem rdT_three {w : World} {a a1 a2 : Option Addr} {n c n1 c1 n2 c2 : Nat} {l l1 l2 : List Nat} (h : Rd w a n l) (h1 : Rd w a1 n1 l1) (h2 : Rd w a2 n2 l2) (ty : TypeId) :
    RdT (w.alloc (.cells #[.slice a n c, .slice a1 n1 c1, .slice a2 n2 c2] ty)) (some ⟨w.heap.size, 0, none⟩) 3 [l, l1, l2] := by
  refine ⟨rfl, fun _ => ⟨w.heap.size, 0, rfl, fun j hj => ?_⟩⟩
  have hb := Below.alloc0 w (.cells #[.slice a n c, .slice a1 n1 c1, .slice a2 n2 c2] ty)
  match j, hj with
  | 0, _ =>
    refine ⟨a, c, ?_, ?_⟩
    · rw [World.cell?_alloc_new]; simp [h.1]
    · simp only [List.getD_cons_zero, h.1]; exact h.later hb
  | 1, _ =>
    refine ⟨a1, c1, ?_, ?_⟩
    · rw [World.cell?_alloc_new]; simp [h1.1]
    · simp only [List.getD_cons_zero, List.getD_cons_succ, h1.1]; exact h1.later hb
  | 2, _ =>
    refine ⟨a2, c2, ?_, ?_⟩
    · rw [World.cell?_alloc_new]; simp [h2.1]
    · simp only [List.getD_cons_zero, List.getD_cons_succ, h2.1]; exact h2.later hb

/-- Of of one slice. -/
theorem of_one {w : World} {a : Option Addr} {n c : Nat} {l : List Nat} (h : Rd w a n l) (hn : n ≤ 3000000) (ty : TypeId) :
    Calls Tryz.prog 82 #[.slice (some ⟨w.heap.size, 0, none⟩) 1 1] (w.alloc (.cells #[.slice a n c] ty)) fun e w' => e = .returned (.int .u32 ((cSum l : Nat) : Int)) ∧ w' = w.alloc (.cells #[.slice a n c] ty) := by
  refine (chk_any _ 1 1 [l] _ (rdT_one h ty) (by omega) ?_).mono ?_
  · intro t ht
    simp only [List.mem_singleton] at ht
    subst ht
    rw [h.1]; exact hn
  · rintro e w' ⟨rfl, rfl⟩
    simp

set_option maxHeartbeats 400000 in
set_option maxRecDepth 100000 in
theorem seal_any (a : Option Addr) (n c : Nat) (l : List Nat) (w : World) (h : Rd w a n l) (hn : n ≤ 1000000) :
    Calls Tryz.prog 61 #[.slice a n c] w fun e w' => ∃ v, e = .returned v ∧ Own w' w.heap.size v (l ++ sumB (cSum l)) ∧ Below w.heap.size w w' := by
  have HR := Lib.hid h
  clear h
  go_enter Tryz.func61, Tryz.ntmps61
  go_wp2_with fail
  refine (clone_any a n c l w HR.out hn).mono ?_
  rintro e w1 ⟨v, rfl, ho, hb⟩
  have HO := Lib.hid ho
  have HB := Lib.hid hb
  clear ho hb
  go_wp2_with fail
  refine (of_one (HR.out.later HB.out) (by omega) 31).mono ?_
  rintro e w2 ⟨rfl, rfl⟩
  go_wp2_with fail
  refine (appendSum_any v w.heap.size (cSum l) l _ (HO.out.alloc _) (by have := HB.out.size; simp; omega) (cSum_lt l) (by rw [HR.out.1]; omega)).mono ?_
  rintro e w3 ⟨v3, rfl, ho3, hb3⟩
  have HO3 := Lib.hid ho3
  have HB3 := Lib.hid hb3
  clear ho3 hb3
  go_wp2
  go_ret
  exact ⟨_, rfl, HO3.out, (HB.out.alloc HB.out.size _).trans HB3.out⟩

/-- Are the bytes sealed ones? -/
def Sealed (l : List Nat) : Prop := 4 ≤ l.length ∧ cSum (l.take (l.length - 4)) = numB (l.drop (l.length - 4))

set_option maxHeartbeats 400000 in
set_option maxRecDepth 100000 in
theorem chkOpen_any (a : Option Addr) (n c : Nat) (l : List Nat) (w : World) (h : Rd w a n l) (hn : n ≤ 1000000) (hc : n ≤ c) :
    Calls Tryz.prog 72 #[.slice a n c] w fun e w' => Below w.heap.size w w' ∧ ((¬ Sealed l ∧ e = .returned (.tuple #[.slice none 0 0, .bool false])) ∨ (Sealed l ∧ ∃ v, e = .returned (.tuple #[v, .bool true]) ∧ Own w' w.heap.size v (l.take (n - 4)))) := by
  have HR := Lib.hid h
  clear h
  by_cases h4 : n < 4
  · have h4' : (n : Int) < 4 := by omega
    go_enter Tryz.func72, Tryz.ntmps72
    go_wp2
    go_ret2
    exact ⟨Below.refl _ _, .inl ⟨fun hs => by have := hs.1; rw [HR.out.1] at this; omega, rfl⟩⟩
  · have h4' : 4 ≤ (n : Int) := by omega
    have HB := Lib.hid (HR.out.first (k := n - 4) (by omega))
    have HS := Lib.hid (HR.out.cut (k := n - 4) (by omega) hc)
    have e4 : n - (n - 4) = 4 := by omega
    rw [e4] at HS
    unfold cutA at HS
    rw [if_neg (by omega)] at HS
    have HL := Lib.hid HR.out.1
    have hbody : (l.take (n - 4)).length = n - 4 := HB.out.1
    obtain ⟨s, hs⟩ : ∃ s, s = numB (l.drop (n - 4)) := ⟨_, rfl⟩
    have hslt : s < 4294967296 := by rw [hs]; exact numB_lt HS.out.1 HS.out.2.1
    obtain ⟨q, hq⟩ : ∃ q, q = cSum (l.take (n - 4)) := ⟨_, rfl⟩
    have HQ := Lib.hid hq
    have HSE := Lib.hid hs
    have HE4 := Lib.hid e4
    have hiff : Sealed l ↔ q = s := by
      unfold Sealed
      rw [HL.out, hq, hs]
      exact ⟨fun h => h.2, fun h => ⟨by omega, h⟩⟩
    have HI := Lib.hid hiff
    clear hs hq e4 hbody hiff
    go_enter Tryz.func72, Tryz.ntmps72
    go_wp2_with fail
    go_quiet (fail)
    go_wp2_with fail
    rw [HE4.out]
    have HB0 : Hid (Rd (w.drewN nq) a (n - 4) (l.take (n - 4))) := HB.out
    refine (of_one HB0.out (by omega) 31).mono ?_
    rintro e w2 ⟨rfl, rfl⟩
    rw [← HQ.out]
    have hb2 : Below w.heap.size w ((w.drewN nq).alloc (.cells #[.slice a (n - 4) c] 31)) := (Below.drewN' (Below.refl _ w) nq).alloc (Nat.le_refl _) _
    have HB2 := Lib.hid hb2
    clear hb2
    obtain ⟨w2, hw2⟩ : ∃ w2, w2 = (w.drewN nq).alloc (.cells #[.slice a (n - 4) c] 31) := ⟨_, rfl⟩
    rw [← hw2] at HB2 ⊢
    clear hw2
    go_wp2_with fail
    refine (sumOf_any _ _ _ w2 (HS.out.later HB2.out)).mono ?_
    rintro e w3 ⟨rfl, m, rfl⟩
    rw [← HSE.out]
    by_cases hqs : q = s
    · have hqs' : ((q : Int) != (s : Int)) = false := by simp [hqs]
      have HQS := Lib.hid hqs
      clear hqs
      go_wp2_with fail
      have HB3 : Hid (Rd (w2.drewN m) a (n - 4) (l.take (n - 4))) := HB.out.later (Below.drewN' HB2.out m)
      refine (clone_any a (n - 4) c _ _ HB3.out (by omega)).mono ?_
      rintro e w4 ⟨v, rfl, ho, hb⟩
      have HO := Lib.hid ho
      have HB4 := Lib.hid hb
      clear ho hb
      go_wp2
      go_ret2
      exact ⟨(Below.drewN' HB2.out m).trans (HB4.out.mono HB2.out.size), .inr ⟨HI.out.2 HQS.out, v, rfl, HO.out.mono HB2.out.size⟩⟩
    · have hqs' : ((q : Int) != (s : Int)) = true := by simp; omega
      have HQS := Lib.hid hqs
      clear hqs
      go_wp2
      go_ret2
      exact ⟨Below.drewN' HB2.out m, .inl ⟨fun h => HQS.out (HI.out.1 h), rfl⟩⟩

end Go.Proofs.YtaijldcfoaeogaaGreat

/- The contract of varint.Next, over any world. -/
namespace Go.Proofs.YtaijldcfoaeogaaGreat
open Go.RowKit
set_option maxRecDepth 100000

set_option maxHeartbeats 400000 in
theorem allowed_any (i c : Nat) (w : World) (hi : i ≤ 9) (hc : c < 256) :
    Calls Tryz.prog 110 #[.int .i64 (i : Int), .int .u8 (c : Int)] w fun e w' => e = .returned (.bool (!vBad i c)) ∧ w = w' := by
  go_enter Tryz.func110, Tryz.ntmps110
  go_wp2
  · have h1 : (i : Int) = 9 := by assumption
    have h2 : 1 < (c : Int) := by assumption
    go_ret
    exact ⟨ret_bool (by have : i = 9 := by omega
                        subst this; simp [vBad]; omega), rfl⟩
  · have h1 : (i : Int) = 9 := by assumption
    have h2 : (c : Int) ≤ 1 := by assumption
    go_ret
    exact ⟨ret_bool (by have : i = 9 := by omega
                        subst this
                        have : c = 0 ∨ c = 1 := by omega
                        rcases this with rfl | rfl <;> rfl), rfl⟩
  · have h1 : i = 0 := by assumption
    subst h1
    go_ret
    exact ⟨ret_bool (by simp [vBad]), rfl⟩
  · have h1 : ¬ (i : Int) = 9 := by assumption
    have h2 : ¬ i = 0 := by assumption
    go_ret
    exact ⟨ret_bool (by
      have e1 : ((i : Int) == 0) = false := by simp; omega
      have e2 : (i == 9) = false := by simp; omega
      have e3 : decide (0 < i) = true := by simp; omega
      rw [e1]; unfold vBad; rw [e2, e3]
      by_cases h : c = 0
      · subst h; rfl
      · have : ((c : Int) != 0) = true := by simp; omega
        rw [this]
        have : (c == 0) = false := by simpa using h
        rw [this]; rfl), rfl⟩

theorem pow_128 (j : Nat) : (2 : Nat) ^ (7 * j) = 128 ^ j := by rw [Nat.pow_mul]

/-- A digit is laid above the others. -/
theorem or_digit {X x j : Nat} (hX : X < 128 ^ j) (hf : x % 128 * 128 ^ j < 18446744073709551616) (hj : j ≤ 9) :
    bits .or .u64 (X : Int) (IntKind.u64.wrap ((x : Int) % 128 * 2 ^ (7 * j))) = ((X + 128 ^ j * (x % 128) : Nat) : Int) := by
  have e : ((x : Int) % 128 * 2 ^ (7 * j)) = ((x % 128 * 128 ^ j : Nat) : Int) := by
    rw [← pow_128]
    simp
  have hX' : X < 18446744073709551616 := Nat.lt_of_lt_of_le hX (Nat.le_trans (Nat.pow_le_pow_right (by omega) hj) (by omega))
  rw [e, IntKind.wrap_u64, Int.emod_eq_of_lt (by omega) (by omega), u64_or_nat X _ hX' hf]
  have := nat_join (7 * j) (x % 128 * 128 ^ j) X (by rw [pow_128]; exact Nat.mul_mod_left _ _) (by rw [pow_128]; exact hX)
  rw [Nat.or_comm, this, Nat.mul_comm, Nat.add_comm]

theorem digit_fits {x j : Nat} (hj : j ≤ 9) (hx : j = 9 → x = 1) : x % 128 * 128 ^ j < 18446744073709551616 := by
  by_cases h9 : j = 9
  · have := hx h9
    subst h9
    subst this
    omega
  · have h1 : 128 ^ j ≤ 128 ^ 8 := Nat.pow_le_pow_right (by omega) (by omega)
    have h2 : x % 128 ≤ 127 := by omega
    have := Nat.mul_le_mul h2 h1
    omega

theorem vVal_take_succ {l : List Nat} {j x : Nat} (hl : j < l.length) (hx : x = l.getD j 0) : vVal (l.take (j + 1)) = vVal (l.take j) + 128 ^ j * (x % 128) := by
  rw [List.take_succ_eq_append_getElem hl, vVal_snoc, hx]
  have e : (l.take j).length = j := by simp; omega
  rw [e]; simp [List.getD, hl]

theorem vVal_take_lt (l : List Nat) (j : Nat) : vVal (l.take j) < 128 ^ j :=
  Nat.lt_of_lt_of_le (vVal_lt _) (Nat.pow_le_pow_right (by omega) (List.length_take_le _ _))

set_option maxHeartbeats 400000 in
set_option maxRecDepth 100000 in
theorem next_any (a : Option Addr) (n c : Nat) (l : List Nat) (w : World) (h : Rd w a n l) (hn : n ≤ 1000000) :
    Calls Tryz.prog 98 #[.slice a n c] w fun e w' => e = .returned (.tuple #[.int .u64 (vNum l : Nat), .int .i64 (vLen l : Nat), .int .i64 (vErr l : Nat)]) ∧ w = w' := by
  have HR := Lib.hid h
  clear h
  go_enter Tryz.func98, Tryz.ntmps98
  go_wp2
  go_loop [5, 10] (fun x i => ∃ j : Nat, j ≤ n ∧ j ≤ 9 ∧ i = .int .i64 (j : Int) ∧ x = .int .u64 (vVal (l.take j) : Nat) ∧ vScan (l.drop j) j = vScan l 0) (fun _ i => n - (intOf i).toNat)
  case atStart => exact ⟨0, by omega, by omega, rfl, rfl, rfl⟩
  case round =>
    obtain ⟨j, hj, hj9, rfl, rfl, hs⟩ := hrel
    have HS := Lib.hid hs
    clear hs
    obtain ⟨X, hX⟩ : ∃ X, X = vVal (l.take j) := ⟨_, rfl⟩
    rw [← hX]
    have HX := Lib.hid hX
    clear hX
    by_cases hlt : j < n
    · obtain ⟨b, o, rfl, hc⟩ := HR.out.2.2 (by omega)
      have hcell := hc j hlt
      obtain ⟨x, hx⟩ : ∃ x, x = l.getD j 0 := ⟨_, rfl⟩
      rw [← hx] at hcell
      have hx256 : x < 256 := by rw [hx]; exact HR.out.2.1 _ (by have := HR.out.1; simp [List.getD, show j < l.length by omega])
      have hd : l.drop j = x :: l.drop (j + 1) := by
        have hl : j < l.length := by have := HR.out.1; omega
        rw [List.drop_eq_getElem_cons hl, hx]; simp [List.getD, hl]
      have HXX := Lib.hid hx
      have HD := Lib.hid hd
      clear hc hx hd
      by_cases hbad : vBad j x = true
      · go_wp2_with fail
        refine (allowed_any j x _ hj9 hx256).mono ?_
        rintro e w' ⟨rfl, rfl⟩
        go_wp2
        go_ret3
        have e1 : vScan l 0 = (0, 3) := by rw [← HS.out, HD.out, vScan_bad hbad]
        have e2 : vErr l = 3 := by unfold vErr; rw [e1]
        have e3 := vNum_err (l := l) (by omega)
        rw [e3.1, e3.2, e2]
        exact ⟨rfl, rfl⟩
      · have hbad' : vBad j x = false := by simpa using hbad
        clear hbad
        by_cases hx128 : x < 128
        · have hx128' : (x : Int) < 128 := by omega
          go_wp2_with fail
          refine (allowed_any j x _ hj9 hx256).mono ?_
          rintro e w' ⟨rfl, rfl⟩
          go_wp2
          go_ret3
          have hl : j < l.length := by have := HR.out.1; omega
          have e1 : vScan l 0 = (j + 1, 0) := by rw [← HS.out, HD.out, vScan_last hbad' hx128]
          have e2 : vErr l = 0 := by unfold vErr; rw [e1]
          have e3 : vLen l = j + 1 := by unfold vLen; rw [e1]
          have e4 : vNum l = X + 128 ^ j * (x % 128) := by unfold vNum; rw [e3, vVal_take_succ hl HXX.out, ← HX.out]
          have e5 := or_digit (X := X) (x := x) (j := j) (by rw [HX.out]; exact vVal_take_lt l j) (digit_fits hj9 (by rintro rfl; exact vBad_nine hbad')) hj9
          rw [e2, e3, e4, ← e5]
          exact ⟨rfl, rfl⟩
        · have hx128' : 128 ≤ (x : Int) := by omega
          go_wp2_with fail
          refine (allowed_any j x _ hj9 hx256).mono ?_
          rintro e w' ⟨rfl, rfl⟩
          go_wp2
          have h9 : j ≠ 9 := by
            rintro rfl
            have := vBad_nine hbad'
            omega
          have hl : j < l.length := by have := HR.out.1; omega
          go_round
          case rel => exact ⟨j + 1, by omega, by omega, by go_num, by
            rw [or_digit (X := X) (x := x) (j := j) (by rw [HX.out]; exact vVal_take_lt l j) (digit_fits hj9 (by omega)) hj9, vVal_take_succ hl HXX.out, ← HX.out], by
            rw [← HS.out, HD.out, vScan_more hbad' hx128]⟩
          case measure => simp [intOf]; omega
    · go_wp2
      go_ret3
      have e1 : vScan l 0 = (0, 2) := by rw [← HS.out, List.drop_eq_nil_of_le (by have := HR.out.1; omega)]; rfl
      have e2 : vErr l = 2 := by unfold vErr; rw [e1]
      have e3 := vNum_err (l := l) (by omega)
      rw [e3.1, e3.2, e2]
      exact ⟨rfl, rfl⟩

end Go.Proofs.YtaijldcfoaeogaaGreat

/- A reader in memory; the contracts of Failed, Number, End, Open, over any world. -/
namespace Go.Proofs.YtaijldcfoaeogaaGreat
open Go.RowKit
set_option maxRecDepth 100000

/-- The number that is read: it, the first error then, and what is left. -/
def rNum (E : Nat) (l : List Nat) (most : Nat) : Nat × Nat × List Nat :=
  if E ≠ 0 then (0, E, l) else if vErr l ≠ 0 then (0, vErr l, l) else if most < vNum l then (0, 5, l) else (vNum l, 0, l.drop (vLen l))

theorem rNum_failed {E : Nat} {l : List Nat} {most : Nat} (h : E ≠ 0) : rNum E l most = (0, E, l) := by simp [rNum, h]

theorem rNum_err {l : List Nat} {most : Nat} (h : vErr l ≠ 0) : rNum 0 l most = (0, vErr l, l) := by simp [rNum, h]

theorem rNum_long {l : List Nat} {most : Nat} (h : vErr l = 0) (h2 : most < vNum l) : rNum 0 l most = (0, 5, l) := by simp [rNum, h, h2]

theorem rNum_ok {l : List Nat} {most : Nat} (h : vErr l = 0) (h2 : ¬ most < vNum l) : rNum 0 l most = (vNum l, 0, l.drop (vLen l)) := by simp [rNum, h, h2]

/-- Block g is a reader of type T: its first error is E, the bytes l are left. -/
def Rdr (w : World) (T g E : Nat) (l : List Nat) : Prop :=
  ∃ a n c, w.heap[g]? = some (.cells #[.slice a n c, .int .i64 (E : Int)] T (0, 0)) ∧ Rd w a n l ∧ n ≤ c ∧ n ≤ 1000000

/-- Bytes that lie nowhere in a reader's own block stay, whatever happens there. -/
theorem Rd.beside {w w' : World} {T g n m c : Nat} {E : Int} {a a' : Option Addr} {l : List Nat} (h : Rd w a n l) (hg : w.heap[g]? = some (.cells #[.slice a' m c, .int .i64 E] T (0, 0))) (hw : w.grownBy w' (some g)) : Rd w' a n l := by
  refine ⟨h.1, h.2.1, fun hn => ?_⟩
  obtain ⟨b, o, rfl, hc⟩ := h.2.2 hn
  refine ⟨b, o, rfl, fun j hj => ?_⟩
  have hne : b ≠ g := by
    rintro rfl
    have h1 := hc j hj
    rw [cell_of_row w b _ _ T (0, 0) hg] at h1
    match hq : o + j with
    | 0 => simp [hq] at h1
    | 1 => simp [hq] at h1
    | q + 2 => simp [hq] at h1
  exact hw.cell (hc j hj) (by simpa using hne)

theorem Rdr.beside {w w' : World} {T g E T' g' E' : Nat} {l l' : List Nat} (h : Rdr w T g E l) (h' : Rdr w T' g' E' l') (hne : g ≠ g') (hw : w.grownBy w' (some g')) : Rdr w' T g E l := by
  obtain ⟨a, n, c, hg, hr, hc, hm⟩ := h
  obtain ⟨a', n', c', hg', _⟩ := h'
  refine ⟨a, n, c, ?_, hr.beside hg' hw, hc, hm⟩
  have hlt : g < w.heap.size := by
    rcases Nat.lt_or_ge g w.heap.size with hlt | hge
    · exact hlt
    · rw [Array.getElem?_eq_none hge] at hg; cases hg
  rw [hw.block g hlt (by simpa using hne)]; exact hg

theorem Rdr.fail {w : World} {T g n c : Nat} {a : Option Addr} {l : List Nat} {E0 : Int} (E : Nat) (hg : w.heap[g]? = some (.cells #[.slice a n c, .int .i64 E0] T (0, 0))) (hr : Rd w a n l) (hc : n ≤ c) (hm : n ≤ 1000000) :
    Rdr (w.setCell ⟨g, 1, none⟩ (.int .i64 (E : Int))) T g E l :=
  ⟨a, n, c, by simpa using heap_setCell_same w g 1 _ T (.int .i64 (E : Int)) hg, hr.beside hg (grown_set w g 1 _), hc, hm⟩

theorem Rdr.move {w : World} {T g n c k : Nat} {a : Option Addr} {l : List Nat} {E : Nat} (hk : k ≤ n) (hg : w.heap[g]? = some (.cells #[.slice a n c, .int .i64 (E : Int)] T (0, 0))) (hr : Rd w a n l) (hc : n ≤ c) (hm : n ≤ 1000000) :
    Rdr (w.setCell ⟨g, 0, none⟩ (.slice (cutA a c k) (n - k) (c - k))) T g E (l.drop k) :=
  ⟨_, _, _, by simpa using heap_setCell_same w g 0 _ T (.slice (cutA a c k) (n - k) (c - k)) hg, (hr.cut hk hc).beside hg (grown_set w g 0 _), by omega, by omega⟩

theorem failed_any (w : World) (g E : Nat) (l : List Nat) (h : Rdr w 128 g E l) : Calls Tryz.prog 71 #[.pointer (some ⟨g, 0, none⟩)] w fun e w' => e = .returned (.int .i64 (E : Int)) ∧ w = w' := by
  obtain ⟨a, n, c, hg, _⟩ := h
  have h1 : w.cell? ⟨g, 1, none⟩ = some (.int .i64 (E : Int)) := by rw [cell_of_row w g 1 _ 128 (0, 0) hg]; rfl
  clear hg
  go_enter Tryz.func71, Tryz.ntmps71
  go_wp2
  go_ret
  exact ⟨rfl, rfl⟩

set_option maxHeartbeats 400000 in
theorem number_any (w : World) (g E : Nat) (l : List Nat) (most : Nat) (h : Rdr w 128 g E l) :
    Calls Tryz.prog 89 #[.pointer (some ⟨g, 0, none⟩), .int .u64 (most : Int)] w fun e w' => e = .returned (.int .u64 ((rNum E l most).1 : Int)) ∧ Rdr w' 128 g (rNum E l most).2.1 (rNum E l most).2.2 ∧ w.grownBy w' (some g) := by
  have HR := Lib.hid h
  obtain ⟨a, n, c, hg, hr, hc, hm⟩ := h
  have h0 : w.cell? ⟨g, 0, none⟩ = some (.slice a n c) := by rw [cell_of_row w g 0 _ 128 (0, 0) hg]; rfl
  have h1 : w.cell? ⟨g, 1, none⟩ = some (.int .i64 (E : Int)) := by rw [cell_of_row w g 1 _ 128 (0, 0) hg]; rfl
  have f0 : w.frozen? ⟨g, 0, none⟩ = false := by simp [World.frozen?, hg]
  have f1 : w.frozen? ⟨g, 1, none⟩ = false := by simp [World.frozen?, hg]
  have HG := Lib.hid hg
  have HRd := Lib.hid hr
  clear hg hr
  by_cases hE : E = 0
  · subst hE
    have hN := next_any a n c l w HRd.out hm
    obtain ⟨e, he⟩ : ∃ e, e = vErr l := ⟨_, rfl⟩
    obtain ⟨K, hK⟩ : ∃ K, K = vLen l := ⟨_, rfl⟩
    obtain ⟨X, hX⟩ : ∃ X, X = vNum l := ⟨_, rfl⟩
    rw [← he, ← hK, ← hX] at hN
    have HN := Lib.hid hN
    have HE := Lib.hid he
    have HK := Lib.hid hK
    have HX := Lib.hid hX
    clear hN he hK hX
    by_cases hz : e = 0
    · subst hz
      have hKn : K ≤ n := by
        have := (vOne HRd.out.2.1 HE.out.symm).2.2.2.1
        have h2 := HRd.out.1
        have h3 := HK.out
        omega
      have hs := fun W => slice_from a n c K .i64 hKn W
      by_cases hlong : most < X
      · have hlong' : (most : Int) < (X : Int) := by omega
        go_enter Tryz.func89, Tryz.ntmps89
        go_wp2_with fail
        refine (failed_any w g 0 l HR.out).mono ?_
        rintro e w' ⟨rfl, rfl⟩
        go_wp2_with fail
        refine HN.out.mono ?_
        rintro e w' ⟨rfl, rfl⟩
        go_wp2
        go_ret
        rw [rNum_long HE.out.symm (by rw [← HX.out]; exact hlong)]
        exact ⟨rfl, Rdr.fail 5 HG.out HRd.out hc hm, grown_set _ _ _ _⟩
      · have hlong' : (X : Int) ≤ (most : Int) := by omega
        go_enter Tryz.func89, Tryz.ntmps89
        go_wp2_with fail
        refine (failed_any w g 0 l HR.out).mono ?_
        rintro e w' ⟨rfl, rfl⟩
        go_wp2_with fail
        refine HN.out.mono ?_
        rintro e w' ⟨rfl, rfl⟩
        go_wp2
        go_ret
        rw [rNum_ok HE.out.symm (by rw [← HX.out]; exact hlong), ← HX.out, ← HK.out]
        exact ⟨rfl, Rdr.move hKn HG.out HRd.out hc hm, grown_set _ _ _ _⟩
    · have hz1 : ((e : Int) == 0) = false := by simp; omega
      have hz2 : ((e : Int) != 0) = true := by simp; omega
      go_enter Tryz.func89, Tryz.ntmps89
      go_wp2_with fail
      refine (failed_any w g 0 l HR.out).mono ?_
      rintro e w' ⟨rfl, rfl⟩
      go_wp2_with fail
      refine HN.out.mono ?_
      rintro e w' ⟨rfl, rfl⟩
      go_wp2
      go_ret
      rw [rNum_err (by rw [← HE.out]; exact hz), ← HE.out]
      exact ⟨rfl, Rdr.fail _ HG.out HRd.out hc hm, grown_set _ _ _ _⟩
  · have hE' : ((E : Int) != 0) = true := by simp; omega
    go_enter Tryz.func89, Tryz.ntmps89
    go_wp2_with fail
    refine (failed_any w g E l HR.out).mono ?_
    rintro e w' ⟨rfl, rfl⟩
    go_wp2
    go_ret
    rw [rNum_failed hE]
    exact ⟨rfl, HR.out, World.grownBy.refl _ _⟩

/-- The end's error. -/
def rEnd (E : Nat) (l : List Nat) : Nat := if E ≠ 0 then E else if l = [] then 0 else 5

set_option maxHeartbeats 400000 in
theorem end_any (w : World) (g E : Nat) (l : List Nat) (h : Rdr w 128 g E l) : Calls Tryz.prog 54 #[.pointer (some ⟨g, 0, none⟩)] w fun e w' => e = .returned (.int .i64 (rEnd E l : Int)) ∧ w = w' := by
  have HR := Lib.hid h
  obtain ⟨a, n, c, hg, hr, hc, hm⟩ := h
  have h0 : w.cell? ⟨g, 0, none⟩ = some (.slice a n c) := by rw [cell_of_row w g 0 _ 128 (0, 0) hg]; rfl
  have HL := Lib.hid hr.1
  clear hg hr
  by_cases hE : E = 0
  · subst hE
    by_cases hn : n = 0
    · subst hn
      have : l = [] := List.eq_nil_of_length_eq_zero HL.out
      subst this
      go_enter Tryz.func54, Tryz.ntmps54
      go_wp2_with fail
      refine (failed_any w g 0 [] HR.out).mono ?_
      rintro e w' ⟨rfl, rfl⟩
      go_wp2
      go_ret
      exact ⟨rfl, rfl⟩
    · have hn' : 0 < (n : Int) := by omega
      have hl : l ≠ [] := by rintro rfl; have := HL.out; simp at this; omega
      have e5 : rEnd 0 l = 5 := by simp [rEnd, hl]
      rw [e5]
      clear e5
      go_enter Tryz.func54, Tryz.ntmps54
      go_wp2_with fail
      refine (failed_any w g 0 l HR.out).mono ?_
      rintro e w' ⟨rfl, rfl⟩
      go_wp2
      go_ret
      exact ⟨rfl, rfl⟩
  · have hE' : ((E : Int) != 0) = true := by simp; omega
    have e5 : rEnd E l = E := by simp [rEnd, hE]
    rw [e5]
    clear e5
    go_enter Tryz.func54, Tryz.ntmps54
    go_wp2_with fail
    refine (failed_any w g E l HR.out).mono ?_
    rintro e w' ⟨rfl, rfl⟩
    go_wp2
    go_ret
    exact ⟨rfl, rfl⟩

set_option maxHeartbeats 400000 in
theorem open_any (a : Option Addr) (n c : Nat) (l : List Nat) (w : World) (h : Rd w a n l) (hn : n ≤ 1000000) :
    Calls Tryz.prog 32 #[.slice a n c] w fun e w' => ∃ g, e = .returned (.pointer (some ⟨g, 0, none⟩)) ∧ w.heap.size ≤ g ∧ Rdr w' 128 g 0 l ∧ Below w.heap.size w w' := by
  have HR := Lib.hid h
  clear h
  go_enter Tryz.func32, Tryz.ntmps32
  go_wp2_with fail
  refine (clone_sl a n c l w HR.out hn).mono ?_
  rintro e w1 ⟨a', c', rfl, hr, hc, hb⟩
  have HRd := Lib.hid hr
  clear hr
  go_wp2
  go_ret
  exact ⟨_, rfl, hb.size, ⟨a', n, c', heap_alloc_new w1 _, HRd.out.later (Below.alloc0 _ _), hc, hn⟩, hb.alloc hb.size _⟩

/-- A reader that lies, with its bytes, from block 'lo' on. -/
def RdrLo (w : World) (T g E : Nat) (l : List Nat) (lo : Nat) : Prop :=
  ∃ a n c, w.heap[g]? = some (.cells #[.slice a n c, .int .i64 (E : Int)] T (0, 0)) ∧ Rd w a n l ∧ n ≤ c ∧ n ≤ 1000000 ∧ lo ≤ g ∧ ∀ b o, a = some ⟨b, o, none⟩ → lo ≤ b

theorem RdrLo.keep {w w' : World} {T g E lo : Nat} {l : List Nat} (h : RdrLo w T g E l lo) (hk : ∀ k, lo ≤ k → k < w.heap.size → w'.heap[k]? = w.heap[k]?) : RdrLo w' T g E l lo := by
  obtain ⟨a, n, c, hg, hr, hc, hm, hlo, hb⟩ := h
  refine ⟨a, n, c, (hk g hlo (lt_of_block hg)).trans hg, ⟨hr.1, hr.2.1, fun hn => ?_⟩, hc, hm, hlo, hb⟩
  obtain ⟨b, o, rfl, hcell⟩ := hr.2.2 hn
  refine ⟨b, o, rfl, fun j hj => ?_⟩
  exact (World.cell?_of_block (w := w) (hk b (hb b o rfl) (World.block_lt_of_cell? w _ (hcell j hj)))).trans (hcell j hj)

theorem RdrLo.rdr {w : World} {T g E lo : Nat} {l : List Nat} (h : RdrLo w T g E l lo) : Rdr w T g E l := by
  obtain ⟨a, n, c, hg, hr, hc, hm, _⟩ := h
  exact ⟨a, n, c, hg, hr, hc, hm⟩

set_option maxHeartbeats 400000 in
theorem openLo_any (a : Option Addr) (n c : Nat) (l : List Nat) (w : World) (h : Rd w a n l) (hn : n ≤ 1000000) :
    Calls Tryz.prog 32 #[.slice a n c] w fun e w' => ∃ g, e = .returned (.pointer (some ⟨g, 0, none⟩)) ∧ RdrLo w' 128 g 0 l w.heap.size ∧ Below w.heap.size w w' := by
  have hcl : Calls Tryz.prog 55 #[.slice a n c] w fun e w' => ∃ a' c', e = .returned (.slice a' n c') ∧ Rd w' a' n l ∧ n ≤ c' ∧ Below w.heap.size w w' ∧ ∀ b o, a' = some ⟨b, o, none⟩ → w.heap.size ≤ b := by
    refine (clone_any a n c l w h hn).mono ?_
    rintro e w' ⟨v, rfl, ho, hb⟩
    obtain ⟨a', c', rfl, hr, hc, hlo⟩ := ho.lies
    rw [h.1] at hr hc ⊢
    exact ⟨a', c', rfl, hr, hc, hb, hlo⟩
  have HC := Lib.hid hcl
  clear h hcl
  go_enter Tryz.func32, Tryz.ntmps32
  go_wp2_with fail
  refine HC.out.mono ?_
  rintro e w1 ⟨a', c', rfl, hr, hc, hb, hlo⟩
  have HRd := Lib.hid hr
  have HLo := Lib.hid hlo
  clear hr hlo
  go_wp2
  go_ret
  exact ⟨_, rfl, ⟨a', n, c', heap_alloc_new w1 _, HRd.out.later (Below.alloc0 _ _), hc, hn, hb.size, HLo.out⟩, hb.alloc hb.size _⟩

theorem rNum_put (x : Nat) (r : List Nat) (hx : x ≤ 18446744073709551615) : rNum 0 (vEnc x ++ r) 18446744073709551615 = (x, 0, r) := by
  obtain ⟨h1, h2, h3⟩ := vRead (n := x) r (by omega)
  rw [rNum_ok h1 (by omega), h2, h3]
  simp

end Go.Proofs.YtaijldcfoaeogaaGreat

/- The contract of a reader's Bytes, over any world. -/
namespace Go.Proofs.YtaijldcfoaeogaaGreat
open Go.RowKit
set_option maxRecDepth 100000

/-- The string that is read: it, the first error then, and what is left. -/
def rByt (E : Nat) (l : List Nat) (most : Nat) : List Nat × Nat × List Nat :=
  if (rNum E l most).2.1 ≠ 0 then ([], (rNum E l most).2.1, (rNum E l most).2.2)
  else if (rNum E l most).2.2.length < (rNum E l most).1 then ([], 2, (rNum E l most).2.2)
  else ((rNum E l most).2.2.take (rNum E l most).1, 0, (rNum E l most).2.2.drop (rNum E l most).1)

theorem rByt_err {E : Nat} {l : List Nat} {most k E1 : Nat} {l1 : List Nat} (h : rNum E l most = (k, E1, l1)) (hE : E1 ≠ 0) : rByt E l most = ([], E1, l1) := by simp [rByt, h, hE]

theorem rByt_cut {E : Nat} {l : List Nat} {most k : Nat} {l1 : List Nat} (h : rNum E l most = (k, 0, l1)) (hk : l1.length < k) : rByt E l most = ([], 2, l1) := by simp [rByt, h, hk]

theorem rByt_ok {E : Nat} {l : List Nat} {most k : Nat} {l1 : List Nat} (h : rNum E l most = (k, 0, l1)) (hk : ¬ l1.length < k) : rByt E l most = (l1.take k, 0, l1.drop k) := by simp [rByt, h, hk]

theorem u64_wrap {m : Nat} (h : m ≤ 1000000) : IntKind.u64.wrap (m : Int) = m := by rw [IntKind.wrap_u64]; omega

set_option maxHeartbeats 400000 in
theorem bytes_any (w : World) (g E : Nat) (l : List Nat) (m : Int) (most : Nat) (hm : m = most ∨ (m < 0 ∧ most = 0)) (hm2 : most ≤ 1000000) (h : Rdr w 128 g E l) :
    Calls Tryz.prog 70 #[.pointer (some ⟨g, 0, none⟩), .int .i64 m] w fun e w' => ∃ a n c, e = .returned (.slice a n c) ∧ Rd w' a n (rByt E l most).1 ∧ Rdr w' 128 g (rByt E l most).2.1 (rByt E l most).2.2 ∧ w.grownBy w' (some g) := by
  have hN := number_any w g E l most h
  obtain ⟨⟨k, E1, l1⟩, hk⟩ : ∃ k, k = rNum E l most := ⟨_, rfl⟩
  rw [← hk] at hN
  dsimp only at hN
  have HN : Hid (∀ x : Int, x = most → Calls Tryz.prog 89 #[.pointer (some ⟨g, 0, none⟩), .int .u64 x] w fun e w' => e = .returned (.int .u64 (k : Int)) ∧ Rdr w' 128 g E1 l1 ∧ w.grownBy w' (some g)) := by
    intro x hx
    rw [hx]; exact hN
  have HK := Lib.hid hk.symm
  clear hN hk h
  go_enter Tryz.func70, Tryz.ntmps70
  go_wp2_with fail
  all_goals
    refine (HN.out _ (by omega)).mono ?_
    rintro e w1 ⟨rfl, hr1, hg1⟩
    have HR := Lib.hid hr1
    obtain ⟨a, n, c, hg, hr, hc, hmx⟩ := hr1
    have h0 : w1.cell? ⟨g, 0, none⟩ = some (.slice a n c) := by rw [cell_of_row w1 g 0 _ 128 (0, 0) hg]; rfl
    have h1 : w1.cell? ⟨g, 1, none⟩ = some (.int .i64 (E1 : Int)) := by rw [cell_of_row w1 g 1 _ 128 (0, 0) hg]; rfl
    have f0 : w1.frozen? ⟨g, 0, none⟩ = false := by simp [World.frozen?, hg]
    have f1 : w1.frozen? ⟨g, 1, none⟩ = false := by simp [World.frozen?, hg]
    have HG := Lib.hid hg
    have HRd := Lib.hid hr
    have HL := Lib.hid hr.1
    clear hg hr
    by_cases hE : E1 = 0
    · subst hE
      by_cases hk : n < k
      · have hk' : (n : Int) < (k : Int) := by omega
        have HB := Lib.hid (rByt_cut HK.out (by have := HL.out; omega))
        go_wp2_with fail
        refine (failed_any w1 g 0 l1 HR.out).mono ?_
        rintro e w' ⟨rfl, rfl⟩
        go_wp2
        go_ret
        rw [HB.out]
        exact ⟨_, _, _, rfl, ⟨rfl, by simp, by omega⟩, Rdr.fail 2 HG.out HRd.out hc hmx, hg1.trans (grown_set _ _ _ _)⟩
      · have hk' : (k : Int) ≤ (n : Int) := by omega
        have HB := Lib.hid (rByt_ok HK.out (by have := HL.out; omega))
        have hs := fun W => slice_from a n c k .u64 (by omega) W
        have hs2 := fun W => slice_to a n c k .u64 (by omega) W
        go_wp2_with fail
        refine (failed_any w1 g 0 l1 HR.out).mono ?_
        rintro e w' ⟨rfl, rfl⟩
        go_wp2_with fail
        refine (clone_sl a k c (l1.take k) w1 (HRd.out.first (by omega)) (by omega)).mono ?_
        rintro e w2 ⟨a2, c2, rfl, hr2, _, hb2⟩
        have hgl : g < w1.heap.size := World.block_lt_of_cell? w1 _ h0
        have HG2 : Hid (w2.heap[g]? = some (.cells #[.slice a n c, .int .i64 ((0 : Nat) : Int)] 128 (0, 0))) := (hb2.block g hgl).trans HG.out
        have HRd2 := Lib.hid (HRd.out.later hb2)
        have HR2 := Lib.hid hr2
        have HW := Lib.hid hb2
        have g0 : w2.cell? ⟨g, 0, none⟩ = some (.slice a n c) := by rw [cell_of_row w2 g 0 _ 128 (0, 0) HG2.out]; rfl
        have g1 : w2.frozen? ⟨g, 0, none⟩ = false := by simp [World.frozen?, HG2.out]
        clear hr2 hb2 h0 h1 f0 f1
        go_wp2
        go_ret
        rw [HB.out]
        exact ⟨_, _, _, rfl, HR2.out.beside HG2.out (grown_set _ _ _ _), Rdr.move (E := 0) (by omega) HG2.out HRd2.out hc hmx, (hg1.trans (grownBy_of_below HW.out _)).trans (grown_set _ _ _ _)⟩
    · have hE' : ((E1 : Int) != 0) = true := by simp; omega
      have HB := Lib.hid (rByt_err HK.out hE)
      go_wp2_with fail
      refine (failed_any w1 g E1 l1 HR.out).mono ?_
      rintro e w' ⟨rfl, rfl⟩
      go_wp2
      go_ret
      rw [HB.out]
      exact ⟨_, _, _, rfl, ⟨rfl, by simp, by omega⟩, HR.out, hg1⟩

end Go.Proofs.YtaijldcfoaeogaaGreat

/- The contract of a reader's Bytes, with what room there is, over any world. -/
namespace Go.Proofs.YtaijldcfoaeogaaGreat
open Go.RowKit
set_option maxRecDepth 100000

set_option maxHeartbeats 400000 in
theorem bytesC_any (w : World) (g E : Nat) (l : List Nat) (m : Int) (most : Nat) (hm : m = most ∨ (m < 0 ∧ most = 0)) (hm2 : most ≤ 1000000) (h : Rdr w 128 g E l) :
    Calls Tryz.prog 70 #[.pointer (some ⟨g, 0, none⟩), .int .i64 m] w fun e w' => ∃ a n c, e = .returned (.slice a n c) ∧ n ≤ c ∧ Rd w' a n (rByt E l most).1 ∧ Rdr w' 128 g (rByt E l most).2.1 (rByt E l most).2.2 ∧ w.grownBy w' (some g) := by
  have hN := number_any w g E l most h
  obtain ⟨⟨k, E1, l1⟩, hk⟩ : ∃ k, k = rNum E l most := ⟨_, rfl⟩
  rw [← hk] at hN
  dsimp only at hN
  have HN : Hid (∀ x : Int, x = most → Calls Tryz.prog 89 #[.pointer (some ⟨g, 0, none⟩), .int .u64 x] w fun e w' => e = .returned (.int .u64 (k : Int)) ∧ Rdr w' 128 g E1 l1 ∧ w.grownBy w' (some g)) := by
    intro x hx
    rw [hx]; exact hN
  have HK := Lib.hid hk.symm
  clear hN hk h
  go_enter Tryz.func70, Tryz.ntmps70
  go_wp2_with fail
  all_goals
    refine (HN.out _ (by omega)).mono ?_
    rintro e w1 ⟨rfl, hr1, hg1⟩
    have HR := Lib.hid hr1
    obtain ⟨a, n, c, hg, hr, hc, hmx⟩ := hr1
    have h0 : w1.cell? ⟨g, 0, none⟩ = some (.slice a n c) := by rw [cell_of_row w1 g 0 _ 128 (0, 0) hg]; rfl
    have h1 : w1.cell? ⟨g, 1, none⟩ = some (.int .i64 (E1 : Int)) := by rw [cell_of_row w1 g 1 _ 128 (0, 0) hg]; rfl
    have f0 : w1.frozen? ⟨g, 0, none⟩ = false := by simp [World.frozen?, hg]
    have f1 : w1.frozen? ⟨g, 1, none⟩ = false := by simp [World.frozen?, hg]
    have HG := Lib.hid hg
    have HRd := Lib.hid hr
    have HL := Lib.hid hr.1
    clear hg hr
    by_cases hE : E1 = 0
    · subst hE
      by_cases hk : n < k
      · have hk' : (n : Int) < (k : Int) := by omega
        have HB := Lib.hid (rByt_cut HK.out (by have := HL.out; omega))
        go_wp2_with fail
        refine (failed_any w1 g 0 l1 HR.out).mono ?_
        rintro e w' ⟨rfl, rfl⟩
        go_wp2
        go_ret
        rw [HB.out]
        exact ⟨_, _, _, rfl, by omega, ⟨rfl, by simp, by omega⟩, Rdr.fail 2 HG.out HRd.out hc hmx, hg1.trans (grown_set _ _ _ _)⟩
      · have hk' : (k : Int) ≤ (n : Int) := by omega
        have HB := Lib.hid (rByt_ok HK.out (by have := HL.out; omega))
        have hs := fun W => slice_from a n c k .u64 (by omega) W
        have hs2 := fun W => slice_to a n c k .u64 (by omega) W
        go_wp2_with fail
        refine (failed_any w1 g 0 l1 HR.out).mono ?_
        rintro e w' ⟨rfl, rfl⟩
        go_wp2_with fail
        refine (clone_sl a k c (l1.take k) w1 (HRd.out.first (by omega)) (by omega)).mono ?_
        rintro e w2 ⟨a2, c2, rfl, hr2, hc2, hb2⟩
        have hgl : g < w1.heap.size := World.block_lt_of_cell? w1 _ h0
        have HG2 : Hid (w2.heap[g]? = some (.cells #[.slice a n c, .int .i64 ((0 : Nat) : Int)] 128 (0, 0))) := (hb2.block g hgl).trans HG.out
        have HRd2 := Lib.hid (HRd.out.later hb2)
        have HR2 := Lib.hid hr2
        have HW := Lib.hid hb2
        have g0 : w2.cell? ⟨g, 0, none⟩ = some (.slice a n c) := by rw [cell_of_row w2 g 0 _ 128 (0, 0) HG2.out]; rfl
        have g1 : w2.frozen? ⟨g, 0, none⟩ = false := by simp [World.frozen?, HG2.out]
        clear hr2 hb2 h0 h1 f0 f1
        go_wp2
        go_ret
        rw [HB.out]
        exact ⟨_, _, _, rfl, by omega, HR2.out.beside HG2.out (grown_set _ _ _ _), Rdr.move (E := 0) (by omega) HG2.out HRd2.out hc hmx, (hg1.trans (grownBy_of_below HW.out _)).trans (grown_set _ _ _ _)⟩
    · have hE' : ((E1 : Int) != 0) = true := by simp; omega
      have HB := Lib.hid (rByt_err HK.out hE)
      go_wp2_with fail
      refine (failed_any w1 g E1 l1 HR.out).mono ?_
      rintro e w' ⟨rfl, rfl⟩
      go_wp2
      go_ret
      rw [HB.out]
      exact ⟨_, _, _, rfl, by omega, ⟨rfl, by simp, by omega⟩, HR.out, hg1⟩

end Go.Proofs.YtaijldcfoaeogaaGreat
