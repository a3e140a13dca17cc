/- The contracts of digest's Cut and Join, over any world. -/
import Derived.Test.YtiajcolhemdnaaaDOf
namespace Go.Proofs.Ytiajcolhemdnaaa
open Go.RowKit

set_option maxHeartbeats 800000 in
set_option maxRecDepth 100000 in
theorem cut_no1 (la sa lh sh : Nat) (w : World) (h : la < lh) :
    Calls Try.prog 8 #[.agg #[.int .u64 (la : Int), .int .u64 (sa : Int)], .agg #[.int .u64 (lh : Int), .int .u64 (sh : Int)]] w
      fun e w' => e = .returned (.tuple #[.agg #[.int .u64 0, .int .u64 0], .bool false]) ∧ Below w.heap.size w w' := by
  have hd : decide (la < lh) = true := by simp; omega
  clear h
  go_enter Try.func8, Try.ntmps8
  go_wp2
  go_returns
  exact ⟨rfl, (((Below.alloc0 w _).alloc (by simp) _).alloc (by simp; omega) _)⟩

set_option maxHeartbeats 800000 in
set_option maxRecDepth 100000 in
theorem cut_no2 (la sa lh sh : Nat) (w : World) (h : ¬ la < lh) (h2 : 2305843009213693951 ≤ sa) :
    Calls Try.prog 8 #[.agg #[.int .u64 (la : Int), .int .u64 (sa : Int)], .agg #[.int .u64 (lh : Int), .int .u64 (sh : Int)]] w
      fun e w' => e = .returned (.tuple #[.agg #[.int .u64 0, .int .u64 0], .bool false]) ∧ Below w.heap.size w w' := by
  have hd : decide (la < lh) = false := by simp; omega
  have hd2 : decide ((2305843009213693951 : Int) ≤ (sa : Int)) = true := by simp; omega
  clear h h2
  go_enter Try.func8, Try.ntmps8
  go_wp2
  go_returns
  exact ⟨rfl, (((Below.alloc0 w _).alloc (by simp) _).alloc (by simp; omega) _)⟩

set_option maxHeartbeats 800000 in
set_option maxRecDepth 100000 in
theorem cut_no3 (la sa lh sh : Nat) (w : World) (h : ¬ la < lh) (h2 : ¬ 2305843009213693951 ≤ sa) (h3 : 2305843009213693951 ≤ sh) :
    Calls Try.prog 8 #[.agg #[.int .u64 (la : Int), .int .u64 (sa : Int)], .agg #[.int .u64 (lh : Int), .int .u64 (sh : Int)]] w
      fun e w' => e = .returned (.tuple #[.agg #[.int .u64 0, .int .u64 0], .bool false]) ∧ Below w.heap.size w w' := by
  have hd : decide (la < lh) = false := by simp; omega
  have hd2 : decide ((2305843009213693951 : Int) ≤ (sa : Int)) = false := by simp; omega
  have hd3 : decide ((2305843009213693951 : Int) ≤ (sh : Int)) = true := by simp; omega
  clear h h2 h3
  go_enter Try.func8, Try.ntmps8
  go_wp2
  go_returns
  exact ⟨rfl, (((Below.alloc0 w _).alloc (by simp) _).alloc (by simp; omega) _)⟩

set_option maxHeartbeats 800000 in
set_option maxRecDepth 100000 in
theorem cut_exact (la sa lh sh : Nat) (w : World) (h : lh ≤ la) (h2 : sa < 2305843009213693951) (h3 : sh < 2305843009213693951) (h4 : la < 18446744073709551616) :
    Calls Try.prog 8 #[.agg #[.int .u64 (la : Int), .int .u64 (sa : Int)], .agg #[.int .u64 (lh : Int), .int .u64 (sh : Int)]] w
      fun e w' => e = .returned (.tuple #[.agg #[.int .u64 ((la - lh : Nat) : Int), .int .u64 (((sa + (2305843009213693951 - sh * dPow (la - lh) % 2305843009213693951)) % 2305843009213693951 : Nat) : Int)], .bool true]) ∧
        w' = (((w.alloc (.cells #[.int .u64 (la : Int), .int .u64 (sa : Int)] 28)).alloc (.cells #[.int .u64 (lh : Int), .int .u64 (sh : Int)] 28)).alloc (.cells #[.int .u64 ((la - lh : Nat) : Int), .int .u64 (((sa + (2305843009213693951 - sh * dPow (la - lh) % 2305843009213693951)) % 2305843009213693951 : Nat) : Int)] 28)).drew := by
  have hd : decide (la < lh) = false := by simp; omega
  have hd2 : decide ((2305843009213693951 : Int) ≤ (sa : Int)) = false := by simp; omega
  have hd3 : decide ((2305843009213693951 : Int) ≤ (sh : Int)) = false := by simp; omega
  have hw : IntKind.u64.wrap ((la : Int) - (lh : Int)) = ((la - lh : Nat) : Int) := by rw [IntKind.wrap_u64]; omega
  have HM : Hid (∀ W, Calls Try.prog 15 #[.int .u64 (sh : Int), .int .u64 ((la - lh : Nat) : Int)] W fun e w' => e = .returned (.int .u64 ((sh * dPow (la - lh) % 2305843009213693951 : Nat) : Int)) ∧ w' = W) := Lib.hid fun W => moved_any sh (la - lh) W h3 (by omega)
  have HN : Hid (∀ W, Calls Try.prog 14 #[.int .u64 (sa : Int), .int .u64 ((sh * dPow (la - lh) % 2305843009213693951 : Nat) : Int)] W fun e w' => e = .returned (.int .u64 (((sa + (2305843009213693951 - sh * dPow (la - lh) % 2305843009213693951)) % 2305843009213693951 : Nat) : Int)) ∧ w' = W) := Lib.hid fun W => minus_any sa _ W h2 (Nat.mod_lt _ (by omega))
  clear h h2 h3 h4
  generalize (sa + (2305843009213693951 - sh * dPow (la - lh) % 2305843009213693951)) % 2305843009213693951 = r at *
  generalize sh * dPow (la - lh) % 2305843009213693951 = m at *
  generalize la - lh = n at *
  go_enter Try.func8, Try.ntmps8
  go_wp2_with fail
  obtain ⟨w3, h3⟩ : ∃ w3, w3 = ((w.alloc (.cells #[.int .u64 (la : Int), .int .u64 (sa : Int)] 28)).alloc (.cells #[.int .u64 (lh : Int), .int .u64 (sh : Int)] 28)).alloc (.cells #[.int .u64 0, .int .u64 0] 28) := ⟨_, rfl⟩
  rw [← h3]
  have c1 : w3.cell? ⟨w.heap.size, 1, none⟩ = some (.int .u64 (sa : Int)) := by rw [h3]; simp [go_sem]
  have c2 : w3.cell? ⟨w.heap.size + 1, 1, none⟩ = some (.int .u64 (sh : Int)) := by rw [h3]; simp [go_sem]
  have c3 : w3.cell? ⟨w.heap.size + 1 + 1, 0, none⟩ = some (.int .u64 0) := by rw [h3]; simp [go_sem]
  have c4 : w3.cell? ⟨w.heap.size + 1 + 1, 1, none⟩ = some (.int .u64 0) := by rw [h3]; simp [go_sem]
  have f3 : w3.frozen? ⟨w.heap.size + 1 + 1, 0, none⟩ = false := by rw [h3]; simp [go_sem]
  have f4 : w3.frozen? ⟨w.heap.size + 1 + 1, 1, none⟩ = false := by rw [h3]; simp [go_sem]
  have H3 := Lib.hid h3
  clear h3
  refine wp_region_still_tail 9 (by kernel_rfl) (by kernel_rfl) ?_
  simp only [List.take_succ_cons, List.take_zero, List.drop_succ_cons, List.drop_zero]
  change wpStill _ _ w3.drew _ _ _
  replace c1 : w3.drew.cell? ⟨w.heap.size, 1, none⟩ = some (.int .u64 (sa : Int)) := c1
  replace c2 : w3.drew.cell? ⟨w.heap.size + 1, 1, none⟩ = some (.int .u64 (sh : Int)) := c2
  replace c3 : w3.drew.cell? ⟨w.heap.size + 1 + 1, 0, none⟩ = some (.int .u64 0) := c3
  replace c4 : w3.drew.cell? ⟨w.heap.size + 1 + 1, 1, none⟩ = some (.int .u64 0) := c4
  replace f3 : w3.drew.frozen? ⟨w.heap.size + 1 + 1, 0, none⟩ = false := f3
  replace f4 : w3.drew.frozen? ⟨w.heap.size + 1 + 1, 1, none⟩ = false := f4
  obtain ⟨w4, h4⟩ : ∃ w4, w4 = w3.drew := ⟨_, rfl⟩
  rw [← h4] at c1 c2 c3 c4 f3 f4 ⊢
  have H4 := Lib.hid h4
  clear h4
  repeat still_step
  still_call (HM.out _)
  still_call (HN.out _)
  still_step
  refine wpStill_nil ?_
  change wpList _ _ _ _ _ w3.drew
  rw [← H4.out]
  go_wp2
  obtain ⟨w5, h5⟩ : ∃ w5, w5 = (w4.setCell ⟨w.heap.size + 1 + 1, 0, none⟩ (.int .u64 (n : Int))).setCell ⟨w.heap.size + 1 + 1, 1, none⟩ (.int .u64 (r : Int)) := ⟨_, rfl⟩
  rw [← h5]
  have d0 : w5.cell? ⟨w.heap.size + 1 + 1, 0, none⟩ = some (.int .u64 (n : Int)) := by rw [h5]; simp [go_sem, c3]
  have d1 : w5.cell? ⟨w.heap.size + 1 + 1, 1, none⟩ = some (.int .u64 (r : Int)) := by rw [h5]; simp [go_sem, c4]
  have hb5 : w5 = (((w.alloc (.cells #[.int .u64 (la : Int), .int .u64 (sa : Int)] 28)).alloc (.cells #[.int .u64 (lh : Int), .int .u64 (sh : Int)] 28)).alloc (.cells #[.int .u64 (n : Int), .int .u64 (r : Int)] 28)).drew := by
    rw [h5, H4.out, H3.out]
    simp [go_sem]
  try simp only [Exit.inBlock, Exit.then]
  refine bodyPost_ret (by simp [results, Try.results8, go_sem, d0, d1]; try rfl) rfl ?_
  exact ⟨rfl, hb5⟩

theorem cut_yes (la sa lh sh : Nat) (w : World) (h : lh ≤ la) (h2 : sa < 2305843009213693951) (h3 : sh < 2305843009213693951) (h4 : la < 18446744073709551616) :
    Calls Try.prog 8 #[.agg #[.int .u64 (la : Int), .int .u64 (sa : Int)], .agg #[.int .u64 (lh : Int), .int .u64 (sh : Int)]] w
      fun e w' => e = .returned (.tuple #[.agg #[.int .u64 ((la - lh : Nat) : Int), .int .u64 (((sa + (2305843009213693951 - sh * dPow (la - lh) % 2305843009213693951)) % 2305843009213693951 : Nat) : Int)], .bool true]) ∧ Below w.heap.size w w' := by
  refine (cut_exact la sa lh sh w h h2 h3 h4).mono ?_
  rintro e w' ⟨he, rfl⟩
  exact ⟨he, (((Below.alloc0 w _).alloc (by simp) _).alloc (by simp; omega) _).drew⟩
end Go.Proofs.Ytiajcolhemdnaaa
