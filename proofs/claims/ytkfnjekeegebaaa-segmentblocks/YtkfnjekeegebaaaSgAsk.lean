/- What a block tells: the three methods, and ask (a deferred recover); over any world. -/
import Derived.Test.YtkfnjekeegebaaaSgMath
import Derived.Test.YtkfnjekeegebaaaBlk
import Derived.Defers
import Derived.Recover
import Derived.BigRegion
import Derived.BigQuiet
namespace Go.Proofs.Ytkfnjekeegebaaa
open Go.RowKit
set_option linter.unusedSimpArgs false

set_option maxHeartbeats 1000000 in
set_option maxRecDepth 100000 in
theorem headNums_any (a b c d e : Int) (w : World) :
    Calls Try.prog 78 #[.agg #[.int .i64 a, .int .i64 b, .int .i64 c, .int .i64 d, .int .i64 e]] w fun r w' => r = .returned (.tuple #[.int .u8 72, N5.val ⟨a, b, c, d, e⟩, .slice none 0 0]) ∧ Below w.heap.size w w' := by
  go_enter Try.func78, Try.ntmps78
  go_wp2
  go_region
  go_wp2
  refine bodyPost_ret (v := .tuple #[.int .u8 72, N5.val ⟨a, b, c, d, e⟩, .slice none 0 0]) (by simp [results, Try.results78, go_sem, N5.val]; try rfl) rfl ?_
  exact ⟨rfl, ((Below.alloc0 w _).alloc (by simp) _).drew⟩

set_option maxHeartbeats 1000000 in
set_option maxRecDepth 100000 in
theorem dataNums_any (a : Option Addr) (n c : Nat) (w : World) :
    Calls Try.prog 80 #[.slice a n c] w fun r w' => r = .returned (.tuple #[.int .u8 68, N5.val N5.zero, .slice a n c]) ∧ Below w.heap.size w w' := by
  go_enter Try.func80, Try.ntmps80
  go_wp2
  refine bodyPost_ret (v := .tuple #[.int .u8 68, N5.val N5.zero, .slice a n c]) (by simp [results, Try.results80, go_sem, N5.val, N5.zero]; try rfl) rfl ?_
  exact ⟨rfl, Below.alloc0 _ _⟩

theorem catch_idle (p : Addr) (v : Value) (w : World) (hc : w.cell? p = some v) (hz : w.frozen? p = false) :
    CallsD Try.prog 41 #[.pointer (some p)] .returning w fun e u' w' => e = .returned (.tuple #[]) ∧ u' = .returning ∧ w' = w.setCell p (.bool true) := by
  refine callsD_of_wpS Try.func41 rfl fun c₀ cs hu => ?_
  apply wpS_region
  simp [wpOpsS, go_sem, recoverD, hu, Try.ntmps41, Exit.thenS, hc, hz, bodyPostS, results, Try.results41]
  cases c₀
  simp_all

set_option maxHeartbeats 1000000 in
set_option maxRecDepth 100000 in
theorem tailNums_any (a b c d : Int) (z : Bool) (w : World) :
    Calls Try.prog 79 #[.agg #[.int .i64 a, .int .i64 b, .int .i64 c, .int .i64 d, .bool z]] w fun r w' => r = .returned (.tuple #[.int .u8 84, N5.val ⟨a, b, c, d, bit z⟩, .slice none 0 0]) ∧ Below w.heap.size w w' := by
  cases z with
  | false =>
    go_enter Try.func79, Try.ntmps79
    go_wp2
    go_region
    go_wp2
    refine bodyPost_ret (v := .tuple #[.int .u8 84, N5.val ⟨a, b, c, d, 0⟩, .slice none 0 0]) (by simp [results, Try.results79, go_sem, N5.val]; try rfl) rfl ?_
    exact ⟨rfl, ((Below.alloc0 w _).alloc (by simp) _).drew⟩
  | true =>
    go_enter Try.func79, Try.ntmps79
    go_wp2
    go_region
    go_wp2
    refine bodyPost_ret (v := .tuple #[.int .u8 84, N5.val ⟨a, b, c, d, 1⟩, .slice none 0 0]) (by simp [results, Try.results79, go_sem, N5.val]; try rfl) rfl ?_
    exact ⟨rfl, ((Below.alloc0 w _).alloc (by simp) _).drew⟩

theorem isData_any (a : Option Addr) (n c : Nat) (w : World) :
    Calls Try.prog 26 #[.slice a n c] w fun e w' => e = .returned (.bool (decide (1 ≤ n) && decide (n ≤ 160))) ∧ w = w' := by
  by_cases h1 : 1 ≤ n
  · have k1 : (1 : Int) ≤ (n : Int) := by omega
    by_cases h2 : n ≤ 160
    · have k2 : (n : Int) ≤ 160 := by omega
      go_enter Try.func26, Try.ntmps26
      go_wp2
      go_ret
      exact ⟨by simp [h1, h2], rfl⟩
    · have k2 : ¬ (n : Int) ≤ 160 := by omega
      go_enter Try.func26, Try.ntmps26
      go_wp2
      go_ret
      exact ⟨by simp [h1, h2], rfl⟩
  · have k1 : ¬ (1 : Int) ≤ (n : Int) := by omega
    go_enter Try.func26, Try.ntmps26
    go_wp2
    go_ret
    exact ⟨by simp [h1], rfl⟩

/-- No block tells nothing. -/
theorem ask_none (w : World) :
    Calls Try.prog 25 #[.nilIface] w fun r w' => r = .returned (.tuple #[.int .u8 0, N5.val N5.zero, .slice none 0 0, .bool false]) ∧ Below w.heap.size w w' := by
  go_enter_defers Try.func25, Try.ntmps25
  go_wp2
  go_region
  go_wp2
  simp [bodyPostD, Leaves, settle, results, Try.results25, go_sem, N5.val, N5.zero]
  exact ((Below.alloc0 w _).alloc (by simp) _).drew

end Go.Proofs.Ytkfnjekeegebaaa
