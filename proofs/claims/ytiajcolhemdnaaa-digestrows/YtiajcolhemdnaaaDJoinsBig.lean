/- DigestJoins returns true, whatever the two digests. -/
import Derived.Test.YtiajcolhemdnaaaDRow
import Derived.Test.YtiajcolhemdnaaaOrders
import Derived.Deep.DeepCutAuto
namespace Go.Proofs.Ytiajcolhemdnaaa
open Go.RowKit

/-- What the two boxes hold behind the first call. -/
theorem boxed {la sa lb sb : Nat} {w w1 : World} (h : Below ((w.alloc (.cells #[.int .u64 (la : Int), .int .u64 (sa : Int)] 28)).alloc (.cells #[.int .u64 (lb : Int), .int .u64 (sb : Int)] 28)).heap.size ((w.alloc (.cells #[.int .u64 (la : Int), .int .u64 (sa : Int)] 28)).alloc (.cells #[.int .u64 (lb : Int), .int .u64 (sb : Int)] 28)) w1) :
    Hid (Below w.heap.size w w1) ∧ w1.cell? ⟨w.heap.size, 0, none⟩ = some (.int .u64 (la : Int)) ∧ w1.cell? ⟨w.heap.size, 1, none⟩ = some (.int .u64 (sa : Int)) ∧ w1.cell? ⟨w.heap.size + 1, 0, none⟩ = some (.int .u64 (lb : Int)) ∧ w1.cell? ⟨w.heap.size + 1, 1, none⟩ = some (.int .u64 (sb : Int)) := by
  have hb : Below w.heap.size w ((w.alloc (.cells #[.int .u64 (la : Int), .int .u64 (sa : Int)] 28)).alloc (.cells #[.int .u64 (lb : Int), .int .u64 (sb : Int)] 28)) := (Below.alloc0 w _).alloc (by simp) _
  refine ⟨Lib.hid (hb.trans (h.mono (by simp; omega))), ?_, ?_, ?_, ?_⟩
  · rw [h.cell (by simp; omega)]; simp [go_sem]
  · rw [h.cell (by simp; omega)]; simp [go_sem]
  · rw [h.cell (by simp)]; simp [go_sem]
  · rw [h.cell (by simp)]; simp [go_sem]

set_option maxHeartbeats 800000 in
set_option maxRecDepth 100000 in
theorem joins_big1 (la sa lb sb : Nat) (w : World) (h0 : 4611686018427387904 ≤ sa) :
    Calls Try.prog 4 #[.agg #[.int .u64 (la : Int), .int .u64 (sa : Int)], .agg #[.int .u64 (lb : Int), .int .u64 (sb : Int)]] w fun e w' => e = .returned (.bool true) ∧ Below w.heap.size w w' := by
  have e0 : decide ((4611686018427387904 : Int) ≤ (sa : Int)) = true := by simp; omega
  clear h0
  go_enter Try.func4, Try.ntmps4
  go_wp2_with fail
  refine (lives_any _).mono ?_
  rintro e w1 ⟨rfl, hb1⟩
  obtain ⟨HB1, c1, c2, c3, c4⟩ := boxed hb1
  clear hb1
  go_wp2_with fail
  refine (lives_any _).mono ?_
  rintro e w2 ⟨rfl, hb2⟩
  have HB2 := Lib.hid hb2
  clear hb2
  go_wp2
  go_ret
  exact ⟨rfl, HB1.out.trans (HB2.out.mono HB1.out.size)⟩

set_option maxHeartbeats 800000 in
set_option maxRecDepth 100000 in
theorem joins_big2 (la sa lb sb : Nat) (w : World) (h0 : sa < 4611686018427387904) (h1 : 4611686018427387904 ≤ sb) :
    Calls Try.prog 4 #[.agg #[.int .u64 (la : Int), .int .u64 (sa : Int)], .agg #[.int .u64 (lb : Int), .int .u64 (sb : Int)]] w fun e w' => e = .returned (.bool true) ∧ Below w.heap.size w w' := by
  have e0 : decide ((4611686018427387904 : Int) ≤ (sa : Int)) = false := by simp; omega
  have e1 : decide ((4611686018427387904 : Int) ≤ (sb : Int)) = true := by simp; omega
  clear h0 h1
  go_enter Try.func4, Try.ntmps4
  go_wp2_with fail
  refine (lives_any _).mono ?_
  rintro e w1 ⟨rfl, hb1⟩
  obtain ⟨HB1, c1, c2, c3, c4⟩ := boxed hb1
  clear hb1
  go_wp2_with fail
  refine (lives_any _).mono ?_
  rintro e w2 ⟨rfl, hb2⟩
  have HB2 := Lib.hid hb2
  clear hb2
  go_wp2
  go_ret
  exact ⟨rfl, HB1.out.trans (HB2.out.mono HB1.out.size)⟩

set_option maxHeartbeats 800000 in
set_option maxRecDepth 100000 in
theorem joins_big3 (la sa lb sb : Nat) (w : World) (h0 : sa < 4611686018427387904) (h1 : sb < 4611686018427387904) (h2 : 4611686018427387904 ≤ la) :
    Calls Try.prog 4 #[.agg #[.int .u64 (la : Int), .int .u64 (sa : Int)], .agg #[.int .u64 (lb : Int), .int .u64 (sb : Int)]] w fun e w' => e = .returned (.bool true) ∧ Below w.heap.size w w' := by
  have e0 : decide ((4611686018427387904 : Int) ≤ (sa : Int)) = false := by simp; omega
  have e1 : decide ((4611686018427387904 : Int) ≤ (sb : Int)) = false := by simp; omega
  have e2 : decide ((4611686018427387904 : Int) ≤ (la : Int)) = true := by simp; omega
  clear h0 h1 h2
  go_enter Try.func4, Try.ntmps4
  go_wp2_with fail
  refine (lives_any _).mono ?_
  rintro e w1 ⟨rfl, hb1⟩
  obtain ⟨HB1, c1, c2, c3, c4⟩ := boxed hb1
  clear hb1
  go_wp2_with fail
  refine (lives_any _).mono ?_
  rintro e w2 ⟨rfl, hb2⟩
  have HB2 := Lib.hid hb2
  clear hb2
  go_wp2
  go_ret
  exact ⟨rfl, HB1.out.trans (HB2.out.mono HB1.out.size)⟩

set_option maxHeartbeats 800000 in
set_option maxRecDepth 100000 in
theorem joins_big4 (la sa lb sb : Nat) (w : World) (h0 : sa < 4611686018427387904) (h1 : sb < 4611686018427387904) (h2 : la < 4611686018427387904) (h3 : 4611686018427387904 ≤ lb) :
    Calls Try.prog 4 #[.agg #[.int .u64 (la : Int), .int .u64 (sa : Int)], .agg #[.int .u64 (lb : Int), .int .u64 (sb : Int)]] w fun e w' => e = .returned (.bool true) ∧ Below w.heap.size w w' := by
  have e0 : decide ((4611686018427387904 : Int) ≤ (sa : Int)) = false := by simp; omega
  have e1 : decide ((4611686018427387904 : Int) ≤ (sb : Int)) = false := by simp; omega
  have e2 : decide ((4611686018427387904 : Int) ≤ (la : Int)) = false := by simp; omega
  have e3 : decide ((4611686018427387904 : Int) ≤ (lb : Int)) = true := by simp; omega
  clear h0 h1 h2 h3
  go_enter Try.func4, Try.ntmps4
  go_wp2_with fail
  refine (lives_any _).mono ?_
  rintro e w1 ⟨rfl, hb1⟩
  obtain ⟨HB1, c1, c2, c3, c4⟩ := boxed hb1
  clear hb1
  go_wp2_with fail
  refine (lives_any _).mono ?_
  rintro e w2 ⟨rfl, hb2⟩
  have HB2 := Lib.hid hb2
  clear hb2
  go_wp2
  go_ret
  exact ⟨rfl, HB1.out.trans (HB2.out.mono HB1.out.size)⟩
end Go.Proofs.Ytiajcolhemdnaaa
