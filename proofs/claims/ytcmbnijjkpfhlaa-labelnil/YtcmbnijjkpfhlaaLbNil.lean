/- No library: Put and Get of it; LabelNil, walked; over any world. -/
import Derived.Test.YtcmbnijjkpfhlaaLbLives
namespace Go.Proofs.Ytcmbnijjkpfhlaa
open Go.RowKit
set_option linter.unusedSimpArgs false

theorem loadNil_any (w : World) (z : Int) : Calls Try.prog 20 #[.pointer none, .int .i64 z] w fun e w' => e = .returned (.int .i64 1) ∧ w' = w := by
  go_enter Try.func20, Try.ntmps20
  go_wp2
  go_ret
  exact ⟨rfl, rfl⟩

set_option maxHeartbeats 1000000 in
set_option maxRecDepth 100000 in
theorem putNil_any (w : World) (z : Int) : Calls Try.prog 24 #[.pointer none, .int .i64 z, .agg #[.string ⟨#[97]⟩, .int .i64 1, .int .i64 0]] w fun e w' => e = .returned (.tuple #[.int .i64 0, .int .i64 1]) ∧ Below w.heap.size w w' := by
  have HL2 : Hid (∀ W, Calls Try.prog 8 #[.agg #[.string ⟨#[97]⟩, .int .i64 1, .int .i64 0]] W fun e w' => ∃ a c, e = .returned (.tuple #[.slice a 9 c, .int .i64 0]) ∧ Hid (Below W.heap.size W w')) := by
    refine Lib.hid fun W => ?_
    have HL := lbytes_any ⟨[97], 1, 0⟩ W (one_fits _ _) (by simp)
    have hv : lbV ⟨[97], 1, 0⟩ = .agg #[.string ⟨#[97]⟩, .int .i64 1, .int .i64 0] := by simp only [lbV, strB_97]
    rw [hv] at HL
    refine HL.mono ?_
    rintro e w' ⟨hb, h⟩
    rcases h with ⟨h0, _⟩ | ⟨_, a, c, rfl, ho⟩
    · rw [one_ok] at h0; cases h0
    · rw [one_bytes]
      exact ⟨a, c, rfl, Lib.hid hb⟩
  go_enter Try.func24, Try.ntmps24
  go_wp2_with fail
  refine (HL2.out _).mono ?_
  rintro e w1 ⟨a, c, rfl, HB⟩
  go_wp2_with fail
  refine (loadNil_any _ z).mono ?_
  rintro e _ ⟨rfl, rfl⟩
  go_wp2
  go_ret2
  exact ⟨rfl, (Below.alloc0 _ _).trans (HB.out.mono (by simp))⟩

set_option maxHeartbeats 1000000 in
set_option maxRecDepth 100000 in
theorem getNil_any (w : World) (z : Int) : Calls Try.prog 27 #[.pointer none, .int .i64 z] w fun e w' => e = .returned (.tuple #[.agg #[.string ⟨#[]⟩, .int .i64 0, .int .i64 0], .int .i64 1]) ∧ Below w.heap.size w w' := by
  go_enter Try.func27, Try.ntmps27
  go_wp2_with fail
  refine (loadNil_any _ z).mono ?_
  rintro e _ ⟨rfl, rfl⟩
  go_wp2
  refine bodyPost_ret (v := .tuple #[.agg #[.string ⟨#[]⟩, .int .i64 0, .int .i64 0], .int .i64 1]) (by simp [results, Try.results27, go_sem]; try rfl) rfl ?_
  exact ⟨rfl, Below.alloc0 _ _⟩

set_option maxHeartbeats 1000000 in
set_option maxRecDepth 100000 in
theorem labelNil_walk (w : World) (z : Int) :
    Calls Try.prog 6 #[.int .i64 z] w fun e w' => e = .returned (.bool true) ∧ Below w.heap.size w w' := by
  have HL := Lib.hid (lives_any w)
  go_enter Try.func6, Try.ntmps6
  go_wp2_with fail
  refine HL.out.mono ?_
  rintro e w1 ⟨rfl, B1⟩
  have HB1 := Lib.hid B1
  clear B1 HL
  go_wp2_with fail
  refine (putNil_any w1 z).mono ?_
  rintro e w2 ⟨rfl, B2⟩
  have HB2 := Lib.hid (HB1.out.trans (B2.mono HB1.out.size))
  clear B2 HB1
  go_wp2_with fail
  refine (getNil_any w2 z).mono ?_
  rintro e w3 ⟨rfl, B3⟩
  have HB3 := Lib.hid (HB2.out.trans (B3.mono HB2.out.size))
  clear B3 HB2
  go_wp2
  go_ret
  exact ⟨rfl, HB3.out.alloc HB3.out.size _⟩

end Go.Proofs.Ytcmbnijjkpfhlaa
