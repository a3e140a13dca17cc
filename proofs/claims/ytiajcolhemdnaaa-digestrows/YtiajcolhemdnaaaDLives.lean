/- The contract of the statements' own 'lives' of layer 3, over any world. -/
import Derived.Test.YtiajcolhemdnaaaDJoin
import Derived.Test.YtiajcolhemdnaaaDRef
namespace Go.Proofs.Ytiajcolhemdnaaa
open Go.RowKit

theorem dSum_0 : dSum [0] = 1 := by kernel_rfl

theorem of_0 (w : World) : Calls Try.prog 7 #[.slice (some ⟨w.heap.size, 0, none⟩) 1 1] (w.alloc (.cells #[.int .u8 0] 5))
    fun e w' => e = .returned (.agg #[.int .u64 1, .int .u64 1]) ∧ Below w.heap.size w w' := by
  have h := of_any (some ⟨w.heap.size, 0, none⟩) 1 1 [0] _ (rd_new w [0] (by simp)) (by omega)
  rw [dSum_0] at h
  refine h.mono ?_
  rintro e w2 ⟨he, rfl⟩
  exact ⟨he, ((Below.refl _ _).alloc (Nat.le_refl _) _).alloc (by simp) _⟩

set_option maxHeartbeats 400000 in
set_option maxRecDepth 100000 in
theorem lives_any (w : World) : Calls Try.prog 5 #[] w fun e w' => e = .returned (.bool true) ∧ Below w.heap.size w w' := by
  go_enter Try.func5, Try.ntmps5
  go_wp2_with fail
  refine (of_0 w).mono ?_
  rintro e w1 ⟨rfl, hb⟩
  have HB := Lib.hid hb
  clear hb
  go_wp2
  go_ret
  exact ⟨rfl, HB.out⟩
end Go.Proofs.Ytiajcolhemdnaaa
