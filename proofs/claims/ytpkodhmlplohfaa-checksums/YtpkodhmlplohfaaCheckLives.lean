/- The contract of the statements' own 'lives' of layer 2, over any world. -/
import Derived.Test.YtpkodhmlplohfaaCheckRef
namespace Go.Proofs.Ytpkodhmlplohfaa
open Go.RowKit

theorem cSum_nil : cSum [] = 0 := by kernel_rfl
theorem cSum_01 : cSum [1] = 2848450744 := by kernel_rfl

theorem of_none (w : World) : Calls Try.prog 9 #[.slice none 0 0] w fun e w' => e = .returned (.int .u32 0) ∧ w' = w := by
  refine (of_any none 0 0 [] w ⟨rfl, by omega⟩ (by omega) (by simp)).mono ?_
  rintro e w' ⟨rfl, rfl⟩
  have : ([] : List (List Nat)).flatten = [] := rfl
  rw [this, cSum_nil]
  exact ⟨rfl, rfl⟩

theorem rd_one (w : World) : Rd (w.alloc (.cells #[.int .u8 1] 5)) (some ⟨w.heap.size, 0, none⟩) 1 [1] := rd_new w [1] (by simp)

theorem of_01 (w : World) : Calls Try.prog 9 #[.slice (some ⟨w.heap.size + 1, 0, none⟩) 1 1] ((w.alloc (.cells #[.int .u8 1] 5)).alloc (.cells #[.slice (some ⟨w.heap.size, 0, none⟩) 1 1] 22))
    fun e w' => (∃ S : Nat, e = .returned (.int .u32 (S : Int)) ∧ ((S : Int) != 0) = true) ∧ Below w.heap.size w w' := by
  have h := of_one (c := 1) (rd_one w) (by omega) 22
  have e1 : (w.alloc (.cells #[.int .u8 1] 5)).heap.size = w.heap.size + 1 := by simp
  rw [e1] at h
  refine h.mono ?_
  rintro e w2 ⟨he, rfl⟩
  exact ⟨⟨_, he, by rw [cSum_01]; rfl⟩, ((Below.refl _ _).alloc (Nat.le_refl _) _).alloc (by simp) _⟩

theorem seal_01 (w : World) : Calls Try.prog 6 #[.slice (some ⟨w.heap.size, 0, none⟩) 1 1] (w.alloc (.cells #[.int .u8 1] 5)) fun e w' => (∃ a c, e = .returned (.slice a 5 c)) ∧ Below w.heap.size w w' := by
  obtain ⟨S, hS⟩ : ∃ S, S = cSum [1] := ⟨_, rfl⟩
  have h := seal_any _ 1 1 [1] _ (rd_one w) (by omega)
  rw [← hS] at h
  clear hS
  refine h.mono ?_
  rintro e w4 ⟨v, rfl, ho, hb⟩
  obtain ⟨a, c, rfl, _⟩ := ho.sl
  exact ⟨⟨a, c, rfl⟩, (Below.alloc0 _ _).trans (hb.mono (by simp))⟩

set_option maxHeartbeats 400000 in
set_option maxRecDepth 100000 in
theorem lives_any (w : World) : Calls Try.prog 5 #[] w fun e w' => e = .returned (.bool true) ∧ Below w.heap.size w w' := by
  go_enter Try.func5, Try.ntmps5
  go_wp2_with fail
  refine (of_none w).mono ?_
  rintro e w1 ⟨rfl, rfl⟩
  go_wp2_with fail
  refine (of_01 w1).mono ?_
  rintro e w2 ⟨⟨S, rfl, hS⟩, hb⟩
  have HB := Lib.hid hb
  clear hb
  go_wp2_with fail
  refine (seal_01 w2).mono ?_
  rintro e w4 ⟨⟨a, c, rfl⟩, hb⟩
  have HB4 := Lib.hid hb
  clear hb
  go_wp2
  go_ret
  exact ⟨rfl, HB.out.trans (HB4.out.mono HB.out.size)⟩
end Go.Proofs.Ytpkodhmlplohfaa
