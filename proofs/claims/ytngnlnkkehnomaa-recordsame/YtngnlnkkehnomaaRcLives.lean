/- The chapter's example (lives), over any world. -/
import Derived.Test.YtngnlnkkehnomaaRcBytes
namespace Go.Proofs.Ytngnlnkkehnomaa
open Go.RowKit
set_option linter.unusedSimpArgs false

theorem hole_ok : Rec.ok ⟨3, 0, 0, 2, 5, [], 0, 0, 0⟩ = true := by simp [Rec.ok, isRunB, Rec.eq]

theorem hole_bytes : Rec.bytes ⟨3, 0, 0, 2, 5, [], 0, 0, 0⟩ = [7, 3, 2, 5] ++ sumB (cSum [3, 2, 5]) := by
  have e1 : Rec.plain ⟨3, 0, 0, 2, 5, [], 0, 0, 0⟩ = [3, 2, 5] := by simp [Rec.plain, vEnc_small]
  have e2 : ([3, 2, 5] ++ sumB (cSum [3, 2, 5])).length = 7 := rfl
  unfold Rec.bytes
  rw [e1]
  unfold tEnc
  rw [e2, vEnc_small (by omega)]
  rfl

set_option maxHeartbeats 1000000 in
set_option maxRecDepth 100000 in
theorem lives_any (w : World) : Calls Try.prog 6 #[] w fun e w' => e = .returned (.bool true) ∧ Below w.heap.size w w' := by
  have HL := rbytes_any ⟨3, 0, 0, 2, 5, [], 0, 0, 0⟩ none 0 0 w ⟨rfl, by simp, by omega⟩
  have HL2 : Hid (Calls Try.prog 8 #[.agg #[.int .u8 3, .int .i64 0, .int .i64 0, .int .i64 2, .int .i64 5, .slice none 0 0, .int .i64 0, .int .u64 0, .int .u64 0]] w fun e w' => ∃ a c, e = .returned (.tuple #[.slice a 8 c, .int .i64 0]) ∧ 8 ≤ c ∧ Hid (Rd w' a 8 ([7, 3, 2, 5] ++ sumB (cSum [3, 2, 5]))) ∧ Hid (Below w.heap.size w w')) := by
    refine Lib.hid (HL.mono ?_)
    rintro e w' ⟨hb, h⟩
    rcases h with ⟨h0, _⟩ | ⟨_, a, c, rfl, ho⟩
    · rw [hole_ok] at h0; cases h0
    · rw [hole_bytes] at ho ⊢
      obtain ⟨a', c', hv, hr, hc⟩ := ho.sl
      injection hv with h1 h2 h3
      subst h1 h3
      exact ⟨a, c, rfl, hc, Lib.hid hr, Lib.hid hb⟩
  clear HL
  go_enter Try.func6, Try.ntmps6
  go_wp2_with fail
  refine HL2.out.mono ?_
  rintro e w1 ⟨a, c, rfl, hc, HR, HB⟩
  have hs4 : ∀ W : World, (Instr.slice 25 (.slice a 8 c) none (some (.int .i64 4)) none).run Try.prog W = .ok (.slice a 4 c) W := fun W => slice_to a 8 c 4 .i64 (by omega) W
  have hcv := conv_rd (HR.out.first (k := 4) (by omega)) c
  have ht : ([7, 3, 2, 5] ++ sumB (cSum [3, 2, 5])).take 4 = [7, 3, 2, 5] := rfl
  rw [ht] at hcv
  have hzz : ((strB [7, 3, 2, 5]).toList == ([7, 3, 2, 5] : List UInt8)) = true := by rw [ByteArray.toList_eq]; rfl
  generalize strB [7, 3, 2, 5] = sl at hcv hzz
  clear ht HL2
  go_wp2
  go_ret
  exact ⟨rfl, HB.out⟩

end Go.Proofs.Ytngnlnkkehnomaa
