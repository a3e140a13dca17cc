/- The chapter's example (lives), over any world. -/
import Derived.Test.YtcmbnijjkpfhlaaLbBytes
namespace Go.Proofs.Ytcmbnijjkpfhlaa
open Go.RowKit
set_option linter.unusedSimpArgs false

theorem one_ok : Lab.ok ⟨[97], 1, 0⟩ = true := by simp [Lab.ok, poolB, lett]

theorem one_fits (g m : Int) : Lab.fits ⟨[97], g, m⟩ := by
  intro z hz
  simp at hz
  omega

theorem one_bytes : Lab.bytes ⟨[97], 1, 0⟩ = [76, 1, 97, 1, 0] ++ sumB (cSum [76, 1, 97, 1, 0]) := by
  have e1 : Lab.plain ⟨[97], 1, 0⟩ = [76, 1, 97, 1, 0] := by simp [Lab.plain, tEnc, vEnc_small]
  unfold Lab.bytes
  rw [e1]

theorem strB_97 : strB [97] = ⟨#[97]⟩ := rfl

theorem strB_abc : strB [97, 98, 99] = ⟨#[97, 98, 99]⟩ := rfl

set_option maxHeartbeats 1000000 in
set_option maxRecDepth 100000 in
theorem lives_any (w : World) : Calls Try.prog 7 #[] w fun e w' => e = .returned (.bool true) ∧ Below w.heap.size w w' := by
  have HL := lbytes_any ⟨[97], 1, 0⟩ w (one_fits _ _) (by simp)
  have HL2 : Hid (Calls Try.prog 8 #[.agg #[.string ⟨#[97]⟩, .int .i64 1, .int .i64 0]] w fun e w' => ∃ a c, e = .returned (.tuple #[.slice a 9 c, .int .i64 0]) ∧ 9 ≤ c ∧ Hid (Rd w' a 9 ([76, 1, 97, 1, 0] ++ sumB (cSum [76, 1, 97, 1, 0]))) ∧ Hid (Below w.heap.size w w')) := by
    have hv : lbV ⟨[97], 1, 0⟩ = .agg #[.string ⟨#[97]⟩, .int .i64 1, .int .i64 0] := by simp only [lbV, strB_97]
    rw [hv] at HL
    refine Lib.hid (HL.mono ?_)
    rintro e w' ⟨hb, h⟩
    rcases h with ⟨h0, _⟩ | ⟨_, a, c, rfl, ho⟩
    · rw [one_ok] at h0; cases h0
    · rw [one_bytes] at ho ⊢
      obtain ⟨a', c', hv, hr, hc⟩ := ho.sl
      injection hv with h1 h2 h3
      subst h1 h3
      exact ⟨a, c, rfl, hc, Lib.hid hr, Lib.hid hb⟩
  have HPO : Hid (∀ W, Calls Try.prog 12 #[.string ⟨#[97, 98, 99]⟩] W fun e w' => e = .returned (.bool true) ∧ Hid (Below W.heap.size W w')) := by
    refine Lib.hid fun W => ?_
    have h := pool_any [97, 98, 99] W (by intro z hz; simp at hz; omega) (by simp)
    rw [strB_abc] at h
    refine h.mono ?_
    rintro e w' ⟨rfl, hb⟩
    exact ⟨by simp [poolB, lett], Lib.hid hb⟩
  clear HL
  go_enter Try.func7, Try.ntmps7
  go_wp2_with fail
  refine HL2.out.mono ?_
  rintro e w1 ⟨a, c, rfl, hc, HR, HB⟩
  have hs4 : ∀ W : World, (Instr.slice 25 (.slice a 9 c) none (some (.int .i64 5)) none).run Try.prog W = .ok (.slice a 5 c) W := fun W => slice_to a 9 c 5 .i64 (by omega) W
  have hcv := conv_rd (HR.out.first (k := 5) (by omega)) c
  have ht : ([76, 1, 97, 1, 0] ++ sumB (cSum [76, 1, 97, 1, 0])).take 5 = [76, 1, 97, 1, 0] := rfl
  rw [ht] at hcv
  have hzz : ((strB [76, 1, 97, 1, 0]).toList == ([76, 1, 97, 1, 0] : List UInt8)) = true := by rw [ByteArray.toList_eq]; rfl
  generalize strB [76, 1, 97, 1, 0] = sl at hcv hzz
  clear ht HL2
  go_wp2_with fail
  refine (HPO.out _).mono ?_
  rintro e w2 ⟨rfl, hb2⟩
  go_wp2
  go_ret
  exact ⟨rfl, HB.out.trans (hb2.out.mono HB.out.size)⟩

end Go.Proofs.Ytcmbnijjkpfhlaa
