/- A block's bytes: the contract of Bytes, over any world. -/
import Derived.Test.YtkfnjekeegebaaaSgPlain
import Derived.Test.YtkfnjekeegebaaaCheckOf
namespace Go.Proofs.Ytkfnjekeegebaaa
open Go.RowKit
set_option linter.unusedSimpArgs false

theorem sbytes_none (w : World) :
    Calls Try.prog 6 #[.nilIface] w fun e w' => Below w.heap.size w w' ∧ e = .returned (.tuple #[.slice none 0 0, .int .i64 1]) := by
  have HA := Lib.hid (plain_none w)
  go_enter Try.func6, Try.ntmps6
  go_wp2_with fail
  refine HA.out.mono ?_
  rintro e w1 ⟨hb1, rfl⟩
  go_wp2
  go_ret2
  exact ⟨hb1, rfl⟩

set_option maxHeartbeats 1000000 in
set_option maxRecDepth 100000 in
theorem sbytes_any (v : Value) (x : Sg) (w : World) (h : SgV w v (some x)) :
    Calls Try.prog 6 #[v] w fun e w' => Below w.heap.size w w' ∧
      ((x.ok = false ∧ e = .returned (.tuple #[.slice none 0 0, .int .i64 1])) ∨ (x.ok = true ∧ ∃ a c, e = .returned (.tuple #[.slice a x.bytes.length c, .int .i64 0]) ∧ Own w' w.heap.size (.slice a x.bytes.length c) x.bytes)) := by
  have HA := Lib.hid (plain_any v x w h)
  have HBY : Hid (x.bytes = x.plain ++ sumB (cSum x.plain)) := Lib.hid rfl
  have HPL : Hid (x.ok = true → x.plain.length ≤ 161) := Lib.hid fun h => (Sg.plain_len h).2
  clear h
  obtain ⟨B, hB⟩ : ∃ B, B = x.bytes := ⟨_, rfl⟩
  obtain ⟨P, hP⟩ : ∃ P, P = x.plain := ⟨_, rfl⟩
  obtain ⟨O, hO⟩ : ∃ P, P = x.ok := ⟨_, rfl⟩
  rw [← hP, ← hO] at HA HPL
  rw [← hB, ← hP] at HBY
  rw [← hB, ← hO]
  clear hB hP hO
  go_enter Try.func6, Try.ntmps6
  go_wp2_with fail
  refine HA.out.mono ?_
  rintro e w1 ⟨hb1, ⟨rfl, rfl⟩ | ⟨rfl, s, rfl, ho⟩⟩
  · go_wp2
    go_ret2
    exact ⟨hb1, rfl⟩
  · obtain ⟨a, c, rfl, hr, hc⟩ := ho.sl
    have HR := Lib.hid hr
    have HB1 := Lib.hid hb1
    clear hr hb1 ho
    go_wp2_with fail
    refine (seal_any a P.length c P w1 HR.out (by have := HPL.out trivial; omega)).mono ?_
    rintro e w2 ⟨s2, rfl, ho2, hb2⟩
    rw [← HBY.out] at ho2
    obtain ⟨a2, c2, rfl, hr2, hc2⟩ := ho2.sl
    go_wp2
    go_ret2
    exact ⟨HB1.out.trans (hb2.mono HB1.out.size), a2, c2, rfl, ho2.mono HB1.out.size⟩

set_option maxHeartbeats 1000000 in
set_option maxRecDepth 100000 in
/-- The chapter's example. -/
theorem sgLives_any (w : World) : Calls Try.prog 5 #[] w fun e w' => e = .returned (.bool true) ∧ Below w.heap.size w w' := by
  have HL : Hid (Calls Try.prog 6 #[.iface 32 (.slice (some ⟨w.heap.size, 0, none⟩) 1 1)] (w.alloc (.cells #[.int .u8 7] 5)) fun e w' => ∃ a c, e = .returned (.tuple #[.slice a 6 c, .int .i64 0]) ∧ 6 ≤ c ∧ Hid (Rd w' a 6 ([68, 7] ++ sumB (cSum [68, 7]))) ∧ Hid (Below w.heap.size w w')) := by
    have h := sbytes_any (.iface 32 (.slice (some ⟨w.heap.size, 0, none⟩) 1 1)) (.data [7]) (w.alloc (.cells #[.int .u8 7] 5)) ⟨_, 1, 1, rfl, rd_new w [7] (by intro z hz; simp at hz; omega), Nat.le_refl _⟩
    refine Lib.hid (h.mono ?_)
    rintro e w' ⟨hb, ⟨h0, _⟩ | ⟨_, a, c, rfl, ho⟩⟩
    · simp [Sg.ok] at h0
    · obtain ⟨a', c', hv, hr, hc⟩ := ho.sl
      injection hv with h1 h2 h3
      subst h1 h3
      exact ⟨a, c, rfl, hc, Lib.hid hr, Lib.hid ((Below.alloc0 w _).trans (hb.mono (by simp)))⟩
  go_enter Try.func5, Try.ntmps5
  go_wp2_with fail
  refine HL.out.mono ?_
  rintro e w1 ⟨a, c, rfl, hc, HR, HB⟩
  have hs4 : ∀ W : World, (Instr.slice 26 (.slice a 6 c) none (some (.int .i64 2)) none).run Try.prog W = .ok (.slice a 2 c) W := fun W => slice_to a 6 c 2 .i64 (by omega) W
  have hcv := conv_rd (HR.out.first (k := 2) (by omega)) c
  have ht : ([68, 7] ++ sumB (cSum [68, 7])).take 2 = [68, 7] := rfl
  rw [ht] at hcv
  have hzz : ((strB [68, 7]).toList == ([68, 7] : List UInt8)) = true := by rw [ByteArray.toList_eq]; rfl
  generalize strB [68, 7] = sl at hcv hzz
  clear ht HL
  go_wp2
  go_ret
  exact ⟨by simp [hzz], HB.out⟩

end Go.Proofs.Ytkfnjekeegebaaa
