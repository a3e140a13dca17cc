/- The contract of the document's In (revenantref08), over any world. -/
import Derived.Test.YtlmieegemckodaaEInAll
namespace Go.Proofs.Ytlmieegemckodaa
open Go.RowKit

theorem inB_drop {L : List Rn} {j : Nat} {x : Int} {r : Rn} (hj : j < L.length) (hr : r = L.getD j default) : inB (L.drop j) x = (decide (r.f ≤ x) && decide (x < r.t) || inB (L.drop (j + 1)) x) := by
  have e : L.drop j = L[j] :: L.drop (j + 1) := List.drop_eq_getElem_cons hj
  have e2 : L.getD j default = L[j] := by simp [List.getD, hj]
  unfold inB
  rw [e, List.any_cons, hr, e2]

set_option maxHeartbeats 1000000 in
set_option maxRecDepth 100000 in
theorem refIn_any (a : Option Addr) (n c : Nat) (L : List Rn) (x : Int) (w : World) (h : RdR w a n L) (hn : n ≤ 1000) :
    Calls Try.prog 52 #[.slice a n c, .int .i64 x] w fun e w' => e = .returned (.bool (inB L x)) ∧ Below w.heap.size w w' := by
  have HR := Lib.hid h
  obtain ⟨Y, hY⟩ : ∃ Y, Y = inB L x := ⟨_, rfl⟩
  rw [← hY]
  have HY := Lib.hid hY
  clear h hY
  go_enter Try.func52, Try.ntmps52
  go_wp2
  go_loopg [5] n (fun k i wr => ∃ j : Nat, k = n - j ∧ j ≤ n ∧ i = .int .i64 (j : Int) ∧ Hid (Y = inB (L.drop j) x) ∧ Hid (Below w.heap.size w wr))
  case atStart => exact ⟨0, rfl, Nat.zero_le _, rfl, Lib.hid (by simpa using HY.out), Lib.hid (Below.refl _ _)⟩
  case round =>
    obtain ⟨j, hk, hj, rfl, HJ, HB⟩ := hrel
    have HK := Lib.hid hk
    clear hk
    by_cases hlt : j < n
    · obtain ⟨b, o, r, rfl, hre, _, e0, e1⟩ := HR.out.at_ HB.out hlt
      have hst := inB_drop (x := x) (show j < L.length by have := HR.out.1; omega) hre
      have HST := Lib.hid hst
      obtain ⟨f, t⟩ := r
      simp only at e0 e1 HST
      clear hst hre
      by_cases h1 : f ≤ x
      · by_cases h2 : x < t
        · have hyt : Y = true := by rw [HJ.out, HST.out]; simp [h1, h2]
          subst hyt
          go_wp2
          go_ret
          exact ⟨rfl, HB.out⟩
        · have h2' : t ≤ x := by omega
          have HJ2 : Hid (Y = inB (L.drop (j + 1)) x) := Lib.hid (by rw [HJ.out, HST.out]; simp [h2])
          go_wp2
          go_roundg (n - (j + 1))
          case measure => have := HK.out; omega
          case rel => exact ⟨j + 1, rfl, by omega, by go_num, HJ2, HB⟩
      · have h1' : x < f := by omega
        have HJ2 : Hid (Y = inB (L.drop (j + 1)) x) := Lib.hid (by rw [HJ.out, HST.out]; simp [h1])
        go_wp2
        go_roundg (n - (j + 1))
        case measure => have := HK.out; omega
        case rel => exact ⟨j + 1, rfl, by omega, by go_num, HJ2, HB⟩
    · obtain rfl : j = n := by omega
      have hyf : Y = false := by rw [HJ.out, List.drop_eq_nil_of_le (by rw [HR.out.1]; exact Nat.le_refl _)]; rfl
      subst hyf
      go_wp2
      go_ret
      exact ⟨rfl, HB.out⟩

end Go.Proofs.Ytlmieegemckodaa
