/- The block of a tape's block: Read's contract, over any world. -/
import Derived.Test.YtkfnjekeegebaaaSgParse
import Derived.Test.YtkfnjekeegebaaaCheckOf
namespace Go.Proofs.Ytkfnjekeegebaaa
open Go.RowKit
set_option linter.unusedSimpArgs false

set_option maxHeartbeats 1000000 in
set_option maxRecDepth 100000 in
theorem sread_any (a : Option Addr) (n c : Nat) (l : List Nat) (w : World) (h : Rd w a n l) (hn : n ≤ 1000000) (hc : n ≤ c) :
    Calls Try.prog 8 #[.slice a n c] w fun e w' => Below w.heap.size w w' ∧ ∃ v, e = .returned (.tuple #[v, .int .i64 ((rdSg l).2 : Int)]) ∧ SgV w' v (rdSg l).1 ∧ SgLo w.heap.size v := by
  have HOP := Lib.hid (chkOpen_any a n c l w h hn hc)
  have HLN : Hid (l.length = n) := Lib.hid h.1
  have HQ0 : Hid (rdSg l = if Sealed l then (match sgOf (l.take (l.length - 4)) with | some x => (some x, 0) | none => (none, 3)) else (none, 4)) := Lib.hid rfl
  obtain ⟨Y, hY⟩ : ∃ Y, Y = rdSg l := ⟨_, rfl⟩
  rw [← hY] at HQ0 ⊢
  clear hY h hc
  go_enter Try.func8, Try.ntmps8
  go_wp2_with fail
  refine HOP.out.mono ?_
  rintro e w1 ⟨hb1, ⟨hns, rfl⟩ | ⟨hsd, v, rfl, ho⟩⟩
  · have hY4 : Y = (none, 4) := by rw [HQ0.out, if_neg hns]
    subst hY4
    go_wp2
    go_ret2
    exact ⟨hb1, _, rfl, rfl, SgLo.nil _⟩
  · obtain ⟨aV, cV, rfl, hrV, hcV, hlV⟩ := ho.lies
    have hY3 : Y = (match sgOf (l.take (l.length - 4)) with | some x => (some x, 0) | none => (none, 3)) := by rw [HQ0.out, if_pos hsd]
    obtain ⟨P, hP⟩ : ∃ P, P = l.take (n - 4) := ⟨_, rfl⟩
    rw [HLN.out, ← hP] at hY3
    rw [← hP] at hrV hcV ⊢
    have hPl : P.length ≤ 1000000 := by rw [hP]; simp; omega
    have HPA := Lib.hid (sparse_any aV P.length cV P w1 hrV hPl hcV)
    obtain ⟨R, hR⟩ : ∃ R, R = sgOf P := ⟨_, rfl⟩
    rw [← hR] at HPA hY3
    have HB1 := Lib.hid hb1
    have HLB : Hid (∀ b o f, aV = some ⟨b, o, f⟩ → w.heap.size ≤ b) := Lib.hid fun b o f h => by
      rcases ho.2.2 with ⟨e, _⟩ | ⟨g, cap, cur, e, hg, _⟩
      · injection e with e _ _; rw [h] at e; cases e
      · injection e with e _ _; rw [h] at e; injection e with e; injection e with e1 _ _; rw [e1]; exact hg
    clear hR hP hPl hrV hcV hlV ho hsd hb1 HQ0 HOP
    cases R with
    | none =>
      subst hY3
      go_wp2_with fail
      refine HPA.out.mono ?_
      rintro e w2 ⟨hb2, v, rfl, hv, hlo⟩
      clear hlo
      simp only [Option.isSome]
      go_wp2
      go_ret2
      exact ⟨HB1.out.trans (hb2.mono HB1.out.size), _, rfl, rfl, SgLo.nil _⟩
    | some x =>
      subst hY3
      go_wp2_with fail
      refine HPA.out.mono ?_
      rintro e w2 ⟨hb2, v, rfl, hv, hlo⟩
      have HV := Lib.hid (hv rfl)
      have HLO := Lib.hid (hlo _ HLB.out)
      clear hv hlo
      simp only [Option.isSome]
      go_wp2
      go_ret2
      exact ⟨HB1.out.trans (hb2.mono HB1.out.size), v, rfl, HV.out, HLO.out⟩

end Go.Proofs.Ytkfnjekeegebaaa
