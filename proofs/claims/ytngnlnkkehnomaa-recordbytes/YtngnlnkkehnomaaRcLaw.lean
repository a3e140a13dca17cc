/- The statements' own Plain, over any world. -/
import Derived.Test.YtngnlnkkehnomaaRcEq
import Derived.Handy
namespace Go.Proofs.Ytngnlnkkehnomaa
open Go.RowKit
set_option linter.unusedSimpArgs false

set_option maxHeartbeats 1000000 in
set_option maxRecDepth 100000 in
theorem lawPlain_any (x : Rec) (a : Option Addr) (n cap : Nat) (w : World) (h : Rd w a n x.l) :
    Calls Try.prog 7 #[rcV x a n cap] w fun e w' => e = .returned (pcV x) ∧ Below w.heap.size w w' := by
  obtain ⟨k, i, b, f, t, l, c, dn, ds⟩ := x
  simp only at h
  have hcv : ∀ o1 o2, (convert 25 9 (.slice a n cap)).run Try.prog ((w.alloc o1).alloc o2) = .ok (.string (strB l)) ((w.alloc o1).alloc o2) :=
    fun o1 o2 => conv_rd ((h.later (Below.alloc0 _ _)).later (Below.alloc0 _ _)) cap
  clear h
  simp only [rcV, pcV]
  go_enter Try.func7, Try.ntmps7
  go_wp2
  go_returns
  exact ⟨rfl, ((Below.refl _ _).alloc (Nat.le_refl _) _).alloc (by simp) _⟩

end Go.Proofs.Ytngnlnkkehnomaa
