/- The document's own Right, whatever the record; over any world. -/
import Derived.Test.YtngnlnkkehnomaaRrHead
import Derived.Test.YtngnlnkkehnomaaRrTail
import Derived.Test.YtngnlnkkehnomaaRrData
import Derived.Test.YtngnlnkkehnomaaRcOpen
namespace Go.Proofs.Ytngnlnkkehnomaa
open Go.RowKit
set_option linter.unusedSimpArgs false

set_option maxHeartbeats 1000000 in
set_option maxRecDepth 100000 in
theorem right_other (k : Nat) (i b f t c : Int) (l : List Nat) (dn ds : Nat) (w : World) (h1 : k ≠ 1) (h2 : k ≠ 2) (h3 : k ≠ 3) (h4 : k ≠ 4) :
    Calls Try.prog 9 #[pcV ⟨k, i, b, f, t, l, c, dn, ds⟩] w fun e w' => e = .returned (.bool false) ∧ Below w.heap.size w w' := by
  have e1 : ((k : Int) == 1) = false := by simp; omega
  have e2 : ((k : Int) == 2) = false := by simp; omega
  have e3 : ((k : Int) == 3) = false := by simp; omega
  have e4 : ((k : Int) == 4) = false := by simp; omega
  clear h1 h2 h3 h4
  simp only [pcV]
  go_enter Try.func9, Try.ntmps9
  go_wp2
  go_ret
  exact ⟨rfl, ((Below.refl _ _).alloc (Nat.le_refl _) _).alloc (by simp) _⟩

/-- May a record be? -/
theorem right_any (x : Rec) (w : World) (hx : x.fits) (hl : ∀ z ∈ x.l, z < 256) :
    Calls Try.prog 9 #[pcV x] w fun e w' => e = .returned (.bool x.ok) ∧ Below w.heap.size w w' := by
  obtain ⟨k, i, b, f, t, l, c, dn, ds⟩ := x
  simp only [Rec.fits] at hx
  by_cases h1 : k = 1
  · subst h1; exact right_head i b f t c l dn ds w hl
  by_cases h2 : k = 2
  · subst h2; exact right_data i b f t c l dn ds w hl hx.2.1
  by_cases h3 : k = 3
  · subst h3; exact right_hole i b f t c l dn ds w hl
  by_cases h4 : k = 4
  · subst h4
    by_cases hs : ds < 2305843009213693951
    · exact right_tail1 i b f t c l dn ds w hl hs
    · exact right_tail2 i b f t c l dn ds w hl hs
  have e : Rec.ok ⟨k, i, b, f, t, l, c, dn, ds⟩ = false := by simp [Rec.ok, h1, h2, h3, h4]
  rw [e]
  exact right_other k i b f t c l dn ds w h1 h2 h3 h4

end Go.Proofs.Ytngnlnkkehnomaa
