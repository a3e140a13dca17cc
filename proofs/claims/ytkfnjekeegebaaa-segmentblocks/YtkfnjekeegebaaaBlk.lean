/- A block of memory becomes another one: put, and its laws. -/
import Derived.Test.YtkfnjekeegebaaaRows
import Derived.WalkKit
import Derived.WalkSpells
import Derived.WalkLawsBesides
import Derived.Below
import Derived.Deep.LoopGhost
import Derived.Deep.AppendLies
import Derived.Maps.AppendAt
import Derived.OwnWalk
import Derived.Lib.Hide
namespace Go.Proofs.Ytkfnjekeegebaaa
open Go.RowKit

/-- Block g becomes o. -/
def put (w : World) (g : Nat) (o : Obj) : World := { w with heap := w.heap.setIfInBounds g o }

theorem put_same {w : World} {g : Nat} {o o' : Obj} (h : w.heap[g]? = some o') : (put w g o).heap[g]? = some o := by
  have hlt : g < w.heap.size := (Array.getElem?_eq_some_iff.1 h).1
  simp [put, hlt]

theorem put_other {w : World} {g k : Nat} {o : Obj} (h : k ≠ g) : (put w g o).heap[k]? = w.heap[k]? := by
  simp [put, Array.getElem?_setIfInBounds_ne (Ne.symm h)]

theorem put_size (w : World) (g : Nat) (o : Obj) : (put w g o).heap.size = w.heap.size := by simp [put]

theorem put_put (w : World) (g : Nat) (o o' : Obj) : put (put w g o) g o' = put w g o' := by simp [put]

theorem put_grown (w : World) (g : Nat) (o : Obj) : w.grownBy (put w g o) (some g) :=
  ⟨rfl, rfl, rfl, by simp [put], fun k _ hne => put_other (by rintro rfl; exact hne rfl)⟩

theorem put_below {w : World} {g B : Nat} (o : Obj) (h : B ≤ g) : Below B w (put w g o) :=
  ⟨rfl, rfl, rfl, by simp [put], fun k hk => put_other (by omega)⟩

theorem put_self {w : World} {g : Nat} {o : Obj} (h : w.heap[g]? = some o) : put w g o = w := by
  have hlt : g < w.heap.size := (Array.getElem?_eq_some_iff.1 h).1
  have e : w.heap.setIfInBounds g o = w.heap := by
    apply Array.ext_getElem?
    intro i
    by_cases hi : i = g
    · subst hi
      rw [h]; simp [hlt]
    · rw [Array.getElem?_setIfInBounds_ne (Ne.symm hi)]
  simp only [put, e]

theorem set_put {w : World} {g i : Nat} {cs : Array Value} {T : TypeId} {fr : Nat × Nat} (u : Value) (h : w.heap[g]? = some (.cells cs T fr)) : w.setCell ⟨g, i, none⟩ u = put w g (.cells (cs.setIfInBounds i u) T fr) := by
  have hlt : g < w.heap.size := (Array.getElem?_eq_some_iff.1 h).1
  have e : ∀ f : Obj → Obj, w.heap.modify g f = w.heap.setIfInBounds g (f (.cells cs T fr)) := by
    intro f
    apply Array.ext_getElem?
    intro i
    rw [Array.getElem?_modify]
    by_cases hi : g = i
    · subst hi; rw [h]; simp [hlt]
    · rw [if_neg hi, Array.getElem?_setIfInBounds_ne hi]
  simp only [World.setCell, e, put]
  rfl

end Go.Proofs.Ytkfnjekeegebaaa
