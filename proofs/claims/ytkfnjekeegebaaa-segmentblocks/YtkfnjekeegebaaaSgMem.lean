/- Blocks of five, of seven cells. -/
import Derived.Test.YtkfnjekeegebaaaBlk
import Derived.Test.YtkfnjekeegebaaaSave
namespace Go.Proofs.Ytkfnjekeegebaaa
open Go.RowKit
set_option linter.unusedSimpArgs false

theorem five_cells {w : World} {q : Nat} {v0 v1 v2 v3 v4 : Value} {T : TypeId} (h : w.heap[q]? = some (.cells #[v0, v1, v2, v3, v4] T (0, 0))) :
    w.cell? ⟨q, 0, none⟩ = some v0 ∧ w.cell? ⟨q, 1, none⟩ = some v1 ∧ w.cell? ⟨q, 2, none⟩ = some v2 ∧ w.cell? ⟨q, 3, none⟩ = some v3 ∧ w.cell? ⟨q, 4, none⟩ = some v4 := by
  refine ⟨?_, ?_, ?_, ?_, ?_⟩ <;> simp [World.cell?, h]

theorem frozen0 {w : World} {q i : Nat} {cs : Array Value} {T : TypeId} (h : w.heap[q]? = some (.cells cs T (0, 0))) : w.frozen? ⟨q, i, none⟩ = false := by
  simp [World.frozen?, h]

theorem set_on {w : World} {g i : Nat} {cs cs' : Array Value} {T : TypeId} {o : Obj} (u : Value) (h : w.heap[g]? = some o) (he : cs.setIfInBounds i u = cs') :
    (put w g (.cells cs T (0, 0))).setCell ⟨g, i, none⟩ u = put w g (.cells cs' T (0, 0)) := by
  rw [set_put u (put_same h), put_put, he]

theorem five_put {w : World} {q : Nat} {u0 u1 u2 u3 u4 v0 v1 v2 v3 v4 : Value} {T : TypeId} (h : w.heap[q]? = some (.cells #[u0, u1, u2, u3, u4] T (0, 0))) :
    (((((w.setCell ⟨q, 0, none⟩ v0).setCell ⟨q, 1, none⟩ v1).setCell ⟨q, 2, none⟩ v2).setCell ⟨q, 3, none⟩ v3).setCell ⟨q, 4, none⟩ v4) = put w q (.cells #[v0, v1, v2, v3, v4] T (0, 0)) := by
  rw [set_put _ h, set_on _ h rfl, set_on _ h rfl, set_on _ h rfl, set_on _ h rfl]
  rfl

theorem seven_cells {w : World} {q : Nat} {v0 v1 v2 v3 v4 v5 v6 : Value} {T : TypeId} (h : w.heap[q]? = some (.cells #[v0, v1, v2, v3, v4, v5, v6] T (0, 0))) :
    w.cell? ⟨q, 0, none⟩ = some v0 ∧ w.cell? ⟨q, 1, none⟩ = some v1 ∧ w.cell? ⟨q, 2, none⟩ = some v2 ∧ w.cell? ⟨q, 3, none⟩ = some v3 ∧ w.cell? ⟨q, 4, none⟩ = some v4 ∧ w.cell? ⟨q, 5, none⟩ = some v5 ∧ w.cell? ⟨q, 6, none⟩ = some v6 := by
  refine ⟨?_, ?_, ?_, ?_, ?_, ?_, ?_⟩ <;> simp [World.cell?, h]

theorem seven_put {w : World} {q : Nat} {u0 u1 u2 u3 u4 u5 u6 v0 v1 v2 v3 v4 v5 v6 : Value} {T : TypeId} (h : w.heap[q]? = some (.cells #[u0, u1, u2, u3, u4, u5, u6] T (0, 0))) :
    (((((((w.setCell ⟨q, 0, none⟩ v0).setCell ⟨q, 1, none⟩ v1).setCell ⟨q, 2, none⟩ v2).setCell ⟨q, 3, none⟩ v3).setCell ⟨q, 4, none⟩ v4).setCell ⟨q, 5, none⟩ v5).setCell ⟨q, 6, none⟩ v6) = put w q (.cells #[v0, v1, v2, v3, v4, v5, v6] T (0, 0)) := by
  rw [set_put _ h, set_on _ h rfl, set_on _ h rfl, set_on _ h rfl, set_on _ h rfl, set_on _ h rfl, set_on _ h rfl]
  rfl

end Go.Proofs.Ytkfnjekeegebaaa
