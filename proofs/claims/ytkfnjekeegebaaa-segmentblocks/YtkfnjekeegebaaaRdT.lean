/- Slices of slices of bytes, over any world. -/
import Derived.Test.YtkfnjekeegebaaaMem
namespace Go.Proofs.Ytkfnjekeegebaaa
open Go.RowKit

/-- The slice '.slice a n _' reads as the texts T. -/
def RdT (w : World) (a : Option Addr) (n : Nat) (T : List (List Nat)) : Prop :=
  T.length = n ∧ (0 < n → ∃ b o, a = some ⟨b, o, none⟩ ∧ ∀ j, j < n → ∃ aj cj, w.cell? ⟨b, o + j, none⟩ = some (.slice aj (T.getD j []).length cj) ∧ Rd w aj (T.getD j []).length (T.getD j []))

theorem RdT.at_ {w w' : World} {a : Option Addr} {n : Nat} {T : List (List Nat)} (h : RdT w a n T) (hb : Below w.heap.size w w') {j : Nat} (hj : j < n) :
    ∃ b o aj cj, a = some ⟨b, o, none⟩ ∧ w'.cell? ⟨b, o + j, none⟩ = some (.slice aj (T.getD j []).length cj) ∧ Rd w aj (T.getD j []).length (T.getD j []) := by
  obtain ⟨b, o, rfl, hc⟩ := h.2 (by omega)
  obtain ⟨aj, cj, h1, h2⟩ := hc j hj
  have hlt : b < w.heap.size := World.block_lt_of_cell? w _ h1
  exact ⟨b, o, aj, cj, rfl, (hb.cell (p := ⟨b, o + j, none⟩) hlt).trans h1, h2⟩

theorem RdT.later {w w' : World} {a : Option Addr} {n : Nat} {T : List (List Nat)} (h : RdT w a n T) (hb : Below w.heap.size w w') : RdT w' a n T := by
  refine ⟨h.1, fun hn => ?_⟩
  obtain ⟨b, o, rfl, hc⟩ := h.2 hn
  refine ⟨b, o, rfl, fun j hj => ?_⟩
  obtain ⟨aj, cj, h1, h2⟩ := hc j hj
  exact ⟨aj, cj, (hb.cell (p := ⟨b, o + j, none⟩) (World.block_lt_of_cell? w _ h1)).trans h1, h2.later hb⟩

theorem take_snocT {T : List (List Nat)} {j : Nat} (hj : j < T.length) : T.take (j + 1) = T.take j ++ [T.getD j []] := by
  rw [List.take_succ_eq_append_getElem hj]; simp [List.getD, hj]

end Go.Proofs.Ytkfnjekeegebaaa
