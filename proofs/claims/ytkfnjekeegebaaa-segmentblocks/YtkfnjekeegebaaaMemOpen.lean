/- What the form tells of slices of bytes and of numbers that came in, in the words of the contracts. -/
import Derived.Test.YtkfnjekeegebaaaMem
import Derived.ProofKit
import Derived.OpenShut
import Derived.ShutString
import Derived.ChangeOld
namespace Go.Proofs.Ytkfnjekeegebaaa
open Go.ChangeShapes Go.WideShapes Go.ChangeAt Go.RowKit

theorem knob1 : ownKnob Try.prog.godebug = none := by kernel_rfl
theorem laidOut1 : laidOutB Try.prog = true := by kernel_rfl

/-- A slice of numbers of an unsigned kind. -/
def Nums (k : IntKind) (w : World) (a : Option Addr) (n : Nat) (L : List Nat) : Prop :=
  L.length = n ∧ (∀ x ∈ L, (Lit.int k (x : Int)).wf = true) ∧ (0 < n → ∃ b o, a = some ⟨b, o, none⟩ ∧ ∀ j, j < n → w.cell? ⟨b, o + j, none⟩ = some (.int k ((L.getD j 0 : Nat) : Int)))

theorem nums_nil (k : IntKind) (w : World) : Nums k w none 0 [] := ⟨rfl, by simp, by omega⟩

theorem nums_of {k : IntKind} {w : World} {x : Addr} {n c : Nat} {zs : List Int} (hpos : ∀ z : Int, (Lit.int k z).wf = true → 0 ≤ z) (hl : n ≤ c) (hz : zs.length = c)
    (hcell : ∀ i, i < zs.length → w.cell? (x.add i) = some (.int k (zs.getD i 0))) (hwz : ∀ z ∈ zs, (Lit.int k z).wf = true) : Nums k w (some x) n ((zs.take n).map Int.toNat) := by
  have cast : ∀ z ∈ zs, ((z.toNat : Nat) : Int) = z := fun z hz => Int.toNat_of_nonneg (hpos z (hwz z hz))
  refine ⟨by simp; omega, ?_, fun h0 => ?_⟩
  · intro y hy
    simp only [List.mem_map] at hy
    obtain ⟨z, hz, rfl⟩ := hy
    have hz' := List.mem_of_mem_take hz
    rw [cast z hz']; exact hwz z hz'
  · obtain ⟨b, o, rfl, hc⟩ := ints_at hcell (by omega)
    refine ⟨b, o, rfl, fun j hj => ?_⟩
    rw [hc j (by omega)]
    have hj' : j < zs.length := by omega
    have := cast zs[j] (List.getElem_mem hj')
    simp [List.getD, hj, hj', this]

theorem Nums.rd {w : World} {a : Option Addr} {n : Nat} {L : List Nat} (h : Nums .u8 w a n L) : Rd w a n L :=
  ⟨h.1, fun x hx => by have := bounds_u8 (h.2.1 x hx); omega, h.2.2⟩
theorem nums_open {H : Type} {enc : TypeId × Value → H} {k : IntKind} {t e : TypeId} (ht : Try.prog.underlying t = some (.slice e)) (he : Try.prog.underlying e = some (.int k)) (hc : Try.prog.cellsOf e = 1)
    (hpos : ∀ z : Int, (Lit.int k z).wf = true → 0 ≤ z) {W : World} {b0 : Nat} {held : Bool} {a : Option Addr} {n c : Nat} {d : DataW H} {p : List MemPlace}
    (h : DataW.Trod enc Try.prog W b0 (fun _ => true) held t (.slice a n c) d p) : n ≤ c ∧ c ≤ maxLen ∧ ∃ L, Nums k W a n L := by
  obtain ⟨fuel, hf⟩ := h
  rcases open_ints ht he hc hf with ⟨hcs, _⟩ | ⟨x, l, c', zs, hcs, _, hl, hm, hz, _, hcell, hwz⟩
  · simp [Value.cells] at hcs
    obtain ⟨rfl, rfl, rfl⟩ := hcs
    exact ⟨Nat.le_refl _, Nat.zero_le _, [], nums_nil _ _⟩
  · simp [Value.cells] at hcs
    obtain ⟨rfl, rfl, rfl⟩ := hcs
    exact ⟨hl, hm, _, nums_of hpos hl (by simpa using hz) hcell hwz⟩
end Go.Proofs.Ytkfnjekeegebaaa
