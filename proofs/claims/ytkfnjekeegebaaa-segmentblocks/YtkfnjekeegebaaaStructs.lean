/- Slices of structs of one-cell fields that came in: each field's cell, and how it reads. -/
import Derived.Test.YtkfnjekeegebaaaRows
import Derived.Deep.Slices
import Derived.Deep.Fields
import Derived.ChangeSame
import Derived.ProofKit
import Derived.OpenShut
import Derived.ShutString
import Derived.ChangeOld
namespace Go.Proofs.Ytkfnjekeegebaaa
open Go.ChangeShapes Go.WideShapes Go.ChangeAt Go.RowKit Go.Deep

/-- The number in a cell. -/
def numIn : Option Value → Int
  | some (.int _ z) => z
  | _ => 0

theorem structs_open {H : Type} {enc : TypeId × Value → H} {t e : TypeId} {fs : Array Field} (ht : Try.prog.underlying t = some (.slice e)) (he : Try.prog.underlying e = some (.struct fs)) (hone : oneCellFields Try.prog fs = true) (hC : Try.prog.cellsOf e = fs.size)
    (f0 : Field) (hf0 : fs[0]? = some f0) {W : World} {b0 : Nat} {held : Bool} {a : Option Addr} {n c : Nat} {d : DataW H} {p : List MemPlace}
    (h : DataW.Trod enc Try.prog W b0 (fun _ => true) held t (.slice a n c) d p) :
    n ≤ c ∧ c ≤ maxLen ∧ (0 < n → ∃ b o, a = some ⟨b, o, none⟩ ∧ ∀ i, i < n → ∀ (j : Nat) (f : Field), fs[j]? = some f →
      ∃ (v : Value) (m : Nat) (y : DataW H × List MemPlace), W.cell? ⟨b, o + i * fs.size + j, none⟩ = some v ∧ DataW.trod enc Try.prog W b0 (fun _ => true) held m f.type [v] = some y) := by
  obtain ⟨fuel, hf⟩ := h
  rcases open_slice ht hf with ⟨hcs, _⟩ | ⟨x, len, cap, m, k, D, Pl, hcs, _, hl, hm, hmm, _, hi⟩
  · simp [Value.cells] at hcs
    obtain ⟨rfl, rfl, rfl⟩ := hcs
    exact ⟨Nat.le_refl _, Nat.zero_le _, by omega⟩
  · simp [Value.cells] at hcs
    obtain ⟨rfl, rfl, rfl⟩ := hcs
    simp only [if_true] at hmm
    subst hmm
    have key : ∀ i, i < n → ∀ (j : Nat) (f : Field), fs[j]? = some f → ∃ (v : Value) (m : Nat) (y : DataW H × List MemPlace), W.cell? (x.add (i * fs.size + j)) = some v ∧ DataW.trod enc Try.prog W b0 (fun _ => true) held m f.type [v] = some y := by
      intro i hin j f hj
      obtain ⟨cs, hc, htr⟩ := hi i (by omega)
      obtain ⟨ys, k', _, _, hlen, hyl, hg⟩ := DataW.trod_struct he htr
      obtain ⟨_, hcl, hat⟩ := World.cells?_some hc
      rw [hC] at hcl hat
      obtain ⟨ho, h1⟩ := hone_of hone j f hj
      have hjs : j < fs.size := (Array.getElem?_eq_some_iff.1 hj).1
      have hcj : cs[j]? = some (cs[j]'(by omega)) := List.getElem?_eq_getElem (by omega)
      have hyj : ys[j]? = some (ys[j]'(by omega)) := List.getElem?_eq_getElem (by omega)
      have hr := hg j f hj
      rw [ho, h1, show (cs.drop j).take 1 = [cs[j]'(by omega)] by rw [List.drop_eq_getElem_cons (by omega)]; rfl] at hr
      have hcell := hat j hjs
      rw [Go.Deep.add_add, hcj] at hcell
      exact ⟨_, _, _, hcell, hr.trans hyj⟩
    refine ⟨hl, hm, fun hn => ?_⟩
    obtain ⟨b, o, sp⟩ := x
    obtain ⟨v, _, _, hv, _⟩ := key 0 hn 0 f0 hf0
    have hsp : sp = none := by simpa [Addr.add] using World.cell?_spot hv
    subst hsp
    refine ⟨b, o, rfl, fun i hin j f hj => ?_⟩
    obtain ⟨v, m, y, hv, hy⟩ := key i hin j f hj
    exact ⟨v, m, y, by rw [Go.WideShapes.add_plain] at hv; rw [Nat.add_assoc]; exact hv, hy⟩
end Go.Proofs.Ytkfnjekeegebaaa
