/- Slices of runs that came in, in the words of the contracts. -/
import Derived.Test.YtfmaapojlbheaaaERow
import Derived.Test.YtfmaapojlbheaaaStructs
import Derived.Test.YtfmaapojlbheaaaMemOpen
namespace Go.Proofs.Ytfmaapojlbheaaa
open Go.ChangeShapes Go.WideShapes Go.ChangeAt Go.RowKit Go.Deep

theorem runs_open {H : Type} {enc : TypeId × Value → H} {W : World} {b0 : Nat} {held : Bool} {a : Option Addr} {n c : Nat} {d : DataW H} {p : List MemPlace}
    (h : DataW.Trod enc Try.prog W b0 (fun _ => true) held 22 (.slice a n c) d p) : ∃ L, RdR W a n L ∧ n ≤ c ∧ c ≤ maxLen := by
  obtain ⟨hnc, hmx, hk⟩ := structs_open Try.underlying22 Try.underlying37 (by kernel_rfl) (by kernel_rfl) _ rfl h
  rcases Nat.eq_zero_or_pos n with h0 | h0
  · subst h0
    exact ⟨[], RdR.nil _ _, hnc, hmx⟩
  · obtain ⟨b, o, rfl, hc⟩ := hk h0
    have cell : ∀ i, i < n → ∃ x y : Int, W.cell? ⟨b, o + i * 2, none⟩ = some (.int .i64 x) ∧ W.cell? ⟨b, o + i * 2 + 1, none⟩ = some (.int .i64 y) := by
      intro i hi
      obtain ⟨v0, _, _, h0, t0⟩ := hc i hi 0 _ rfl
      obtain ⟨v1, _, _, h1, t1⟩ := hc i hi 1 _ rfl
      obtain ⟨x, e0, _, w0⟩ := DataW.trod_int Try.underlying3 t0
      obtain ⟨y, e1, _, w1⟩ := DataW.trod_int Try.underlying3 t1
      simp only [List.cons.injEq, and_true] at e0 e1
      subst e0 e1
      exact ⟨x, y, h0, h1⟩
    refine ⟨(List.range n).map fun i => ⟨numIn (W.cell? ⟨b, o + i * 2, none⟩), numIn (W.cell? ⟨b, o + i * 2 + 1, none⟩)⟩, ⟨by simp, fun _ => ⟨b, o, rfl, fun j hj => ?_⟩⟩, hnc, hmx⟩
    obtain ⟨x, y, e0, e1⟩ := cell j hj
    simp only [List.getD, List.getElem?_map, List.getElem?_range hj, Option.map_some, Option.getD_some]
    rw [e0, e1]
    simp [numIn]

end Go.Proofs.Ytfmaapojlbheaaa
