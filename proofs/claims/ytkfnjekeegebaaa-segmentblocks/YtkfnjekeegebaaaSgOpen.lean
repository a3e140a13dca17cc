/- A head, an end that came in: what the form tells of them. -/
import Derived.Test.YtkfnjekeegebaaaSgMath
import Derived.Test.YtkfnjekeegebaaaMemOpen
import Derived.Test.YtkfnjekeegebaaaStructs
namespace Go.Proofs.Ytkfnjekeegebaaa
open Go.ChangeShapes Go.WideShapes Go.ChangeAt Go.RowKit Go.Deep

theorem list5 {α : Type} {l : List α} (h : l.length = 5) : ∃ a b c d e, l = [a, b, c, d, e] := by
  match l, h with
  | [a, b, c, d, e], _ => exact ⟨a, b, c, d, e, rfl⟩

theorem cellsS : Try.prog.cellsOf 4 = 1 ∧ Try.prog.cellsOf 3 = 1 ∧ Try.prog.cellsOf 23 = 5 ∧ Try.prog.cellsOf 25 = 5 := by
  refine ⟨?_, ?_, ?_, ?_⟩ <;> kernel_rfl

/-- A head that came in. -/
theorem head_open {H : Type} {enc : TypeId × Value → H} {W : World} {b0 : Nat} {held : Bool} {m : Nat} {cs : List Value} {D : DataW H} {Pl : List MemPlace}
    (h : DataW.trod enc Try.prog W b0 (fun _ => true) held m 23 cs = some (D, Pl)) : ∃ a b c d e : Int, cs = [.int .i64 a, .int .i64 b, .int .i64 c, .int .i64 d, .int .i64 e] := by
  obtain ⟨_, q2, q3, _⟩ := cellsS
  obtain ⟨ys, k, _, hD, hcl, hyl, hg⟩ := DataW.trod_struct Try.underlying23 h
  rw [q3] at hcl
  obtain ⟨c0, c1, c2, c3, c4, rfl⟩ := list5 hcl
  obtain ⟨y0, y1, y2, y3, y4, rfl⟩ := list5 hyl
  have f0 : DataW.trod enc Try.prog W b0 (fun _ => true) held k 3 [c0] = some y0 := by
    have h0 : DataW.trod enc Try.prog W b0 (fun _ => true) held k 3 (([c0, c1, c2, c3, c4].drop 0).take (Try.prog.cellsOf 3)) = some y0 := hg 0 _ rfl
    rw [q2] at h0
    exact h0
  have f1 : DataW.trod enc Try.prog W b0 (fun _ => true) held k 3 [c1] = some y1 := by
    have h0 : DataW.trod enc Try.prog W b0 (fun _ => true) held k 3 (([c0, c1, c2, c3, c4].drop 1).take (Try.prog.cellsOf 3)) = some y1 := hg 1 _ rfl
    rw [q2] at h0
    exact h0
  have f2 : DataW.trod enc Try.prog W b0 (fun _ => true) held k 3 [c2] = some y2 := by
    have h0 : DataW.trod enc Try.prog W b0 (fun _ => true) held k 3 (([c0, c1, c2, c3, c4].drop 2).take (Try.prog.cellsOf 3)) = some y2 := hg 2 _ rfl
    rw [q2] at h0
    exact h0
  have f3 : DataW.trod enc Try.prog W b0 (fun _ => true) held k 3 [c3] = some y3 := by
    have h0 : DataW.trod enc Try.prog W b0 (fun _ => true) held k 3 (([c0, c1, c2, c3, c4].drop 3).take (Try.prog.cellsOf 3)) = some y3 := hg 3 _ rfl
    rw [q2] at h0
    exact h0
  have f4 : DataW.trod enc Try.prog W b0 (fun _ => true) held k 3 [c4] = some y4 := by
    have h0 : DataW.trod enc Try.prog W b0 (fun _ => true) held k 3 (([c0, c1, c2, c3, c4].drop 4).take (Try.prog.cellsOf 3)) = some y4 := hg 4 _ rfl
    rw [q2] at h0
    exact h0
  obtain ⟨g0, e0, _, _⟩ := DataW.trod_int Try.underlying3 f0
  obtain ⟨g1, e1, _, _⟩ := DataW.trod_int Try.underlying3 f1
  obtain ⟨g2, e2, _, _⟩ := DataW.trod_int Try.underlying3 f2
  obtain ⟨g3, e3, _, _⟩ := DataW.trod_int Try.underlying3 f3
  obtain ⟨g4, e4, _, _⟩ := DataW.trod_int Try.underlying3 f4
  simp only [List.cons.injEq, and_true] at e0 e1 e2 e3 e4
  subst e0 e1 e2 e3 e4
  exact ⟨g0, g1, g2, g3, g4, rfl⟩

/-- An end that came in. -/
theorem tail_open {H : Type} {enc : TypeId × Value → H} {W : World} {b0 : Nat} {held : Bool} {m : Nat} {cs : List Value} {D : DataW H} {Pl : List MemPlace}
    (h : DataW.trod enc Try.prog W b0 (fun _ => true) held m 25 cs = some (D, Pl)) : ∃ (a b c d : Int) (z : Bool), cs = [.int .i64 a, .int .i64 b, .int .i64 c, .int .i64 d, .bool z] := by
  obtain ⟨q1, q2, _, q3⟩ := cellsS
  obtain ⟨ys, k, _, hD, hcl, hyl, hg⟩ := DataW.trod_struct Try.underlying25 h
  rw [q3] at hcl
  obtain ⟨c0, c1, c2, c3, c4, rfl⟩ := list5 hcl
  obtain ⟨y0, y1, y2, y3, y4, rfl⟩ := list5 hyl
  have f0 : DataW.trod enc Try.prog W b0 (fun _ => true) held k 3 [c0] = some y0 := by
    have h0 : DataW.trod enc Try.prog W b0 (fun _ => true) held k 3 (([c0, c1, c2, c3, c4].drop 0).take (Try.prog.cellsOf 3)) = some y0 := hg 0 _ rfl
    rw [q2] at h0
    exact h0
  have f1 : DataW.trod enc Try.prog W b0 (fun _ => true) held k 3 [c1] = some y1 := by
    have h0 : DataW.trod enc Try.prog W b0 (fun _ => true) held k 3 (([c0, c1, c2, c3, c4].drop 1).take (Try.prog.cellsOf 3)) = some y1 := hg 1 _ rfl
    rw [q2] at h0
    exact h0
  have f2 : DataW.trod enc Try.prog W b0 (fun _ => true) held k 3 [c2] = some y2 := by
    have h0 : DataW.trod enc Try.prog W b0 (fun _ => true) held k 3 (([c0, c1, c2, c3, c4].drop 2).take (Try.prog.cellsOf 3)) = some y2 := hg 2 _ rfl
    rw [q2] at h0
    exact h0
  have f3 : DataW.trod enc Try.prog W b0 (fun _ => true) held k 3 [c3] = some y3 := by
    have h0 : DataW.trod enc Try.prog W b0 (fun _ => true) held k 3 (([c0, c1, c2, c3, c4].drop 3).take (Try.prog.cellsOf 3)) = some y3 := hg 3 _ rfl
    rw [q2] at h0
    exact h0
  have f4 : DataW.trod enc Try.prog W b0 (fun _ => true) held k 4 [c4] = some y4 := by
    have h0 : DataW.trod enc Try.prog W b0 (fun _ => true) held k 4 (([c0, c1, c2, c3, c4].drop 4).take (Try.prog.cellsOf 4)) = some y4 := hg 4 _ rfl
    rw [q1] at h0
    exact h0
  obtain ⟨g0, e0, _, _⟩ := DataW.trod_int Try.underlying3 f0
  obtain ⟨g1, e1, _, _⟩ := DataW.trod_int Try.underlying3 f1
  obtain ⟨g2, e2, _, _⟩ := DataW.trod_int Try.underlying3 f2
  obtain ⟨g3, e3, _, _⟩ := DataW.trod_int Try.underlying3 f3
  obtain ⟨g4, e4, _⟩ := DataW.trod_bool Try.underlying4 f4
  simp only [List.cons.injEq, and_true] at e0 e1 e2 e3 e4
  subst e0 e1 e2 e3 e4
  exact ⟨g0, g1, g2, g3, g4, rfl⟩

end Go.Proofs.Ytkfnjekeegebaaa
