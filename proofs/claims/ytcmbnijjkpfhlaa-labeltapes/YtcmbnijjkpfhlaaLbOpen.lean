/- A label that came in; a string that came in: what the form tells of it. -/
import Derived.Test.YtcmbnijjkpfhlaaLbMath
import Derived.Test.YtcmbnijjkpfhlaaMemOpen
import Derived.Test.YtcmbnijjkpfhlaaStructs
import Derived.SizedLaws
namespace Go.Proofs.Ytcmbnijjkpfhlaa
open Go.ChangeShapes Go.WideShapes Go.ChangeAt Go.RowKit Go.Deep

/-- The bytes of a string. -/
def bytesB (s : ByteArray) : List Nat := s.data.toList.map UInt8.toNat

theorem bytesB_byte (s : ByteArray) : ∀ z ∈ bytesB s, z < 256 := by
  intro z hz
  simp only [bytesB, List.mem_map] at hz
  obtain ⟨b, _, rfl⟩ := hz
  exact b.toNat_lt

theorem strB_bytesB (s : ByteArray) : strB (bytesB s) = s := by
  apply ByteArray.ext
  apply Array.ext'
  simp only [strB, bytesB, strOfNums_data, List.map_map]
  conv => rhs; rw [← List.map_id s.data.toList]
  refine List.map_congr_left fun b _ => ?_
  simp

theorem bytesB_len (s : ByteArray) : (bytesB s).length = s.data.toList.length := by simp [bytesB]

theorem list3 {α : Type} {l : List α} (h : l.length = 3) : ∃ a b c, l = [a, b, c] := by
  match l, h with
  | [a, b, c], _ => exact ⟨a, b, c, rfl⟩

theorem cellsL : Try.prog.cellsOf 9 = 1 ∧ Try.prog.cellsOf 3 = 1 ∧ Try.prog.cellsOf 23 = 3 := by
  refine ⟨?_, ?_, ?_⟩ <;> kernel_rfl

/-- A label that came in. -/
theorem lab_open {H : Type} {enc : TypeId × Value → H} {W : World} {b0 : Nat} {held : Bool} {m : Nat} {cs : List Value} {D : DataW H} {Pl : List MemPlace}
    (h : DataW.trod enc Try.prog W b0 (fun _ => true) held m 23 cs = some (D, Pl)) : ∃ (x : Lab) (c0 c1 c2 : Value) (r : List (DataW H)), cs = [c0, c1, c2] ∧ Value.agg cs.toArray = lbV x ∧ c0 = .string (strB x.p) ∧ c1 = .int .i64 x.g ∧ c2 = .int .i64 x.m ∧ x.fits ∧ D = .agg (.lit (.string (strB x.p).data.toList) :: r) := by
  obtain ⟨q1, q2, q3⟩ := cellsL
  obtain ⟨ys, k, _, hD, hcl, hyl, hg⟩ := DataW.trod_struct Try.underlying23 h
  rw [q3] at hcl
  obtain ⟨c0, c1, c2, rfl⟩ := list3 hcl
  obtain ⟨y0, y1, y2, rfl⟩ := list3 hyl
  have f0 : DataW.trod enc Try.prog W b0 (fun _ => true) held k 9 [c0] = some y0 := by
    have h0 : DataW.trod enc Try.prog W b0 (fun _ => true) held k 9 (([c0, c1, c2].drop 0).take (Try.prog.cellsOf 9)) = some y0 := hg 0 _ rfl
    rw [q1] at h0
    exact h0
  have f1 : DataW.trod enc Try.prog W b0 (fun _ => true) held k 3 [c1] = some y1 := by
    have h0 : DataW.trod enc Try.prog W b0 (fun _ => true) held k 3 (([c0, c1, c2].drop 1).take (Try.prog.cellsOf 3)) = some y1 := hg 1 _ rfl
    rw [q2] at h0
    exact h0
  have f2 : DataW.trod enc Try.prog W b0 (fun _ => true) held k 3 [c2] = some y2 := by
    have h0 : DataW.trod enc Try.prog W b0 (fun _ => true) held k 3 (([c0, c1, c2].drop 2).take (Try.prog.cellsOf 3)) = some y2 := hg 2 _ rfl
    rw [q2] at h0
    exact h0
  obtain ⟨s, e0, hy0, _⟩ := DataW.trod_string Try.underlying9 f0
  obtain ⟨G, e1, _, _⟩ := DataW.trod_int Try.underlying3 f1
  obtain ⟨M, e2, _, _⟩ := DataW.trod_int Try.underlying3 f2
  simp only [List.cons.injEq, and_true] at e0 e1 e2
  subst e0 e1 e2 hy0
  simp only [Prod.mk.injEq] at hD
  refine ⟨⟨bytesB s, G, M⟩, _, _, _, [y1.1, y2.1], rfl, ?_, ?_, rfl, rfl, bytesB_byte s, ?_⟩
  · simp only [lbV, strB_bytesB]
  · simp only [strB_bytesB]
  · rw [hD.1]
    simp only [strB_bytesB, List.map_cons, List.map_nil]

set_option maxRecDepth 100000 in
/-- How long its pool can be. -/
theorem lab_reach {H : Type} {ts : List TypeId} {ds : List (DataW H)} {D : DataW H} {x : Lab} {r : List (DataW H)} (hD : D = .agg (.lit (.string (strB x.p).data.toList) :: r)) (hsz : (DataW.weightsEach Try.prog ts ds).all (· ≤ reachBytes) = true) {j : Nat} (htj : ts[j]? = some 23) (hdj : ds[j]? = some D) : x.p.length ≤ reachBytes := by
  subst hD
  have h1 : (strB x.p).data.toList.length ∈ DataW.weights Try.prog 23 (.agg (.lit (.string (strB x.p).data.toList) :: r) : DataW H) := by
    simp only [DataW.weights, Try.underlying23, List.map_cons, DataW.weightsEach, List.singleton_append, List.mem_cons, true_or]
  have h2 := List.all_eq_true.1 hsz _ (DataW.weights_mem_each htj hdj _ h1)
  have h3 : (strB x.p).data.toList.length = x.p.length := by
    have := strB_size x.p
    rw [← this]
    rfl
  rw [h3] at h2
  exact of_decide_eq_true h2

end Go.Proofs.Ytcmbnijjkpfhlaa
