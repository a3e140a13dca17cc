/- The contract of varint.Bytes, over any world. -/
import Derived.Test.YtkfnjekeegebaaaVPut
import Derived.Test.YtkfnjekeegebaaaRdT
namespace Go.Proofs.Ytkfnjekeegebaaa
open Go.RowKit

/-- A text's bytes. -/
def tEnc (t : List Nat) : List Nat := vEnc t.length ++ t

theorem tEncs_len (T : List (List Nat)) (h : ∀ t ∈ T, t.length ≤ 500) : (T.flatMap tEnc).length ≤ 510 * T.length := by
  induction T with
  | nil => simp
  | cons x r ih =>
    have h0 := h x (by simp)
    have h1 := vEnc_len10 (n := x.length) (by omega)
    have h2 := ih fun y hy => h y (by simp [hy])
    simp only [List.flatMap_cons, List.length_append, List.length_cons, tEnc]
    omega

end Go.Proofs.Ytkfnjekeegebaaa
