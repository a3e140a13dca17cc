/- The contract of a reader's Bytes, over any world. -/
import Derived.Test.YtkfnjekeegebaaaVRdr
namespace Go.Proofs.Ytkfnjekeegebaaa
open Go.RowKit

/-- The string that is read: it, the first error then, and what is left. -/
def rByt (E : Nat) (l : List Nat) (most : Nat) : List Nat × Nat × List Nat :=
  if (rNum E l most).2.1 ≠ 0 then ([], (rNum E l most).2.1, (rNum E l most).2.2)
  else if (rNum E l most).2.2.length < (rNum E l most).1 then ([], 2, (rNum E l most).2.2)
  else ((rNum E l most).2.2.take (rNum E l most).1, 0, (rNum E l most).2.2.drop (rNum E l most).1)

theorem rByt_err {E : Nat} {l : List Nat} {most k E1 : Nat} {l1 : List Nat} (h : rNum E l most = (k, E1, l1)) (hE : E1 ≠ 0) : rByt E l most = ([], E1, l1) := by simp [rByt, h, hE]

theorem rByt_cut {E : Nat} {l : List Nat} {most k : Nat} {l1 : List Nat} (h : rNum E l most = (k, 0, l1)) (hk : l1.length < k) : rByt E l most = ([], 2, l1) := by simp [rByt, h, hk]

theorem rByt_ok {E : Nat} {l : List Nat} {most k : Nat} {l1 : List Nat} (h : rNum E l most = (k, 0, l1)) (hk : ¬ l1.length < k) : rByt E l most = (l1.take k, 0, l1.drop k) := by simp [rByt, h, hk]

theorem u64_wrap {m : Nat} (h : m ≤ 1000000) : IntKind.u64.wrap (m : Int) = m := by rw [IntKind.wrap_u64]; omega

end Go.Proofs.Ytkfnjekeegebaaa
