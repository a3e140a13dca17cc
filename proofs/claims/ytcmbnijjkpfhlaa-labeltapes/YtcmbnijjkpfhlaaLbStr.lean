/- A string's bytes: what '[]byte(s)' lays; over any world. -/
import Derived.Test.YtcmbnijjkpfhlaaLbMath
import Derived.Laws.IdiomStrings
namespace Go.Proofs.Ytcmbnijjkpfhlaa
open Go.RowKit
set_option linter.unusedSimpArgs false

/-- The room that a string's bytes are given. -/
def strC (w : World) (s : ByteArray) : Nat := grownCap w s.size 0 5

/-- The world with a string's bytes laid. -/
def strW (w : World) (s : ByteArray) : World := w.drew.alloc (.cells (bytesRow s (strC w s)) 5 ((bytesRow s (strC w s)).size, (bytesRow s (strC w s)).size + 1))

theorem conv_str (w : World) (s : ByteArray) : (convert 9 25 (.string s)).run Try.prog w = .ok (.slice (some ⟨w.heap.size, 0, none⟩) s.size (strC w s)) (strW w s) :=
  run_bytes_of_string w 9 25 5 s Try.underlying9 Try.underlying25 Try.underlying5

theorem strW_size (w : World) (s : ByteArray) : (strW w s).heap.size = w.heap.size + 1 := by
  unfold strW
  simp

theorem strW_below (w : World) (s : ByteArray) : Below w.heap.size w (strW w s) := (Below.refl _ _).drew.alloc (by simp) _

theorem strC_ge (w : World) (s : ByteArray) : s.size ≤ strC w s := grownCap_ge w s.size 0 5

theorem strW_rd (w : World) {l : List Nat} (h : ∀ z ∈ l, z < 256) : Rd (strW w (strB l)) (some ⟨w.heap.size, 0, none⟩) l.length l := by
  refine ⟨rfl, h, fun _ => ⟨_, _, rfl, fun j hj => ?_⟩⟩
  have hnew : (strW w (strB l)).heap[w.heap.size]? = some (.cells (bytesRow (strB l) (strC w (strB l))) 5 ((bytesRow (strB l) (strC w (strB l))).size, (bytesRow (strB l) (strC w (strB l))).size + 1)) := by
    unfold strW
    have := heap_alloc_new w.drew (.cells (bytesRow (strB l) (strC w (strB l))) 5 ((bytesRow (strB l) (strC w (strB l))).size, (bytesRow (strB l) (strC w (strB l))).size + 1))
    simpa using this
  rw [cell_of_row _ w.heap.size (0 + j) _ 5 _ hnew, Nat.zero_add]
  have hs : j < (strB l).data.size := by
    have : (strB l).data.size = l.length := strB_size l
    omega
  rw [bytesRow_at _ _ j hs]
  have h1 : ((strB l).data.toList)[j]? = some (UInt8.ofNat (l[j])) := by
    simp only [strB, strOfNums_data, List.map_map]
    simp [hj]
  have h2 : ((strB l).data.toList)[j]? = some ((strB l).data[j]) := by simp [hs]
  rw [h2] at h1
  injection h1 with h1
  rw [h1]
  have := h l[j] (List.getElem_mem hj)
  simp [List.getD, hj]
  omega

end Go.Proofs.Ytcmbnijjkpfhlaa
