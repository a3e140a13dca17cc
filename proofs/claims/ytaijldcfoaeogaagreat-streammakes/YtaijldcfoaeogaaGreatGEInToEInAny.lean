/- The contracts of the statement's own small and in, over any world. -/
import Derived.Test.YtaijldcfoaeogaaGreatGESortToEHas
import Derived.Laws.MakeOwn
import Derived.Deep.DeepCutAuto
namespace Go.Proofs.YtaijldcfoaeogaaGreat
open Go.RowKit
set_option maxRecDepth 100000

theorem heap_alloc2 (w : World) (o1 o2 : Obj) : ((w.alloc o1).alloc o2).heap[w.heap.size + 1]? = some o2 := by
  have := heap_alloc_new (w.alloc o1) o2
  rw [World.size_alloc] at this
  exact this

/-- A run as the statement cuts it. -/
def smR (r : Rn) : Rn := ⟨r.f.tmod 300, r.t.tmod 300⟩

theorem smR_in (r : Rn) : -300 < (smR r).f ∧ (smR r).f < 300 ∧ -300 < (smR r).t ∧ (smR r).t < 300 := by
  have h1 := Int.tmod_lt_of_pos r.f (b := 300) (by omega)
  have h2 := Int.lt_tmod_of_pos r.f (b := 300) (by omega)
  have h3 := Int.tmod_lt_of_pos r.t (b := 300) (by omega)
  have h4 := Int.lt_tmod_of_pos r.t (b := 300) (by omega)
  unfold smR
  simp only
  omega

/-- The cells of a row of truths. -/
def bcells (n : Nat) (Q : Nat → Bool) : Array Value := ((List.range n).map fun j => Value.bool (Q j)).toArray

theorem bcells_size (n : Nat) (Q : Nat → Bool) : (bcells n Q).size = n := by simp [bcells]

theorem bcells_get (n : Nat) (Q : Nat → Bool) (j : Nat) (hj : j < n) : (bcells n Q)[j]? = some (.bool (Q j)) := by simp [bcells, hj]

theorem bcells_same (n : Nat) {Q Q' : Nat → Bool} (e : ∀ j, j < n → Q j = Q' j) : bcells n Q = bcells n Q' := by
  unfold bcells
  congr 1
  refine List.map_congr_left fun j hj => ?_
  rw [e j (List.mem_range.1 hj)]

/-- One truth turned. -/
def updB (Q : Nat → Bool) (i : Nat) (b : Bool) : Nat → Bool := fun j => if j = i then b else Q j

theorem bcells_set (n : Nat) (Q : Nat → Bool) (i : Nat) (b : Bool) : (bcells n Q).setIfInBounds i (.bool b) = bcells n (updB Q i b) := by
  apply Array.ext
  · simp [bcells]
  · intro j h1 h2
    simp only [bcells, List.size_toArray, List.length_map, List.length_range] at h2
    simp only [bcells, List.getElem_toArray, List.getElem_map, List.getElem_range, updB]
    by_cases hij : i = j
    · subst hij; simp
    · rw [if_neg (Ne.symm hij)]
      simp [hij]

/-- Block g holds n truths. -/
def Bl (w : World) (g n : Nat) (Q : Nat → Bool) : Prop := w.heap[g]? = some (.cells (bcells n Q) 4 (0, 0))

theorem Bl.at_ {w : World} {g n : Nat} {Q : Nat → Bool} (h : Bl w g n Q) {j : Nat} (hj : j < n) : w.cell? ⟨g, j, none⟩ = some (.bool (Q j)) := by
  rw [cell_of_row w g j _ 4 (0, 0) h, bcells_get n Q j hj]

theorem Bl.frozen {w : World} {g n : Nat} {Q : Nat → Bool} (h : Bl w g n Q) (j : Nat) : w.frozen? ⟨g, j, none⟩ = false := by
  have h' : w.heap[g]? = some (.cells (bcells n Q) 4 (0, 0)) := h
  simp [World.frozen?, h']

theorem Bl.later {w w' : World} {g n : Nat} {Q : Nat → Bool} (h : Bl w g n Q) (hb : Below w.heap.size w w') : Bl w' g n Q := (hb.block g (lt_of_block h)).trans h

theorem Bl.set {w : World} {g n : Nat} {Q : Nat → Bool} (h : Bl w g n Q) (i : Nat) (b : Bool) : Bl (w.setCell ⟨g, i, none⟩ (.bool b)) g n (updB Q i b) := by
  have h1 := heap_setCell_same w g i _ 4 (.bool b) h
  rw [bcells_set] at h1
  exact h1

theorem Bl.same {w : World} {g n : Nat} {Q Q' : Nat → Bool} (h : Bl w g n Q) (e : ∀ j, j < n → Q j = Q' j) : Bl w g n Q' := by
  unfold Bl at h ⊢
  rw [← bcells_same n e]; exact h

theorem info_bool : (Tryz.prog.info? 4).map (fun i => (i.zero, i.size, i.bytes)) = some (some (.bool false), 1, 1) := by kernel_rfl

theorem run_mkB (w : World) : (Instr.makeSlice 118 (.int .i64 601) (.int .i64 601)).run Tryz.prog w = .ok (.slice (some ⟨w.heap.size, 0, none⟩) 601 601) (w.alloc (.cells (bcells 601 fun _ => false) 4)) := by
  obtain ⟨i0, hi0, hz0, hz1, hz2⟩ := info_parts info_bool
  have h := run_make (P := Tryz.prog) w 118 4 i0 _ Tryz.underlying118 hi0 hz0 .i64 .i64 601 601 (by omega) (by omega) (by rw [hz2]; omega) (by omega)
  have e : madeCells #[Value.bool false] 601 = bcells 601 fun _ => false := by kernel_rfl
  simpa [hz1, Value.cells, e] using h

theorem bl_new (w : World) (n : Nat) (Q : Nat → Bool) : Bl (w.alloc (.cells (bcells n Q) 4)) w.heap.size n Q := heap_alloc_new w _

/-- Is a number in some runs? (told) -/
def inB (L : List Rn) (x : Int) : Bool := L.any fun r => decide (r.f ≤ x) && decide (x < r.t)

theorem inB_iff {L : List Rn} {x : Int} : inB L x = true ↔ inR L x := by
  simp only [inB, List.any_eq_true, Bool.and_eq_true, decide_eq_true_eq, inR, Rn.has]

theorem inB_snoc (L : List Rn) (r : Rn) (x : Int) : inB (L ++ [r]) x = (inB L x || (decide (r.f ≤ x) && decide (x < r.t))) := by
  simp [inB]

end Go.Proofs.YtaijldcfoaeogaaGreat

/- The contract of the statement's own in, over any world. -/
namespace Go.Proofs.YtaijldcfoaeogaaGreat
open Go.RowKit
set_option maxRecDepth 100000

/-- Which of the numbers from -300 on are in some runs. -/
def inP (L : List Rn) (j : Nat) : Bool := inB L ((j : Int) - 300)

theorem below_set {B g i : Nat} (h : B ≤ g) (W : World) (v : Value) : Below B W (W.setCell ⟨g, i, none⟩ v) := (Below.refl _ _).setCell (p := ⟨g, i, none⟩) h v

end Go.Proofs.YtaijldcfoaeogaaGreat
