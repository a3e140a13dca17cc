/- The contracts of the statement's own small and in, over any world. -/
import Derived.Test.YtfmaapojlbheaaaECount
import Derived.Laws.MakeOwn
namespace Go.Proofs.Ytfmaapojlbheaaa
open Go.RowKit

theorem heap_alloc2 (w : World) (o1 o2 : Obj) : ((w.alloc o1).alloc o2).heap[w.heap.size + 1]? = some o2 := by
  have := heap_alloc_new (w.alloc o1) o2
  rw [World.size_alloc] at this
  exact this

/-- A run as the statement cuts it. -/
def smR (r : Rn) : Rn := ⟨r.f.tmod 300, r.t.tmod 300⟩

theorem smR_in (r : Rn) : -300 < (smR r).f ∧ (smR r).f < 300 ∧ -300 < (smR r).t ∧ (smR r).t < 300 := by
  have h1 := Int.tmod_lt_of_pos r.f (b := 300) (by omega)
  have h2 := Int.lt_tmod_of_pos r.f (b := 300) (by omega)
  have h3 := Int.tmod_lt_of_pos r.t (b := 300) (by omega)
  have h4 := Int.lt_tmod_of_pos r.t (b := 300) (by omega)
  unfold smR
  simp only
  omega

set_option maxHeartbeats 1000000 in
set_option maxRecDepth 100000 in
theorem small_any (a : Option Addr) (n c : Nat) (L : List Rn) (w : World) (h : RdR w a n L) (hn : n ≤ 100) :
    Calls Try.prog 7 #[.slice a n c] w fun e w' => ∃ a' c', e = .returned (.slice a' n c') ∧ RdR w' a' n (L.map smR) ∧ Below w.heap.size w w' := by
  obtain ⟨i0, hi0, hz0, hz1, hz2⟩ := info_parts info_run
  have HR := Lib.hid h
  clear h
  go_enter Try.func7, Try.ntmps7
  go_wp2
  go_loopg [3, 8] n (fun k s i wr => ∃ (j : Nat) (sv : Value), sv = s ∧ k = n - j ∧ j ≤ n ∧ i = .int .i64 (j : Int) ∧ Hid (OwnR wr w.heap.size 37 sv ((L.take j).map smR)) ∧ Hid (Below w.heap.size w wr))
  case atStart => exact ⟨0, _, rfl, rfl, Nat.zero_le _, rfl, Lib.hid (by simpa using OwnR.nil _ _ _), Lib.hid (Below.refl _ _)⟩
  case round =>
    obtain ⟨j, sv, rfl, hk, hj, rfl, HO, HB⟩ := hrel
    have HK := Lib.hid hk
    clear hk
    by_cases hlt : j < n
    · obtain ⟨b, o, r, rfl, hre, hbl, e0, e1⟩ := HR.out.at_ HB.out hlt
      have hjl : j < L.length := by have := HR.out.1; omega
      have hst := takeR_succ hjl hre
      obtain ⟨x, y⟩ := r
      simp only at e0 e1
      have HST : Hid ((L.take (j + 1)).map smR = (L.take j).map smR ++ [⟨x.tmod 300, y.tmod 300⟩]) := Lib.hid (by rw [hst]; simp [smR])
      obtain ⟨A, hA⟩ : ∃ A, A = (L.take j).map smR := ⟨_, rfl⟩
      rw [← hA] at HO HST
      have hAl : A.length ≤ 100 := by rw [hA, List.length_map, List.length_take]; omega
      have hbr : w.heap.size ≤ wr.heap.size := HB.out.size
      clear hst hre hjl hA
      go_wp2_with (at_builtin; have _t := hlt; refine wpList_append_own_at _ rfl (.tmp 12) (.tmp 20) 22 rfl w.heap.size 37 i0 _ 2 16 Try.underlying22 hi0 hz0 hz1 hz2 rfl (by omega) sv A.length (cR A) rfl (HO.out.kept ((Below.alloc0 _ _).alloc (by simp) _)) ⟨wr.heap.size + 1, 0, none⟩ 1 1 (cR [⟨x.tmod 300, y.tmod 300⟩]) rfl ?hlen (World.news_of_block (cs := #[.int .i64 (x.tmod 300), .int .i64 (y.tmod 300)]) (t := 37) (fr := (0, 0)) (heap_alloc2 wr _ _)) ?one ?h63 ?hby ?hbase ?next)
      case hlen => rfl
      case one => exact cR_one _
      case h63 => unfold maxLen; omega
      case hby => omega
      case hbase => simp; omega
      case next =>
        intro v' w' hown hg _ _
        have HO3 : Hid (OwnR w' w.heap.size 37 v' (A ++ [⟨x.tmod 300, y.tmod 300⟩])) := Lib.hid (OwnR.of_append rfl hown)
        have HB3 : Hid (Below w.heap.size w w') := Lib.hid (((HB.out.alloc hbr _).alloc (by simp; omega) _).grown hg (by simp; omega) (fun k hk => (World.ownsRow.lt HO.out k hk).1))
        clear hown hg
        go_wp2
        go_roundg (n - (j + 1))
        case measure => have := HK.out; omega
        case rel => exact ⟨j + 1, v', rfl, rfl, by omega, by go_num, Lib.hid (by rw [HST.out]; exact HO3.out), HB3⟩
    · obtain rfl : j = n := by omega
      have h1 := HO.out
      rw [List.take_of_length_le (by have := HR.out.1; omega)] at h1
      obtain ⟨a', c', hv, hr, _, hlo⟩ := h1.rd
      rw [List.length_map, HR.out.1] at hv hr
      subst hv
      have HR2 := Lib.hid hr
      clear h1 hr hlo
      go_wp2
      go_ret
      exact ⟨_, _, rfl, HR2.out, HB.out⟩

/-- The cells of a row of truths. -/
def bcells (n : Nat) (Q : Nat → Bool) : Array Value := ((List.range n).map fun j => Value.bool (Q j)).toArray

theorem bcells_size (n : Nat) (Q : Nat → Bool) : (bcells n Q).size = n := by simp [bcells]

theorem bcells_get (n : Nat) (Q : Nat → Bool) (j : Nat) (hj : j < n) : (bcells n Q)[j]? = some (.bool (Q j)) := by simp [bcells, hj]

theorem bcells_same (n : Nat) {Q Q' : Nat → Bool} (e : ∀ j, j < n → Q j = Q' j) : bcells n Q = bcells n Q' := by
  unfold bcells
  congr 1
  refine List.map_congr_left fun j hj => ?_
  rw [e j (List.mem_range.1 hj)]

/-- One truth turned. -/
def updB (Q : Nat → Bool) (i : Nat) (b : Bool) : Nat → Bool := fun j => if j = i then b else Q j

theorem bcells_set (n : Nat) (Q : Nat → Bool) (i : Nat) (b : Bool) : (bcells n Q).setIfInBounds i (.bool b) = bcells n (updB Q i b) := by
  apply Array.ext
  · simp [bcells]
  · intro j h1 h2
    simp only [bcells, List.size_toArray, List.length_map, List.length_range] at h2
    simp only [bcells, List.getElem_toArray, List.getElem_map, List.getElem_range, updB]
    by_cases hij : i = j
    · subst hij; simp
    · rw [if_neg (Ne.symm hij)]
      simp [hij]

/-- Block g holds n truths. -/
def Bl (w : World) (g n : Nat) (Q : Nat → Bool) : Prop := w.heap[g]? = some (.cells (bcells n Q) 4 (0, 0))

theorem Bl.at_ {w : World} {g n : Nat} {Q : Nat → Bool} (h : Bl w g n Q) {j : Nat} (hj : j < n) : w.cell? ⟨g, j, none⟩ = some (.bool (Q j)) := by
  rw [cell_of_row w g j _ 4 (0, 0) h, bcells_get n Q j hj]

theorem Bl.frozen {w : World} {g n : Nat} {Q : Nat → Bool} (h : Bl w g n Q) (j : Nat) : w.frozen? ⟨g, j, none⟩ = false := by
  have h' : w.heap[g]? = some (.cells (bcells n Q) 4 (0, 0)) := h
  simp [World.frozen?, h']

theorem Bl.later {w w' : World} {g n : Nat} {Q : Nat → Bool} (h : Bl w g n Q) (hb : Below w.heap.size w w') : Bl w' g n Q := (hb.block g (lt_of_block h)).trans h

theorem Bl.set {w : World} {g n : Nat} {Q : Nat → Bool} (h : Bl w g n Q) (i : Nat) (b : Bool) : Bl (w.setCell ⟨g, i, none⟩ (.bool b)) g n (updB Q i b) := by
  have h1 := heap_setCell_same w g i _ 4 (.bool b) h
  rw [bcells_set] at h1
  exact h1

theorem Bl.same {w : World} {g n : Nat} {Q Q' : Nat → Bool} (h : Bl w g n Q) (e : ∀ j, j < n → Q j = Q' j) : Bl w g n Q' := by
  unfold Bl at h ⊢
  rw [← bcells_same n e]; exact h

theorem info_bool : (Try.prog.info? 4).map (fun i => (i.zero, i.size, i.bytes)) = some (some (.bool false), 1, 1) := by kernel_rfl

theorem run_mkB (w : World) : (Instr.makeSlice 25 (.int .i64 601) (.int .i64 601)).run Try.prog w = .ok (.slice (some ⟨w.heap.size, 0, none⟩) 601 601) (w.alloc (.cells (bcells 601 fun _ => false) 4)) := by
  obtain ⟨i0, hi0, hz0, hz1, hz2⟩ := info_parts info_bool
  have h := run_make (P := Try.prog) w 25 4 i0 _ Try.underlying25 hi0 hz0 .i64 .i64 601 601 (by omega) (by omega) (by rw [hz2]; omega) (by omega)
  have e : madeCells #[Value.bool false] 601 = bcells 601 fun _ => false := by kernel_rfl
  simpa [hz1, Value.cells, e] using h

theorem bl_new (w : World) (n : Nat) (Q : Nat → Bool) : Bl (w.alloc (.cells (bcells n Q) 4)) w.heap.size n Q := heap_alloc_new w _

/-- Is a number in some runs? (told) -/
def inB (L : List Rn) (x : Int) : Bool := L.any fun r => decide (r.f ≤ x) && decide (x < r.t)

theorem inB_iff {L : List Rn} {x : Int} : inB L x = true ↔ inR L x := by
  simp only [inB, List.any_eq_true, Bool.and_eq_true, decide_eq_true_eq, inR, Rn.has]

theorem inB_snoc (L : List Rn) (r : Rn) (x : Int) : inB (L ++ [r]) x = (inB L x || (decide (r.f ≤ x) && decide (x < r.t))) := by
  simp [inB]

end Go.Proofs.Ytfmaapojlbheaaa
