/- ExtentSets at more than a hundred runs: the example alone; over any world. -/
import Derived.Test.YtfmaapojlbheaaaESetsMath
import Derived.Test.YtfmaapojlbheaaaERange
import Derived.Test.YtfmaapojlbheaaaELives
import Derived.Lib.MinMax
namespace Go.Proofs.Ytfmaapojlbheaaa
open Go.RowKit Go.Shelf

theorem enter_sets (args : Array Value) (w : World) (R : Ending → World → Prop) (c : Code) (hb : Try.f3.body = some c)
    (h : c.wp Try.prog (bodyPostM Fence.wide 3 Try.prog Try.f3 R) { tmps := args ++ Array.replicate (Try.f3.ntmps - args.size) undef, defers := [] } w) : Calls Try.prog 3 args w R :=
  (callsIn_wide (n := 3)).1 (callsIn_of_wp_marks Try.func3 hb trivial (wpIn_wide.2 h) rfl)

theorem res_sets {tmps : Array Value} {gr : Nat} {q : Bool} {W : World} (ht : tmps[6]?.getD undef = .pointer (some ⟨gr, 0, none⟩)) (hc : W.cell? ⟨gr, 0, none⟩ = some (.bool q)) : (results Try.f3 tmps).run Try.prog W = .ok (.bool q) W := by
  simp [results, Try.results3, go_sem, ht, hc]

set_option maxHeartbeats 1000000 in
set_option maxRecDepth 100000 in
theorem extentSets_many (a b d : Option Addr) (n m k ca cb cd : Nat) (w : World) (hb : n ≤ 140737488355328 ∧ m ≤ 140737488355328 ∧ k ≤ 140737488355328) (hn : 100 < n + m + k) :
    Calls Try.prog 3 #[.slice a n ca, .slice b m cb, .slice d k cd] w fun e w' => e = .returned (.bool true) ∧ Below w.heap.size w w' := by
  have hw1 : wrap64 ((n : Int) + (m : Int)) = (n : Int) + (m : Int) := by unfold wrap64; omega
  have hw2 : wrap64 ((n : Int) + (m : Int) + (k : Int)) = (n : Int) + (m : Int) + (k : Int) := by unfold wrap64; omega
  have hlt : (100 : Int) < (n : Int) + (m : Int) + (k : Int) := by omega
  refine enter_sets _ w _ _ rfl ?_
  simp only [Try.ntmps3, List.size_toArray, List.length_cons, List.length_nil, Nat.reduceAdd, Nat.reduceSub, Array.replicate_succ, Array.replicate_zero, List.push_toArray, List.append_toArray, List.nil_append, List.cons_append]
  go_wp2_with fail
  refine (lives_any _).mono ?_
  rintro e w1 ⟨rfl, hb1⟩
  have c0 : w1.heap[w.heap.size]? = some (.cells #[.bool false] 4 (0, 0)) := (hb1.block w.heap.size (by simp)).trans (heap_alloc_new w _)
  have HC := Lib.hid c0
  have HB1 : Hid (Below w.heap.size w w1) := Lib.hid ((Below.alloc0 w _).trans (hb1.mono (by simp)))
  clear hb1 c0
  go_wp2_with fail
  refine (lives_any _).mono ?_
  rintro e w2 ⟨rfl, hb2⟩
  have hlt2 : w.heap.size < w1.heap.size := lt_of_block HC.out
  have c2 : w2.heap[w.heap.size]? = some (.cells #[.bool false] 4 (0, 0)) := (hb2.block w.heap.size hlt2).trans HC.out
  have HC2 := Lib.hid c2
  have HB2 : Hid (Below w.heap.size w w2) := Lib.hid (HB1.out.trans (hb2.mono HB1.out.size))
  have d0 : w2.cell? ⟨w.heap.size, 0, none⟩ = some (.bool false) := by rw [cell_of_row w2 w.heap.size 0 _ 4 (0, 0) c2]; rfl
  have f0 : w2.frozen? ⟨w.heap.size, 0, none⟩ = false := by simp [World.frozen?, c2]
  clear hb2 c2 hlt2
  go_wp2_with fail
  refine ⟨.bool true, res_sets (gr := w.heap.size) (by rfl) (by simp [go_sem, d0]), rfl, ?_⟩
  exact HB2.out.trans ((Below.refl _ _).setCell (p := ⟨w.heap.size, 0, none⟩) (Nat.le_refl _) _)

end Go.Proofs.Ytfmaapojlbheaaa
