/- The chapter's example, run; PowerNil, run. -/
import Derived.Test.YtplboipmepmgkaaPow
namespace Go.Proofs.Ytplboipmepmgkaa
open Go.RowKit

theorem alloc_put (w : World) (o o' : Obj) : put (w.alloc o) w.heap.size o' = w.alloc o' := by
  have e : (w.heap.push o).setIfInBounds w.heap.size o' = w.heap.push o' := by
    apply Array.ext_getElem?
    intro i
    by_cases hi : w.heap.size = i
    · subst hi; simp
    · rw [Array.getElem?_setIfInBounds_ne hi]
      simp only [Array.getElem?_push]
      rw [if_neg (fun h => hi h.symm), if_neg (fun h => hi h.symm)]
  simp only [put, World.alloc, e]

theorem pow_new (w : World) (s : Pw) : Pow (w.alloc (powObj s)) w.heap.size s := heap_alloc_new w _

theorem ok_small {s : Pw} (h : s.plan = none ∨ ∃ t, s.plan = some (0, t) ∨ s.plan = some (1, t)) (hc : s.count < 1000) : s.ok := by
  refine ⟨fun k t e => ?_, by omega⟩
  rcases h with h | ⟨t', h | h⟩ <;> rw [h] at e <;> simp at e <;> omega

set_option maxRecDepth 100000 in
theorem lives_any (w : World) : Calls Try.prog 5 #[] w fun e w' => e = .returned (.bool true) ∧ w' = w.alloc (powObj ⟨false, none, 2⟩) := by
  have hN := Lib.hid (new_any w)
  have hP := plan_any (w.alloc (powObj ⟨true, none, 0⟩)) w.heap.size _ 1 3 (pow_new w _)
  have hW1 := write_any (w.alloc (powObj ⟨true, some (1, 3), 0⟩)) w.heap.size _ 9 (pow_new w _) (ok_small (.inr ⟨3, .inr rfl⟩) (by decide))
  have hW2 := write_any (w.alloc (powObj ⟨true, some (0, 3), 1⟩)) w.heap.size _ 9 (pow_new w _) (ok_small (.inr ⟨3, .inl rfl⟩) (by decide))
  have hO := Lib.hid (on_any (w.alloc (powObj ⟨false, none, 2⟩)) w.heap.size _ (pow_new w _))
  rw [show (Pw.mk true none 0).planned 1 3 = ⟨true, some (1, 3), 0⟩ from rfl, alloc_put] at hP
  rw [show (Pw.mk true (some (1, 3)) 0).write 9 = (⟨true, some (0, 3), 1⟩, 9, 0) from rfl, alloc_put] at hW1
  rw [show (Pw.mk true (some (0, 3)) 1).write 9 = (⟨false, none, 2⟩, 3, 11) from rfl, alloc_put] at hW2
  have HP := Lib.hid hP
  have HW1 := Lib.hid hW1
  have HW2 := Lib.hid hW2
  clear hP hW1 hW2
  obtain ⟨w1, h1⟩ : ∃ w1, w1 = w.alloc (powObj ⟨true, none, 0⟩) := ⟨_, rfl⟩
  obtain ⟨w2, h2⟩ : ∃ w2, w2 = w.alloc (powObj ⟨true, some (1, 3), 0⟩) := ⟨_, rfl⟩
  obtain ⟨w3, h3⟩ : ∃ w3, w3 = w.alloc (powObj ⟨true, some (0, 3), 1⟩) := ⟨_, rfl⟩
  obtain ⟨w4, h4⟩ : ∃ w4, w4 = w.alloc (powObj ⟨false, none, 2⟩) := ⟨_, rfl⟩
  rw [← h1] at hN HP
  rw [← h2] at HP HW1
  rw [← h3] at HW1 HW2
  rw [← h4] at HW2 hO ⊢
  clear h1 h2 h3 h4
  go_enter Try.func5, Try.ntmps5
  go_wp2_with fail
  refine hN.out.mono ?_
  rintro e w' ⟨rfl, rfl⟩
  go_wp2_with fail
  refine HP.out.mono ?_
  rintro e w' ⟨rfl, rfl⟩
  go_wp2_with fail
  refine HW1.out.mono ?_
  rintro e w' ⟨rfl, rfl⟩
  go_wp2_with fail
  refine HW2.out.mono ?_
  rintro e w' ⟨rfl, rfl⟩
  go_wp2_with fail
  refine hO.out.mono ?_
  rintro e w' ⟨rfl, rfl⟩
  go_wp2
  go_ret
  exact ⟨rfl, rfl⟩

set_option maxRecDepth 100000 in
theorem powerNil_walk (w : World) (n : Int) : Calls Try.prog 4 #[.int .i64 n] w fun e w' => e = .returned (.bool true) ∧ Below w.heap.size w w' := by
  have hL := Lib.hid (lives_any w)
  obtain ⟨w1, h1⟩ : ∃ w1, w1 = w.alloc (powObj ⟨false, none, 2⟩) := ⟨_, rfl⟩
  rw [← h1] at hL
  have H1 := Lib.hid h1
  clear h1
  by_cases hn : n < 0
  · go_enter Try.func4, Try.ntmps4
    go_wp2_with fail
    refine hL.out.mono ?_
    rintro e w' ⟨rfl, rfl⟩
    go_wp2_with fail
    refine (plan_nil _ n n).mono ?_
    rintro e w' ⟨rfl, rfl⟩
    go_wp2_with fail
    refine (up_nil _).mono ?_
    rintro e w' ⟨rfl, rfl⟩
    go_wp2_with fail
    refine (write_argAny _ _ n hn).mono ?_
    rintro e w' ⟨rfl, rfl⟩
    go_wp2_with fail
    refine (on_nil _).mono ?_
    rintro e w' ⟨rfl, rfl⟩
    go_wp2_with fail
    refine (count_nil _).mono ?_
    rintro e w' ⟨rfl, rfl⟩
    go_wp2
    go_ret
    exact ⟨rfl, by rw [H1.out]; exact (Below.refl _ _).alloc (Nat.le_refl _) _⟩
  · have hn' : 0 ≤ n := by omega
    go_enter Try.func4, Try.ntmps4
    go_wp2_with fail
    refine hL.out.mono ?_
    rintro e w' ⟨rfl, rfl⟩
    go_wp2_with fail
    refine (plan_nil _ n n).mono ?_
    rintro e w' ⟨rfl, rfl⟩
    go_wp2_with fail
    refine (up_nil _).mono ?_
    rintro e w' ⟨rfl, rfl⟩
    go_wp2_with fail
    refine (write_nil _ n (by omega)).mono ?_
    rintro e w' ⟨rfl, rfl⟩
    go_wp2_with fail
    refine (on_nil _).mono ?_
    rintro e w' ⟨rfl, rfl⟩
    go_wp2_with fail
    refine (count_nil _).mono ?_
    rintro e w' ⟨rfl, rfl⟩
    go_wp2
    go_ret
    exact ⟨rfl, by rw [H1.out]; exact (Below.refl _ _).alloc (Nat.le_refl _) _⟩
end Go.Proofs.Ytplboipmepmgkaa
