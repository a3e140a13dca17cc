/- The contracts of image's of, New, Clone, over any world. -/
import Derived.Test.YtlmieegemckodaaICopy
namespace Go.Proofs.Ytlmieegemckodaa
open Go.RowKit
set_option linter.unusedSimpArgs false

/-- The world in which an image is laid. -/
def wNew (w : World) : World := (w.alloc (.map #[] 0)).alloc (.cells #[.map (some w.heap.size)] 78)

theorem wNew_below (w : World) : Below w.heap.size w (wNew w) := ((Below.refl _ _).alloc (Nat.le_refl _) _).alloc (by simp) _

theorem wNew_img (w : World) : (wNew w).heap[w.heap.size + 1]? = some (.cells #[.map (some w.heap.size)] 78 (0, 0)) := by
  have := heap_alloc_last (w.alloc (.map #[] 0)) (.cells #[.map (some w.heap.size)] 78)
  rw [World.size_alloc] at this
  exact this

theorem wNew_own (w : World) : (wNew w).ownsMap Try.prog 3 blkR w.heap.size 0 (.map []) := (World.ownsMap_made _ _ _ _).alloc _

theorem wNew_size (w : World) : (wNew w).heap.size = w.heap.size + 1 + 1 := by simp [wNew]

theorem ofImg_any (w : World) (b n : Nat) (F : List (List Nat)) (h : Mp w b n F) (hok : okF F) (hn : n < 100000) :
    Calls Try.prog 29 #[.map (some b)] w fun e w' => ∃ g' b', e = .returned (.pointer (some ⟨g', 0, none⟩)) ∧ w.heap.size ≤ g' ∧ w.heap.size ≤ b' ∧ Img w' g' b' n F ∧ Below w.heap.size w w' := by
  have hmm := @run_makeMap Try.prog
  have hlt := h.lt
  have HC := Lib.hid (copy_any (wNew w) w.heap.size b n F (by omega) (wNew_own w) (h.later (wNew_below w)) hn)
  obtain ⟨s0, hs0⟩ : ∃ s0, s0 = w.heap.size := ⟨_, rfl⟩
  have e1 : (w.alloc (.map #[] 0)).heap.size = s0 + 1 := by rw [hs0]; simp
  have HOk := Lib.hid hok
  have HI := Lib.hid (wNew_img w)
  have HB := Lib.hid (wNew_below w)
  have HSz := Lib.hid (wNew_size w)
  have hcell : (wNew w).cell? ⟨s0 + 1, 0, none⟩ = some (.map (some s0)) := by rw [hs0]; simp [World.cell?, HI.out]
  obtain ⟨w1, hw1⟩ : ∃ w1, w1 = wNew w := ⟨_, rfl⟩
  rw [← hw1] at HC HI HB hcell HSz
  rw [← hs0] at HC HI HB HSz
  have hw2 : (w.alloc (.map #[] 0)).alloc (.cells #[.map (some s0)] 78) = w1 := by rw [hw1, hs0]; rfl
  have hs1 : w.heap.size = s0 := hs0.symm
  clear h hok hw1 hlt hs0
  go_enter Try.func29, Try.ntmps29
  go_wp2_with fail
  clear hw2 e1 hmm hcell
  refine HC.out.mono ?_
  rintro e w3 ⟨rfl, hm, hsv⟩
  have HM := Lib.hid (And.intro hm hsv)
  have HS1 := Lib.hid hs1
  clear hm hsv hs1
  go_wp2
  go_ret
  rw [HS1.out]
  refine ⟨s0 + 1, s0, rfl, by omega, Nat.le_refl _, ⟨(HM.out.2.block _ (by rw [HSz.out]; omega) (by simp)).trans HI.out, HM.out.1, HOk.out⟩, HB.out.trans (HM.out.2.below (by rw [HSz.out]; omega) (by simp))⟩

theorem ofImg_nil (w : World) :
    Calls Try.prog 29 #[.map none] w fun e w' => ∃ g' b', e = .returned (.pointer (some ⟨g', 0, none⟩)) ∧ w.heap.size ≤ g' ∧ w.heap.size ≤ b' ∧ Img w' g' b' 0 holes ∧ Below w.heap.size w w' := by
  have hmm := @run_makeMap Try.prog
  have HC := Lib.hid (copy_none (wNew w) w.heap.size)
  obtain ⟨s0, hs0⟩ : ∃ s0, s0 = w.heap.size := ⟨_, rfl⟩
  have e1 : (w.alloc (.map #[] 0)).heap.size = s0 + 1 := by rw [hs0]; simp
  have HO : Hid (Mp (wNew w) w.heap.size 0 holes) := Lib.hid ⟨_, wNew_own w, Agr.nil⟩
  have HI := Lib.hid (wNew_img w)
  have HB := Lib.hid (wNew_below w)
  have HSz := Lib.hid (wNew_size w)
  have hcell : (wNew w).cell? ⟨s0 + 1, 0, none⟩ = some (.map (some s0)) := by rw [hs0]; simp [World.cell?, HI.out]
  obtain ⟨w1, hw1⟩ : ∃ w1, w1 = wNew w := ⟨_, rfl⟩
  rw [← hw1] at HC HI HB hcell HSz HO
  rw [← hs0] at HC HI HB HSz HO
  have hw2 : (w.alloc (.map #[] 0)).alloc (.cells #[.map (some s0)] 78) = w1 := by rw [hw1, hs0]; rfl
  have hs1 : w.heap.size = s0 := hs0.symm
  clear hw1 hs0
  go_enter Try.func29, Try.ntmps29
  go_wp2_with fail
  clear hw2 e1 hmm hcell
  refine HC.out.mono ?_
  rintro e w3 ⟨rfl, hb⟩
  have HM := Lib.hid hb
  have HS1 := Lib.hid hs1
  clear hb hs1
  go_wp2
  go_ret
  rw [HS1.out]
  refine ⟨s0 + 1, s0, rfl, by omega, Nat.le_refl _, ⟨(HM.out.block _ (by rw [HSz.out]; omega)).trans HI.out, HO.out.later HM.out, holes_ok⟩, HB.out.trans (HM.out.mono (by rw [HSz.out]; omega))⟩

theorem imgNew_any (w : World) :
    Calls Try.prog 28 #[] w fun e w' => ∃ g' b', e = .returned (.pointer (some ⟨g', 0, none⟩)) ∧ w.heap.size ≤ g' ∧ w.heap.size ≤ b' ∧ Img w' g' b' 0 holes ∧ Below w.heap.size w w' := by
  have HC := Lib.hid (ofImg_nil w)
  go_enter Try.func28, Try.ntmps28
  go_wp2_with fail
  refine HC.out.mono ?_
  rintro e w1 ⟨g', b', rfl, h1, h2, h3, h4⟩
  have HR := Lib.hid (And.intro h1 (And.intro h2 (And.intro h3 h4)))
  clear h1 h2 h3 h4
  go_wp2
  go_ret
  exact ⟨g', b', rfl, HR.out⟩

theorem imgClone_any (w : World) (g b n : Nat) (F : List (List Nat)) (h : Img w g b n F) (hn : n < 100000) :
    Calls Try.prog 8 #[.pointer (some ⟨g, 0, none⟩)] w fun e w' => ∃ g' b', e = .returned (.pointer (some ⟨g', 0, none⟩)) ∧ w.heap.size ≤ g' ∧ w.heap.size ≤ b' ∧ Img w' g' b' n F ∧ Below w.heap.size w w' := by
  have HA := Lib.hid (all_any w g b n F h)
  have HC := Lib.hid (ofImg_any w b n F h.map h.ok hn)
  clear h
  go_enter Try.func8, Try.ntmps8
  go_wp2_with fail
  refine HA.out.mono ?_
  rintro e w2 ⟨rfl, rfl⟩
  go_wp2_with fail
  refine HC.out.mono ?_
  rintro e w1 ⟨g', b', rfl, h1, h2, h3, h4⟩
  have HR := Lib.hid (And.intro h1 (And.intro h2 (And.intro h3 h4)))
  clear h1 h2 h3 h4
  go_wp2
  go_ret
  exact ⟨g', b', rfl, HR.out⟩

end Go.Proofs.Ytlmieegemckodaa
