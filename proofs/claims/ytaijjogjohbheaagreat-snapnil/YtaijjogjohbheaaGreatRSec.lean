/- The contract of root's rootSector. -/
import Derived.Test.YtaijjogjohbheaaGreatRRoot
import Derived.Test.YtaijjogjohbheaaGreatCheckOf
import Derived.Test.YtaijjogjohbheaaGreatVPutAll
namespace Go.Proofs.YtaijjogjohbheaaGreat
open Go.RowKit
set_option maxRecDepth 100000
set_option linter.unusedSimpArgs false

/-- Two numbers in a row of their own. -/
theorem rdU_two {w : World} {ty : TypeId} {x y : Nat} (hx : x ≤ 18446744073709551615) (hy : y ≤ 18446744073709551615) :
    RdU (w.alloc (.cells #[.int .u64 (x : Int), .int .u64 (y : Int)] ty)) (some ⟨w.heap.size, 0, none⟩) 2 [x, y] := by
  refine ⟨rfl, by simp; omega, fun _ => ⟨_, _, rfl, fun j hj => ?_⟩⟩
  rw [World.cell?_alloc_new]
  rcases (by omega : j = 0 ∨ j = 1) with rfl | rfl <;> rfl

set_option maxRecDepth 100000 in
theorem rootSector_any (G : Nat) (a : Option Addr) (n c : Nat) (b : List Nat) (w : World) (h : Rd w a n b) (hn : n ≤ 3000000) :
    Calls Tryz.prog 88 #[.int .u64 (G : Int), .slice a n c] w fun e w' => ∃ v, e = .returned v ∧ Own w' w.heap.size v (rSec G b) ∧ Below w.heap.size w w' := by
  have hl := h.1
  have HR := Lib.hid h
  obtain ⟨hh1, hh2⟩ := rHead_len G b (by omega)
  have hS := cSum_lt b
  obtain ⟨S, hSe⟩ : ∃ S, S = cSum b := ⟨_, rfl⟩
  rw [← hSe] at hS
  have HSE := Lib.hid hSe
  have HA := Lib.hid (appendGen_any (.slice none 0 0) w.heap.size G [] w (Own.nil w _) (Nat.le_refl _) (by simp))
  have HL := Lib.hid hl
  clear h hSe hl
  go_enter Tryz.func88, Tryz.ntmps88
  go_wp2_with fail
  refine HA.out.mono ?_
  rintro e w1 ⟨v1, rfl, ho1, hb1⟩
  rw [List.nil_append] at ho1
  obtain ⟨a1, c1, rfl, hr1, hc1⟩ := ho1.sl
  rw [g8_length] at hr1 hc1 ⊢
  have HR1 := Lib.hid hr1
  have HB1 := Lib.hid hb1
  clear ho1 hr1 hb1
  go_wp2_with fail
  refine (of_one (HR.out.later (HB1.out)) hn 40).mono ?_
  rintro e w2 ⟨rfl, rfl⟩
  rw [← HSE.out]
  go_wp2_with fail
  have hu : RdU ((w1.alloc (.cells #[.slice a n c] 40)).alloc (.cells #[.int .u64 (n : Int), .int .u64 (S : Int)] 104)) (some ⟨w1.heap.size + 1, 0, none⟩) 2 [n, S] := by
    have h := rdU_two (w := w1.alloc (.cells #[.slice a n c] 40)) (ty := 104) (x := n) (y := S) (by omega) (by omega)
    rw [show (w1.alloc (.cells #[.slice a n c] 40)).heap.size = w1.heap.size + 1 by simp] at h
    exact h
  have hb2 : Below w1.heap.size w1 ((w1.alloc (.cells #[.slice a n c] 40)).alloc (.cells #[.int .u64 (n : Int), .int .u64 (S : Int)] 104)) := (Below.alloc0 _ _).alloc (by simp) _
  refine (put_any _ _ _ _ _ _ _ _ _ (HR1.out.later hb2) hu (by omega) (by omega)).mono ?_
  rintro e w3 ⟨v3, rfl, ho3, hb3⟩
  have e3 : g8 8 G ++ [n, S].flatMap vEnc = rHead G b := by rw [rHead, HL.out, HSE.out]
  rw [e3] at ho3
  obtain ⟨g3, c3, rfl⟩ := ho3.held (by omega)
  have HO3 := Lib.hid (ho3.mono (base' := w.heap.size) (by have := HB1.out.size; simp; omega))
  have HB3 := Lib.hid ((HB1.out.trans (hb2.mono (HB1.out.size))).trans (hb3.mono (by have := HB1.out.size; simp; omega)))
  clear ho3 hb3 hu hb2
  obtain ⟨M, hM⟩ : ∃ M, M = (rHead G b).length := ⟨_, rfl⟩
  rw [← hM] at hh1 hh2 HO3 ⊢
  have HM := Lib.hid hM
  clear hM
  go_wp2_with (at_builtin; refine wpList_append_zeros rfl (.tmp 17) (.tmp 20) rfl g3 M c3 rfl (56 - M) (congrArg (Value.int .i64) (show (56 : Int) - (M : Int) = ((56 - M : Nat) : Int) by omega)) w.heap.size (rHead G b) HO3.out HM.out.symm HB3.out.size (by omega) ?next)
  case next =>
    intro v4 w4 ho4 hb4
    have HO4 := Lib.hid ho4
    have HB4 := Lib.hid (HB3.out.trans hb4)
    clear ho4 hb4
    go_wp2_with fail
    refine (appendGen_any v4 w.heap.size G _ w4 HO4.out HB4.out.size (by rw [List.length_append, List.length_replicate, ← HM.out]; omega)).mono ?_
    rintro e w5 ⟨v5, rfl, ho5, hb5⟩
    have HO5 := Lib.hid ho5
    have HB5 := Lib.hid hb5
    clear ho5 hb5
    go_wp2
    go_ret
    refine ⟨v5, rfl, ?_, HB4.out.trans HB5.out⟩
    have := HO5.out
    rw [HM.out] at this
    exact this

end Go.Proofs.YtaijjogjohbheaaGreat
