/- The chapter's example, as the statements ask it. -/
import Derived.Test.YtfmaapojlbheaaaEHas
import Derived.Laws.StructEq
namespace Go.Proofs.Ytfmaapojlbheaaa
open Go.RowKit

theorem isSet_15 : IsSet [⟨1, 5⟩] := ⟨0, by simp only; omega, by simp only; omega, trivial⟩

theorem inR_15 {z : Int} : inR [⟨1, 5⟩] z ↔ inR [⟨1, 3⟩, ⟨2, 5⟩] z := by
  rw [inR_cons, inR_cons, inR_cons]
  simp only [Rn.has, inR_nil, or_false]
  omega

theorem eql_run (x y x' y' : Int) (w : World) : (binOp .eql 37 (.agg #[.int .i64 x, .int .i64 y]) (.agg #[.int .i64 x', .int .i64 y'])).run Try.prog w = .ok (.bool (decide (x = x') && decide (y = y'))) w := by
  have u3 := Try.underlying3
  have a3 := Try.isAgg3
  have z3 := Try.sizeOf3
  have hS : Try.prog.underlying 37 = some (.struct (Try.prog.fieldsOf 37)) := by kernel_rfl
  have hp : Try.prog.stoodInHeld 37 = false := by kernel_rfl
  rw [run_eql_struct, show (10000 : Nat) = 9999 + 1 from rfl, run_equalIn_agg w 9999 37 _ _ hS hp]
  simp only [Program.fieldsOf, Try.underlying37]
  go_simp
  by_cases h1 : x = x' <;> by_cases h2 : y = y' <;> simp [h1, h2]

theorem neq_run (x y x' y' : Int) (w : World) : (binOp .neq 37 (.agg #[.int .i64 x, .int .i64 y]) (.agg #[.int .i64 x', .int .i64 y'])).run Try.prog w = .ok (.bool !(decide (x = x') && decide (y = y'))) w := by
  have u3 := Try.underlying3
  have a3 := Try.isAgg3
  have z3 := Try.sizeOf3
  have hS : Try.prog.underlying 37 = some (.struct (Try.prog.fieldsOf 37)) := by kernel_rfl
  have hp : Try.prog.stoodInHeld 37 = false := by kernel_rfl
  rw [run_neq_struct, show (10000 : Nat) = 9999 + 1 from rfl, run_equalIn_agg w 9999 37 _ _ hS hp]
  simp only [Program.fieldsOf, Try.underlying37]
  go_simp
  by_cases h1 : x = x' <;> by_cases h2 : y = y' <;> simp [h1, h2]

set_option maxHeartbeats 1000000 in
theorem lives_any (w : World) : Calls Try.prog 6 #[] w fun e w' => e = .returned (.bool true) ∧ Below w.heap.size w w' := by
  obtain ⟨w0, hw0⟩ : ∃ w0, w0 = w.alloc (.cells #[.int .i64 1, .int .i64 3, .int .i64 2, .int .i64 5] 37) := ⟨_, rfl⟩
  have hrd : RdR w0 (some ⟨w.heap.size, 0, none⟩) 2 [⟨1, 3⟩, ⟨2, 5⟩] := by
    refine ⟨rfl, fun _ => ⟨_, 0, rfl, fun j hj => ?_⟩⟩
    rw [hw0]
    have : j = 0 ∨ j = 1 := by omega
    rcases this with rfl | rfl <;> exact ⟨by simp [go_sem], by simp [go_sem]⟩
  have hb0 : Below w.heap.size w w0 := by rw [hw0]; exact Below.alloc0 _ _
  have HOf := Lib.hid (of_any (some ⟨w.heap.size, 0, none⟩) 2 2 _ w0 hrd (by omega) (fun r hr => by
    simp only [List.mem_cons, List.not_mem_nil, or_false] at hr
    rcases hr with rfl | rfl <;> exact ⟨by simp only; omega, by simp only; omega, by simp only; omega, by simp only; omega⟩))
  have HB0 := Lib.hid hb0
  clear hrd hb0
  go_enter Try.func6, Try.ntmps6
  go_wp2_with fail
  rw [← hw0]
  clear hw0
  refine HOf.out.mono ?_
  rintro e w1 ⟨v, M, rfl, ho, hs, hm, _, hb⟩
  have hM : M = [⟨1, 5⟩] := hs.unique isSet_15 fun z => by rw [hm z, inR_15]
  subst hM
  obtain ⟨a, c, rfl, hr, _, hlo⟩ := ho.rd
  have HB1 : Hid (Below w.heap.size w w1) := Lib.hid (HB0.out.trans (hb.mono HB0.out.size))
  obtain ⟨b, o, rfl, hc⟩ := hr.2 (by simp)
  have HR := Lib.hid hr
  obtain ⟨e0, e1⟩ := hc 0 (by simp)
  have ho0 := (hlo b o rfl).2.2
  subst ho0
  simp only [List.getD_cons_zero, Nat.zero_mul, Nat.add_zero, Nat.zero_add] at e0 e1
  simp only [List.length_cons, List.length_nil] at HR
  have heq : ∀ W : World, (binOp .eql 37 (.agg #[.int .i64 1, .int .i64 5]) (.agg #[.int .i64 1, .int .i64 5])).run Try.prog W = .ok (.bool true) W := fun W => eql_run 1 5 1 5 W
  have HOk : Hid (∀ r ∈ [(⟨1, 5⟩ : Rn)], r.ok) := Lib.hid (fun r hr => by
    simp only [List.mem_singleton] at hr
    subst hr
    exact ⟨by simp only; omega, by simp only; omega, by simp only; omega, by simp only; omega⟩)
  clear ho hs hm hb hc hr hlo
  go_wp2_with fail
  refine (setLen_any _ 1 c [⟨1, 5⟩] w1 HR.out (by omega) HOk.out).mono ?_
  rintro e w2 ⟨rfl, hb2⟩
  have hlen : sumLen [⟨1, 5⟩] = 4 := by rfl
  rw [hlen]
  have HR2 := Lib.hid (HR.out.later hb2)
  have HB2 : Hid (Below w.heap.size w w2) := Lib.hid (HB1.out.trans (hb2.mono HB1.out.size))
  clear hb2 hlen
  go_wp2_with fail
  refine (has_any _ 1 c [⟨1, 5⟩] 4 true w2 HR2.out (by omega) isSet_15 (by simp [inR_cons, Rn.has])).mono ?_
  rintro e w3 ⟨rfl, hb3⟩
  have HR3 := Lib.hid (HR2.out.later hb3)
  have HB3 : Hid (Below w.heap.size w w3) := Lib.hid (HB2.out.trans (hb3.mono HB2.out.size))
  clear hb3
  go_wp2_with fail
  refine (has_any _ 1 c [⟨1, 5⟩] 5 false w3 HR3.out (by omega) isSet_15 (by simp [inR_cons, inR_nil, Rn.has])).mono ?_
  rintro e w4 ⟨rfl, hb4⟩
  have HB4 : Hid (Below w.heap.size w w4) := Lib.hid (HB3.out.trans (hb4.mono HB3.out.size))
  clear hb4
  go_wp2
  go_ret
  exact ⟨rfl, HB4.out⟩

end Go.Proofs.Ytfmaapojlbheaaa
