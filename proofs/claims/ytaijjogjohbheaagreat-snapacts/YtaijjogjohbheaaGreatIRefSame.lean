/- The contract of the document's Same of runs, over any world. -/
import Derived.Test.YtaijjogjohbheaaGreatGEInToEInAny
import Derived.Laws.StructEq
import Derived.BigQuiet
namespace Go.Proofs.YtaijjogjohbheaaGreat
open Go.RowKit
set_option maxRecDepth 100000

theorem neq_ref (x y x' y' : Int) (w : World) : (binOp .neq 127 (.agg #[.int .i64 x, .int .i64 y]) (.agg #[.int .i64 x', .int .i64 y'])).run Tryz.prog w = .ok (.bool !(decide (x = x') && decide (y = y'))) w := by
  have u3 := Tryz.underlying3
  have a3 := Tryz.isAgg3
  have z3 := Tryz.sizeOf3
  have hS : Tryz.prog.underlying 127 = some (.struct (Tryz.prog.fieldsOf 127)) := by kernel_rfl
  have hp : Tryz.prog.stoodInHeld 127 = false := by kernel_rfl
  rw [run_neq_struct, show (10000 : Nat) = 9999 + 1 from rfl, run_equalIn_agg w 9999 127 _ _ hS hp]
  simp only [Program.fieldsOf, Tryz.underlying127]
  go_simp
  by_cases h1 : x = x' <;> by_cases h2 : y = y' <;> simp [h1, h2]

set_option maxHeartbeats 1000000 in
theorem refSame_any (a b : Option Addr) (n ca cb : Nat) (R : List Rn) (w : World) (ha : RdR w a n R) (hb : RdR w b n R) (hn : n ≤ 1000000) :
    Calls Tryz.prog 36 #[.slice a n ca, .slice b n cb] w fun e w' => e = .returned (.bool true) ∧ Below w.heap.size w w' := by
  have HA := Lib.hid ha
  have HC := Lib.hid hb
  clear ha hb
  go_enter Tryz.func36, Tryz.ntmps36
  go_wp2
  go_loopg [5] n (fun k i wr => ∃ j : Nat, k = n - j ∧ j ≤ n ∧ i = .int .i64 (j : Int) ∧ Hid (Below w.heap.size w wr))
  case atStart => exact ⟨0, rfl, Nat.zero_le _, rfl, Lib.hid (Below.refl _ _)⟩
  case round =>
    obtain ⟨j, hk, hj, rfl, HB⟩ := hrel
    have HK := Lib.hid hk
    clear hk
    by_cases hlt : j < n
    · obtain ⟨b1, o1, r1, he1, hre1, _, f0, f1⟩ := HA.out.at_ HB.out hlt
      obtain ⟨b2, o2, r2, he2, hre2, _, g0, g1⟩ := HC.out.at_ HB.out hlt
      have hrr : r2 = r1 := by rw [hre1, hre2]
      subst hrr
      subst he1
      subst he2
      obtain ⟨x, y⟩ := r2
      simp only at f0 f1 g0 g1
      have hne : ∀ W : World, (binOp .neq 127 (.agg #[.int .i64 x, .int .i64 y]) (.agg #[.int .i64 x, .int .i64 y])).run Tryz.prog W = .ok (.bool false) W := fun W => by
        rw [neq_ref]; simp
      clear hre1 hre2
      go_wp2_with fail
      go_quiet (fail)
      go_wp2
      go_roundg (n - (j + 1))
      case measure => have := HK.out; omega
      case rel => exact ⟨j + 1, rfl, by omega, by go_num, Lib.hid (HB.out.trans ⟨rfl, rfl, rfl, Nat.le_refl _, fun _ _ => rfl⟩)⟩
    · go_wp2
      go_ret
      exact ⟨rfl, HB.out⟩

end Go.Proofs.YtaijjogjohbheaaGreat
