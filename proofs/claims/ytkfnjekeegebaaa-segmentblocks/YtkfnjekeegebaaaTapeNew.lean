/- The contract of tape.New. -/
import Derived.Test.YtkfnjekeegebaaaTapeSkip
namespace Go.Proofs.Ytkfnjekeegebaaa
open Go.RowKit
set_option linter.unusedSimpArgs false

/-- A plan as it is handed over. -/
def planV (r y : Int) (vW vR : Value) : Value := .agg #[.int .i64 r, .int .i64 y, vW, vR]

theorem tnew_no (w : World) (r y : Int) (aW aR : Option Addr) (nW cW nR cR : Nat) (p : Option Addr) (hbad : r < 1 ∨ 16777216 < r ∨ y < 0 ∨ r < y ∨ p = none) :
    Calls Try.prog 13 #[.agg #[.int .i64 r, .int .i64 y, .slice aW nW cW, .slice aR nR cR], .pointer p] w fun e w' => e = .returned (.tuple #[.pointer none, .int .i64 1]) ∧ Below w.heap.size w w' := by
  have HB : Hid (∀ o, Below w.heap.size w (w.alloc o)) := Lib.hid fun o => Below.alloc0 w o
  by_cases h1 : r < 1
  · clear hbad
    go_enter Try.func13, Try.ntmps13
    go_wp2
    go_ret2
    exact ⟨rfl, HB.out _⟩
  have h1' : 1 ≤ r := by omega
  clear h1
  by_cases h2 : 16777216 < r
  · clear hbad
    go_enter Try.func13, Try.ntmps13
    go_wp2
    go_ret2
    exact ⟨rfl, HB.out _⟩
  have h2' : r ≤ 16777216 := by omega
  clear h2
  by_cases h3 : y < 0
  · clear hbad
    go_enter Try.func13, Try.ntmps13
    go_wp2
    go_ret2
    exact ⟨rfl, HB.out _⟩
  have h3' : 0 ≤ y := by omega
  clear h3
  by_cases h4 : r < y
  · clear hbad
    go_enter Try.func13, Try.ntmps13
    go_wp2
    go_ret2
    exact ⟨rfl, HB.out _⟩
  have h4' : y ≤ r := by omega
  have h5 : p = none := by
    rcases hbad with h | h | h | h | h
    · omega
    · omega
    · omega
    · omega
    · exact h
  subst h5
  clear h4 hbad
  go_enter Try.func13, Try.ntmps13
  go_wp2
  go_ret2
  exact ⟨rfl, HB.out _⟩

set_option maxHeartbeats 1000000 in
theorem tnew_yes (w : World) (r y gp : Nat) (aW aR : Option Addr) (nW cW nR cR : Nat) (LW LR : List Int) (s : Pw) (hr1 : 1 ≤ r) (hr2 : r ≤ 16777216) (hy : y ≤ r) (hW : RdI w aW nW LW) (hR : RdI w aR nR LR) (hnW : nW ≤ 1000000) (hnR : nR ≤ 1000000) (hp : Pow w gp s) :
    Calls Try.prog 13 #[.agg #[.int .i64 (r : Int), .int .i64 (y : Int), .slice aW nW cW, .slice aR nR cR], .pointer (some ⟨gp, 0, none⟩)] w fun e w' => ∃ gt F, e = .returned (.tuple #[.pointer (some ⟨gt, 0, none⟩), .int .i64 0]) ∧ Tap w' gt gp s ⟨r, y, LW, LR, [], 0⟩ F ∧ Below w.heap.size w w' ∧ ∀ k ∈ F, w.heap.size ≤ k := by
  obtain ⟨w1, h1⟩ : ∃ w1, w1 = w.alloc (.cells #[.int .i64 (r : Int), .int .i64 (y : Int), .slice aW nW cW, .slice aR nR cR] 53) := ⟨_, rfl⟩
  obtain ⟨gb, hgb⟩ : ∃ gb, gb = w.heap.size := ⟨_, rfl⟩
  have hob : w1.heap[gb]? = some (.cells #[.int .i64 (r : Int), .int .i64 (y : Int), .slice aW nW cW, .slice aR nR cR] 53 (0, 0)) := by rw [h1, hgb]; exact heap_alloc_new w _
  have hbe : Below w.heap.size w w1 := by rw [h1]; exact Below.alloc0 _ _
  have HBC : ∀ W, Below w1.heap.size w1 W → W.cell? ⟨gb, 0, none⟩ = some (.int .i64 (r : Int)) ∧ W.cell? ⟨gb, 1, none⟩ = some (.int .i64 (y : Int)) ∧ W.cell? ⟨gb, 2, none⟩ = some (.slice aW nW cW) ∧ W.cell? ⟨gb, 3, none⟩ = some (.slice aR nR cR) := by
    intro W hb
    have e := (hb.block gb (lt_of_block hob)).trans hob
    refine ⟨?_, ?_, ?_, ?_⟩ <;> rw [cell_of_row W gb _ _ 53 (0, 0) e] <;> rfl
  have HSW : Hid (∀ W, Below w1.heap.size w1 W → Calls Try.prog 31 #[.slice aW nW cW] W fun e w' => ∃ b, e = .returned (.map (some b)) ∧ (w'.cell? ⟨gb, 0, none⟩ = some (.int .i64 (r : Int)) ∧ w'.cell? ⟨gb, 1, none⟩ = some (.int .i64 (y : Int)) ∧ w'.cell? ⟨gb, 2, none⟩ = some (.slice aW nW cW) ∧ w'.cell? ⟨gb, 3, none⟩ = some (.slice aR nR cR)) ∧ Hid (SetM w' b LW ∧ Below w1.heap.size w1 w' ∧ w1.heap.size ≤ b ∧ Below W.heap.size W w')) := by
    refine Lib.hid fun W hb => (setOf_any W aW nW cW LW ((hW.later hbe).later hb) hnW).mono ?_
    rintro e w' ⟨b, rfl, h2, h3, h4⟩
    have h5 := hb.trans (h4.mono hb.size)
    exact ⟨b, rfl, HBC w' h5, Lib.hid ⟨h3, h5, Nat.le_trans hb.size h2, h4⟩⟩
  have HSR : Hid (∀ W, Below w1.heap.size w1 W → Calls Try.prog 31 #[.slice aR nR cR] W fun e w' => ∃ b, e = .returned (.map (some b)) ∧ (w'.cell? ⟨gb, 0, none⟩ = some (.int .i64 (r : Int)) ∧ w'.cell? ⟨gb, 1, none⟩ = some (.int .i64 (y : Int)) ∧ w'.cell? ⟨gb, 2, none⟩ = some (.slice aW nW cW) ∧ w'.cell? ⟨gb, 3, none⟩ = some (.slice aR nR cR)) ∧ Hid (SetM w' b LR ∧ Below w1.heap.size w1 w' ∧ w1.heap.size ≤ b ∧ Below W.heap.size W w')) := by
    refine Lib.hid fun W hb => (setOf_any W aR nR cR LR ((hR.later hbe).later hb) hnR).mono ?_
    rintro e w' ⟨b, rfl, h2, h3, h4⟩
    have h5 := hb.trans (h4.mono hb.size)
    exact ⟨b, rfl, HBC w' h5, Lib.hid ⟨h3, h5, Nat.le_trans hb.size h2, h4⟩⟩
  obtain ⟨d0, d1, d2, d3⟩ := HBC w1 (Below.refl _ _)
  have HEND : Hid (∀ (w2 : World) (bW bR : Nat), SetM w2 bW LW → SetM w2 bR LR → Below w1.heap.size w1 w2 → w1.heap.size ≤ bW → w1.heap.size ≤ bR → ∃ F, Tap (w2.alloc (tapObj gp r y bW bR (.slice none 0 0) 0)) w2.heap.size gp s ⟨r, y, LW, LR, [], 0⟩ F ∧ Below w.heap.size w (w2.alloc (tapObj gp r y bW bR (.slice none 0 0) 0)) ∧ ∀ k ∈ F, w.heap.size ≤ k) := by
    refine Lib.hid fun w2 bW bR hw hr hb h3 h4 => ?_
    have hs1 : w.heap.size ≤ w1.heap.size := hbe.size
    have hs2 := hb.size
    have hb2 : Below w.heap.size w w2 := hbe.trans (hb.mono hs1)
    have hbb : Below w.heap.size w (w2.alloc (tapObj gp r y bW bR (.slice none 0 0) 0)) := hb2.alloc hb2.size _
    have hgp := hp.lt
    refine ⟨[w2.heap.size, bW, bR], ⟨.slice none 0 0, [], bW, bR, ?_⟩, hbb, ?_⟩
    · refine ⟨heap_alloc_new w2 _, hp.below hbb hgp, hw.later (Below.alloc0 _ _), hr.later (Below.alloc0 _ _), World.ownsRow_nil _ _ _ _, by simp, rfl, by simp, by simp, by simp [usedOf], hr2, hy, by simp, by simp, by simp, by simp [Value.ownBlock], ?_, ?_⟩
      · simp only [List.mem_cons, List.not_mem_nil, or_false, not_or]
        omega
      · have h5 := hw.lt
        have h6 := hr.lt
        intro k hk
        simp only [List.mem_cons, List.not_mem_nil, or_false] at hk
        simp
        omega
    · simp only [List.mem_cons, List.not_mem_nil, or_false]
      omega
  have hr1' : (1 : Int) ≤ (r : Int) := by omega
  have hr2' : (r : Int) ≤ 16777216 := by omega
  have hy1 : (0 : Int) ≤ (y : Int) := by omega
  have hd : decide (r < y) = false := by simp; omega
  have hgp1 : Hid (w1 = w.alloc (.cells #[.int .i64 (r : Int), .int .i64 (y : Int), .slice aW nW cW, .slice aR nR cR] 53) ∧ gb = w.heap.size) := Lib.hid ⟨h1, hgb⟩
  clear hW hR hp hob hbe HBC h1 hgb hnW hnR
  go_enter Try.func13, Try.ntmps13
  go_upto_region 1 with fail
  rw [← hgp1.out.1, ← hgp1.out.2]
  go_upto_region 3 with fail
  go_region_held3 (fun W => W.cell? ⟨gb, 0, none⟩ = some (.int .i64 (r : Int)) ∧ W.cell? ⟨gb, 1, none⟩ = some (.int .i64 (y : Int)) ∧ W.cell? ⟨gb, 2, none⟩ = some (.slice aW nW cW) ∧ W.cell? ⟨gb, 3, none⟩ = some (.slice aR nR cR))
    (first | exact ⟨d0, d1, d2, d3⟩ | exact hk1 | exact hk2 | exact ⟨Lib.cell?_alloc_some _ hk1.1, Lib.cell?_alloc_some _ hk1.2.1, Lib.cell?_alloc_some _ hk1.2.2.1, Lib.cell?_alloc_some _ hk1.2.2.2⟩ | exact ⟨Lib.cell?_alloc_some _ hk2.1, Lib.cell?_alloc_some _ hk2.2.1, Lib.cell?_alloc_some _ hk2.2.2.1, Lib.cell?_alloc_some _ hk2.2.2.2⟩ | go_keep)
    (first
      | (go_at_call_of 31 aW; refine (HSW.out _ ?_).mono ?_; (first | exact HB2.out.2.1 | exact (Below.refl _ _).drew); rintro e wA ⟨b1, rfl, hk1, HB1⟩)
      | (go_at_call_of 31 aR; refine (HSR.out _ ?_).mono ?_; (first | exact HB1.out.2.1 | exact (Below.refl _ _).drew); rintro e wB ⟨b2, rfl, hk2, HB2⟩))
  all_goals
    go_wp2
    go_ret2
    first
      | (obtain ⟨F, h1, h2, h3⟩ := HEND.out wB b1 b2 (HB1.out.1.later HB2.out.2.2.2) HB2.out.1 HB2.out.2.1 HB1.out.2.2.1 HB2.out.2.2.1
         exact ⟨_, F, rfl, h1, h2, h3⟩)
      | (obtain ⟨F, h1, h2, h3⟩ := HEND.out wA b1 b2 HB1.out.1 (HB2.out.1.later HB1.out.2.2.2) HB1.out.2.1 HB1.out.2.2.1 HB2.out.2.2.1
         exact ⟨_, F, rfl, h1, h2, h3⟩)

end Go.Proofs.Ytkfnjekeegebaaa
