/- SegmentBlocks, walked: over any world. -/
import Derived.Test.YtkfnjekeegebaaaSgCheck
namespace Go.Proofs.Ytkfnjekeegebaaa
open Go.RowKit
set_option linter.unusedSimpArgs false

set_option maxHeartbeats 4000000 in
set_option maxRecDepth 100000 in
theorem segmentBlocks_walk (h0 h1 h2 h3 h4 e0 e1 e2 e3 : Int) (z : Bool) (a : Option Addr) (n c : Nat) (l : List Nat) (w : World) (hr : Rd w a n l) (hc : n ≤ c) :
    Calls Try.prog 3 #[.agg #[.int .i64 h0, .int .i64 h1, .int .i64 h2, .int .i64 h3, .int .i64 h4], .agg #[.int .i64 e0, .int .i64 e1, .int .i64 e2, .int .i64 e3, .bool z], .slice a n c] w fun e w' => e = .returned (.bool true) ∧ Below w.heap.size w w' := by
  have HLI : Hid (∀ W, Calls Try.prog 5 #[] W fun e w' => e = .returned (.bool true) ∧ Hid (Below W.heap.size W w')) := Lib.hid fun W => (sgLives_any W).mono fun e w' ⟨h1, h2⟩ => ⟨h1, Lib.hid h2⟩
  have HSN : Hid (∀ W, Calls Try.prog 6 #[.nilIface] W fun e w' => e = .returned (.tuple #[.slice none 0 0, .int .i64 1]) ∧ Hid (Below W.heap.size W w')) := Lib.hid fun W => (sbytes_none W).mono fun e w' ⟨h1, h2⟩ => ⟨h2, Lib.hid h1⟩
  have HC1 : Hid (∀ W, Calls Try.prog 7 #[.iface 23 (.agg #[.int .i64 h0, .int .i64 h1, .int .i64 h2, .int .i64 h3, .int .i64 h4])] W fun e w' => e = .returned (.bool true) ∧ Hid (Below W.heap.size W w')) :=
    Lib.hid fun W => (check_any _ (.head h0 h1 h2 h3 h4) W rfl (by simp [Sg.text]) (by simp [Sg.text])).mono fun e w' ⟨h1, h2⟩ => ⟨h1, Lib.hid h2⟩
  have HC2 : Hid (∀ W, Calls Try.prog 7 #[.iface 25 (.agg #[.int .i64 e0, .int .i64 e1, .int .i64 e2, .int .i64 e3, .bool z])] W fun e w' => e = .returned (.bool true) ∧ Hid (Below W.heap.size W w')) :=
    Lib.hid fun W => (check_any _ (.tail e0 e1 e2 e3 z) W rfl (by simp [Sg.text]) (by simp [Sg.text])).mono fun e w' ⟨h1, h2⟩ => ⟨h1, Lib.hid h2⟩
  have HC3 : Hid (n ≤ 500 → ∀ W, Below w.heap.size w W → Calls Try.prog 7 #[.iface 32 (.slice a n c)] W fun e w' => e = .returned (.bool true) ∧ Hid (Below W.heap.size W w')) :=
    Lib.hid fun hn W hW => (check_any _ (.data l) W ⟨a, n, c, rfl, hr.later hW, hc⟩ hr.2.1 (by simp only [Sg.text]; have := hr.1; omega)).mono fun e w' ⟨h1, h2⟩ => ⟨h1, Lib.hid h2⟩
  obtain ⟨q, hq⟩ : ∃ q, q = w.heap.size := ⟨_, rfl⟩
  obtain ⟨w1, hw1⟩ : ∃ w1, w1 = (w.alloc (.cells #[.int .i64 h0, .int .i64 h1, .int .i64 h2, .int .i64 h3, .int .i64 h4] 23)).alloc (.cells #[.int .i64 e0, .int .i64 e1, .int .i64 e2, .int .i64 e3, .bool z] 25) := ⟨_, rfl⟩
  have HW : Hid ((w.alloc (.cells #[.int .i64 h0, .int .i64 h1, .int .i64 h2, .int .i64 h3, .int .i64 h4] 23)).alloc (.cells #[.int .i64 e0, .int .i64 e1, .int .i64 e2, .int .i64 e3, .bool z] 25) = w1 ∧ w.heap.size = q) := Lib.hid ⟨hw1.symm, hq.symm⟩
  have HB1 : Hid (Below w.heap.size w w1) := Lib.hid (by rw [hw1]; exact (Below.alloc0 w _).alloc (by simp) _)
  have HQ1 : Hid (w1.heap[q]? = some (.cells #[.int .i64 h0, .int .i64 h1, .int .i64 h2, .int .i64 h3, .int .i64 h4] 23 (0, 0))) := Lib.hid (by rw [hw1, hq]; exact (heap_alloc_old _ _ (by simp)).trans (heap_alloc_new w _))
  have HE1 : Hid (w1.heap[q + 1]? = some (.cells #[.int .i64 e0, .int .i64 e1, .int .i64 e2, .int .i64 e3, .bool z] 25 (0, 0))) := Lib.hid (by
    rw [hw1, hq]
    have := heap_alloc_new (w.alloc (.cells #[.int .i64 h0, .int .i64 h1, .int .i64 h2, .int .i64 h3, .int .i64 h4] 23)) (.cells #[.int .i64 e0, .int .i64 e1, .int .i64 e2, .int .i64 e3, .bool z] 25)
    rw [World.size_alloc] at this
    exact this)
  clear hq hw1 hr hc
  by_cases hn : n ≤ 500
  · have hd1 : decide (500 < (n : Int)) = false := by simp; omega
    have hd2 : ¬ (500 : Int) < (n : Int) := by omega
    have HC3' := Lib.hid (HC3.out hn)
    clear HC3 hn
    go_enter Try.func3, Try.ntmps3
    go_upto_region 1 with fail
    change Code.wp _ _ _ _ ((w.alloc (.cells #[.int .i64 h0, .int .i64 h1, .int .i64 h2, .int .i64 h3, .int .i64 h4] 23)).alloc (.cells #[.int .i64 e0, .int .i64 e1, .int .i64 e2, .int .i64 e3, .bool z] 25))
    rw [HW.out.1]
    try rw [HW.out.2]
    go_wp2_with fail
    refine (HLI.out w1).mono ?_
    rintro e w2 ⟨rfl, hb2⟩
    have HB2 : Hid (Below w1.heap.size w1 w2) := hb2
    clear hb2
    go_wp2_with fail
    refine (HSN.out w2).mono ?_
    rintro e w3 ⟨rfl, hb3⟩
    have HB3 : Hid (Below w1.heap.size w1 w3) := Lib.hid (HB2.out.trans (hb3.out.mono HB2.out.size))
    clear hb3
    obtain ⟨x0, x1, x2, x3, x4⟩ := five_cells ((HB3.out.block q (lt_of_block HQ1.out)).trans HQ1.out)
    go_wp2_with fail
    refine (HC1.out w3).mono ?_
    rintro e w4 ⟨rfl, hb4⟩
    have HB4 : Hid (Below w1.heap.size w1 w4) := Lib.hid (HB3.out.trans (hb4.out.mono HB3.out.size))
    clear hb4 x0 x1 x2 x3 x4
    obtain ⟨x0, x1, x2, x3, x4⟩ := five_cells ((HB4.out.block (q + 1) (lt_of_block HE1.out)).trans HE1.out)
    go_wp2_with fail
    refine (HC2.out w4).mono ?_
    rintro e w5 ⟨rfl, hb5⟩
    have HB5 : Hid (Below w1.heap.size w1 w5) := Lib.hid (HB4.out.trans (hb5.out.mono HB4.out.size))
    clear hb5 x0 x1 x2 x3 x4
    go_wp2_with fail
    refine (HC3'.out w5 (HB1.out.trans (HB5.out.mono HB1.out.size))).mono ?_
    rintro e w6 ⟨rfl, hb6⟩
    have HF : Hid (Below w.heap.size w w6) := Lib.hid (HB1.out.trans ((HB5.out.trans (hb6.out.mono HB5.out.size)).mono HB1.out.size))
    clear hb6
    go_wp2
    go_ret
    exact ⟨rfl, HF.out⟩
  · have hn' : (500 : Int) < (n : Int) := by omega
    clear hn
    go_enter Try.func3, Try.ntmps3
    go_upto_region 1 with fail
    change Code.wp _ _ _ _ ((w.alloc (.cells #[.int .i64 h0, .int .i64 h1, .int .i64 h2, .int .i64 h3, .int .i64 h4] 23)).alloc (.cells #[.int .i64 e0, .int .i64 e1, .int .i64 e2, .int .i64 e3, .bool z] 25))
    rw [HW.out.1]
    try rw [HW.out.2]
    go_wp2_with fail
    refine (HLI.out w1).mono ?_
    rintro e w2 ⟨rfl, hb2⟩
    have HB2 : Hid (Below w1.heap.size w1 w2) := hb2
    clear hb2
    go_wp2_with fail
    refine (HLI.out w2).mono ?_
    rintro e w3 ⟨rfl, hb3⟩
    have HF : Hid (Below w.heap.size w w3) := Lib.hid (HB1.out.trans ((HB2.out.trans (hb3.out.mono HB2.out.size)).mono HB1.out.size))
    clear hb3
    go_wp2
    go_ret
    exact ⟨rfl, HF.out⟩

end Go.Proofs.Ytkfnjekeegebaaa
