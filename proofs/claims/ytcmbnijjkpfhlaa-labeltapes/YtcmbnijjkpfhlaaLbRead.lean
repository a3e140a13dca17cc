/- The label of a block: Read's contract, over any world. -/
import Derived.Test.YtcmbnijjkpfhlaaLbParse
namespace Go.Proofs.Ytcmbnijjkpfhlaa
open Go.RowKit
set_option linter.unusedSimpArgs false

theorem lbV_zero : lbV lab0 = .agg #[.string ⟨#[]⟩, .int .i64 0, .int .i64 0] := by simp only [lbV, lab0, strB_none]

set_option maxHeartbeats 2000000 in
set_option maxRecDepth 100000 in
theorem read_any (a : Option Addr) (n c : Nat) (l : List Nat) (w : World) (h : Rd w a n l) (hn : n ≤ 1000000) (hc : n ≤ c) :
    Calls Try.prog 14 #[.slice a n c] w fun e w' => e = .returned (.tuple #[lbV (rdLab l).1, .int .i64 ((rdLab l).2 : Int)]) ∧ Below w.heap.size w w' := by
  obtain ⟨p, hp⟩ : ∃ p, p = w.heap.size := ⟨_, rfl⟩
  obtain ⟨w1, hw1⟩ : ∃ w1, w1 = w.alloc (.cells #[.string ⟨#[]⟩, .int .i64 0, .int .i64 0] 23) := ⟨_, rfl⟩
  have HW : Hid (w.alloc (.cells #[.string ⟨#[]⟩, .int .i64 0, .int .i64 0] 23) = w1 ∧ w.heap.size = p) := Lib.hid ⟨hw1.symm, hp.symm⟩
  have hb1 : Below p w w1 := by rw [hw1, hp]; exact Below.alloc0 _ _
  have hp1 : w1.heap[p]? = some (.cells #[.string ⟨#[]⟩, .int .i64 0, .int .i64 0] 23 (0, 0)) := by rw [hw1, hp]; exact heap_alloc_new w _
  have HOP := Lib.hid (chkOpen_any a n c l w1 (h.later (by rw [← hp]; exact hb1)) hn hc)
  have HLN : Hid (l.length = n) := Lib.hid h.1
  have HQ0 : Hid (rdLab l = if Sealed l then (if (labOf (l.take (l.length - 4))).2 then ((labOf (l.take (l.length - 4))).1, 0) else (lab0, 3)) else (lab0, 4)) := Lib.hid rfl
  obtain ⟨Y, hY⟩ : ∃ Y, Y = rdLab l := ⟨_, rfl⟩
  rw [← hY] at HQ0 ⊢
  have HB1 := Lib.hid hb1
  have HP1 := Lib.hid hp1
  rw [← hp]
  clear hp hw1 hb1 hp1 hY h hc
  go_enter Try.func14, Try.ntmps14
  go_upto_region 1 with fail
  change Code.wp _ _ _ _ (w.alloc (.cells #[.string ⟨#[]⟩, .int .i64 0, .int .i64 0] 23))
  rw [HW.out.1, HW.out.2]
  go_wp2_with fail
  refine HOP.out.mono ?_
  rintro e w3 ⟨hb3, hor⟩
  have hp3 := (hb3.block p (lt_of_block HP1.out)).trans HP1.out
  have hbz : Below p w w3 := HB1.out.trans (hb3.mono (Nat.le_of_lt (lt_of_block HP1.out)))
  have HB3 := Lib.hid hbz
  have HP3 := Lib.hid hp3
  clear hb3 hp3 hbz
  rcases hor with ⟨hns, rfl⟩ | ⟨hsd, v, rfl, hov⟩
  · have hY4 : Y = (lab0, 4) := by rw [HQ0.out, if_neg hns]
    subst hY4
    clear hns
    have hpz := HP3.out
    obtain ⟨z0, z1, z2⟩ := lab_cells hpz
    obtain ⟨y0, y1, y2⟩ := lab_frozen hpz
    have hput := lab_put (v0 := .string ⟨#[]⟩) (v1 := .int .i64 0) (v2 := .int .i64 0) hpz
    rw [put_self hpz] at hput
    have HPUT := Lib.hid hput
    clear hput hpz
    go_wp2_with fail
    rw [HPUT.out]
    refine bodyPost_ret (v := .tuple #[.agg #[.string ⟨#[]⟩, .int .i64 0, .int .i64 0], .int .i64 4]) (by simp [results, Try.results14, go_sem, z0, z1, z2]; try rfl) rfl ?_
    exact ⟨by rw [lbV_zero], HB3.out⟩
  · obtain ⟨aV, cV, rfl, hrV, hcV, hlV⟩ := hov.lies
    have hY3 : Y = if (labOf (l.take (l.length - 4))).2 then ((labOf (l.take (l.length - 4))).1, 0) else (lab0, 3) := by rw [HQ0.out, if_pos hsd]
    obtain ⟨P, hP⟩ : ∃ P, P = l.take (n - 4) := ⟨_, rfl⟩
    rw [HLN.out, ← hP] at hY3
    rw [← hP] at hrV hcV ⊢
    have hPl : P.length ≤ 1000000 := by rw [hP]; simp; omega
    have hpa := parse_any aV P.length cV P w3 hrV hPl hcV
    obtain ⟨⟨x, B⟩, hx⟩ : ∃ y, y = labOf P := ⟨_, rfl⟩
    rw [← hx] at hpa hY3
    simp only at hpa hY3
    obtain ⟨pl, g, m⟩ := x
    simp only [lbV] at hpa
    obtain ⟨s, hs⟩ : ∃ s, s = strB pl := ⟨_, rfl⟩
    rw [← hs] at hpa
    have HS := Lib.hid hs
    have HPA := Lib.hid hpa
    have HY3 := Lib.hid hY3
    clear hov hrV hcV hlV hY3 hP hPl hpa hx hsd hs
    go_wp2_with fail
    refine HPA.out.mono ?_
    rintro e w4 ⟨rfl, hb4⟩
    obtain ⟨w5, hw5⟩ : ∃ w5, w5 = w4.alloc (.cells #[.string s, .int .i64 g, .int .i64 m] 23) := ⟨_, rfl⟩
    obtain ⟨q, hq⟩ : ∃ q, q = w4.heap.size := ⟨_, rfl⟩
    have HW5 : Hid (w4.alloc (.cells #[.string s, .int .i64 g, .int .i64 m] 23) = w5 ∧ w4.heap.size = q) := Lib.hid ⟨hw5.symm, hq.symm⟩
    have hb5 : Below w4.heap.size w4 w5 := by rw [hw5]; exact Below.alloc0 _ _
    have hb35 : Below w3.heap.size w3 w5 := hb4.trans (hb5.mono hb4.size)
    have HB5 : Hid (Below p w w5) := Lib.hid (HB3.out.trans (hb35.mono (Nat.le_of_lt (lt_of_block HP3.out))))
    have HQ5 : Hid (w5.heap[q]? = some (.cells #[.string s, .int .i64 g, .int .i64 m] 23 (0, 0))) := Lib.hid (by rw [hw5, hq]; exact heap_alloc_new w4 _)
    have HP5 : Hid (w5.heap[p]? = some (.cells #[.string ⟨#[]⟩, .int .i64 0, .int .i64 0] 23 (0, 0))) := Lib.hid ((hb35.block p (lt_of_block HP3.out)).trans HP3.out)
    clear hw5 hq hb5 hb35 hb4
    cases B with
    | false =>
      have hYz : Y = (lab0, 3) := by have := HY3.out; simpa using this
      subst hYz
      go_upto_region 5 with fail
      change Code.wp _ _ _ _ (w4.alloc (.cells #[.string s, .int .i64 g, .int .i64 m] 23))
      rw [HW5.out.1]
      try rw [HW5.out.2]
      have hpz := HP5.out
      obtain ⟨z0, z1, z2⟩ := lab_cells hpz
      obtain ⟨y0, y1, y2⟩ := lab_frozen hpz
      have hput := lab_put (v0 := .string ⟨#[]⟩) (v1 := .int .i64 0) (v2 := .int .i64 0) hpz
      rw [put_self hpz] at hput
      have HPUT := Lib.hid hput
      clear hput hpz
      go_wp2_with fail
      rw [HPUT.out]
      refine bodyPost_ret (v := .tuple #[.agg #[.string ⟨#[]⟩, .int .i64 0, .int .i64 0], .int .i64 3]) (by simp [results, Try.results14, go_sem, z0, z1, z2]; try rfl) rfl ?_
      exact ⟨by rw [lbV_zero], HB5.out⟩
    | true =>
      have hYz : Y = (⟨pl, g, m⟩, 0) := by have := HY3.out; simpa using this
      subst hYz
      go_upto_region 5 with fail
      change Code.wp _ _ _ _ (w4.alloc (.cells #[.string s, .int .i64 g, .int .i64 m] 23))
      rw [HW5.out.1]
      try rw [HW5.out.2]
      obtain ⟨e0, e1, e2⟩ := lab_cells HQ5.out
      obtain ⟨z0, z1, z2⟩ := lab_cells HP5.out
      obtain ⟨y0, y1, y2⟩ := lab_frozen HP5.out
      have hput := lab_put (v0 := .string s) (v1 := .int .i64 g) (v2 := .int .i64 m) HP5.out
      have HPUT := Lib.hid hput
      clear hput
      go_wp2_with fail
      rw [HPUT.out]
      clear z0 z1 z2 y0 y1 y2 e0 e1 e2
      have hp9 := put_same (o := .cells #[.string s, .int .i64 g, .int .i64 m] 23) HP5.out
      have hbl9 : Below p w5 (put w5 p (.cells #[.string s, .int .i64 g, .int .i64 m] 23)) := put_below _ (Nat.le_refl _)
      generalize put w5 p (.cells #[.string s, .int .i64 g, .int .i64 m] 23) = w9 at hp9 hbl9 ⊢
      have HF9 : Hid (Below p w w9) := Lib.hid (HB5.out.trans hbl9)
      clear hbl9
      obtain ⟨d0, d1, d2⟩ := lab_cells hp9
      refine bodyPost_ret (v := .tuple #[.agg #[.string s, .int .i64 g, .int .i64 m], .int .i64 0]) (by simp [results, Try.results14, go_sem, d0, d1, d2]; try rfl) rfl ?_
      exact ⟨by simp only [lbV, ← HS.out], HF9.out⟩

end Go.Proofs.Ytcmbnijjkpfhlaa
