/- May a block be, by the document: RightBlock's contract, over any world. -/
import Derived.Test.YtkfnjekeegebaaaSgMem
import Derived.Test.YtkfnjekeegebaaaSgEq
import Derived.Deep.DeepCutAuto
import Derived.Deep.CutBlock
namespace Go.Proofs.Ytkfnjekeegebaaa
open Go.RowKit
set_option linter.unusedSimpArgs false

theorem strB_empty (t : List Nat) : (strB t).toList.isEmpty = decide (t = []) := by
  have h2 : (strB t).size = t.length := strB_size t
  rw [ByteArray.toList_eq]
  have h3 : (strB t).data.toList.length = (strB t).size := Array.length_toList
  rw [h2] at h3
  generalize (strB t).data.toList = m at h3
  cases m with
  | nil =>
    have : t = [] := List.eq_nil_of_length_eq_zero (by simpa using h3.symm)
    simp [this]
  | cons a r =>
    have : t ≠ [] := by intro h; rw [h] at h3; simp at h3
    simp [this]

/-- The document's block, in memory. -/
def blkObj (k : Nat) (x : N5) (s : ByteArray) : Obj := .cells #[.int .u8 (k : Int), .int .i64 x.n0, .int .i64 x.n1, .int .i64 x.n2, .int .i64 x.n3, .int .i64 x.n4, .string s] 40 (0, 0)

theorem blk_num {w : World} {q k : Nat} {x : N5} {s : ByteArray} (h : w.heap[q]? = some (blkObj k x s)) {j : Nat} (hj : j < 5) : w.cell? ⟨q, 1 + j, none⟩ = some (.int .i64 (x.list.getD j 0)) := by
  rcases (by omega : j = 0 ∨ j = 1 ∨ j = 2 ∨ j = 3 ∨ j = 4) with rfl | rfl | rfl | rfl | rfl <;> simp [World.cell?, h, blkObj, N5.list]

set_option maxHeartbeats 1000000 in
set_option maxRecDepth 100000 in
theorem rightBlk_any (k : Nat) (x : N5) (t : List Nat) (w : World) (hk : k < 256) (hl : t.length ≤ 1000000) :
    Calls Try.prog 16 #[blV k x (strB t)] w fun e w' => e = .returned (.bool (docOk k x t)) ∧ Below w.heap.size w w' := by
  have HDO : Hid (docOk k x t = (x.ok && (if k = 72 ∨ k = 84 then decide (t = []) else if k = 68 then (decide (x = N5.zero) && (decide (1 ≤ t.length) && decide (t.length ≤ 160))) else false))) := Lib.hid rfl
  obtain ⟨O, hO⟩ : ∃ O, O = docOk k x t := ⟨_, rfl⟩
  rw [← hO] at HDO ⊢
  obtain ⟨q, hq⟩ : ∃ q, q = w.heap.size := ⟨_, rfl⟩
  obtain ⟨w1, hw1⟩ : ∃ w1, w1 = w.alloc (blkObj k x (strB t)) := ⟨_, rfl⟩
  have HQ : Hid (w1.heap[q]? = some (blkObj k x (strB t))) := Lib.hid (by rw [hw1, hq]; exact heap_alloc_new w _)
  have HB : Hid (Below w.heap.size w w1) := Lib.hid (by rw [hw1]; exact Below.alloc0 _ _)
  simp only [blkObj] at hw1
  have HW : Hid (w.alloc (.cells #[.int .u8 (k : Int), .int .i64 x.n0, .int .i64 x.n1, .int .i64 x.n2, .int .i64 x.n3, .int .i64 x.n4, .string (strB t)] 40) = w1 ∧ w.heap.size = q) := Lib.hid ⟨hw1.symm, hq.symm⟩
  have HLT : Hid (∀ j : Nat, j < 5 → x.list.take (j + 1) = x.list.take j ++ [x.list.getD j 0]) := Lib.hid fun j hj => list_at x hj
  have HOK := Lib.hid (ok_all x)
  have HLL : Hid (x.list.length = 5) := Lib.hid rfl
  have hss : (strB t).size = t.length := strB_size t
  simp only [blV]
  clear hO hw1 hq
  go_enter Try.func16, Try.ntmps16
  go_upto_region 1 with fail
  rw [HW.out.1, HW.out.2]
  go_wp2_with fail
  go_loopg [3] 5 (fun gk i wr => ∃ j : Nat, gk = 5 - j ∧ wr = w1 ∧ j ≤ 5 ∧ i = .int .i64 (j : Int) ∧ Hid ((x.list.take j).all numOk = true))
  case atStart => exact ⟨0, rfl, rfl, Nat.zero_le _, rfl, Lib.hid (by simp)⟩
  case round =>
    obtain ⟨j, hgk, rfl, hj, rfl, HI⟩ := hrel
    have HGK := Lib.hid hgk
    clear hgk
    by_cases hlt : j < 5
    · have hlt' : (j : Int) < 5 := by omega
      have hcell := blk_num HQ.out hlt
      have hls := HLT.out j hlt
      obtain ⟨m, hm⟩ : ∃ m, m = x.list.getD j 0 := ⟨_, rfl⟩
      rw [← hm] at hcell hls
      have hnum : numOk m = false → O = false := by
        intro h
        have hx : x.ok = false := by
          rw [← HOK.out, List.all_eq_false]
          refine ⟨m, ?_, by simp [h]⟩
          rw [hm]
          have : j < x.list.length := by rw [HLL.out]; exact hlt
          simp [List.getD, this]
        rw [HDO.out, hx]
        rfl
      have HLS := Lib.hid hls
      clear hls hm
      by_cases m1 : m < 0
      · have hX := hnum (by simp [numOk]; omega)
        subst hX
        clear hnum
        go_wp2
        go_ret
        exact ⟨rfl, HB.out⟩
      by_cases m2 : 1073741824 < m
      · have hX := hnum (by simp [numOk]; omega)
        subst hX
        clear hnum
        go_wp2
        go_ret
        exact ⟨rfl, HB.out⟩
      clear hnum
      have HN : Hid ((x.list.take (j + 1)).all numOk = true) := by
        refine Lib.hid ?_
        rw [HLS.out, List.all_append, HI.out]
        simp [numOk]
        omega
      go_wp2
      go_roundg (5 - (j + 1))
      case measure => have := HGK.out; omega
      case rel => exact ⟨j + 1, rfl, rfl, by omega, by go_num, HN⟩
    · obtain rfl : j = 5 := by omega
      have hX : x.ok = true := by
        rw [← HOK.out]
        have := HI.out
        rw [List.take_of_length_le (by have := HLL.out; omega)] at this
        exact this
      obtain ⟨c0, c1, c2, c3, c4, c5, c6⟩ := seven_cells HQ.out
      have hdo := HDO.out
      rw [hX, Bool.true_and] at hdo
      have HDO2 := Lib.hid hdo
      clear hX hdo HDO
      obtain ⟨s, hs⟩ : ∃ s, s = strB t := ⟨_, rfl⟩
      rw [← hs] at c6 hss
      have HS := Lib.hid hs
      clear hs
      have hem : s.toList.isEmpty = decide (t = []) := by rw [HS.out]; exact strB_empty t
      obtain ⟨Z0, hZ0⟩ : ∃ Z, Z = decide (t = []) := ⟨_, rfl⟩
      rw [← hZ0] at hem HDO2
      clear hZ0
      by_cases h72 : k = 72
      · subst h72
        have c0' : wr.cell? ⟨q, 0, none⟩ = some (.int .u8 72) := c0
        have hd : O = Z0 := by rw [HDO2.out]; simp
        subst hd
        clear c0
        go_wp2
        go_ret
        exact ⟨rfl, HB.out⟩
      by_cases h84 : k = 84
      · subst h84
        have c0' : wr.cell? ⟨q, 0, none⟩ = some (.int .u8 84) := c0
        have hd : O = Z0 := by rw [HDO2.out]; simp
        subst hd
        clear c0
        go_wp2
        go_ret
        exact ⟨rfl, HB.out⟩
      by_cases h68 : k = 68
      · subst h68
        have c0' : wr.cell? ⟨q, 0, none⟩ = some (.int .u8 68) := c0
        have hd : O = (decide (x = N5.zero) && (decide (1 ≤ t.length) && decide (t.length ≤ 160))) := by rw [HDO2.out]; simp
        have heq : ∀ w, (Op.equalIn 10000 38 (.agg #[.int .i64 x.n0, .int .i64 x.n1, .int .i64 x.n2, .int .i64 x.n3, .int .i64 x.n4]) (.agg #[.int .i64 0, .int .i64 0, .int .i64 0, .int .i64 0, .int .i64 0])).run Try.prog w = .ok (decide (x = N5.zero)) w := fun w => by
          have h := eq_arr 9998 x.n0 x.n1 x.n2 x.n3 x.n4 0 0 0 0 0 w
          have e : decide (x.n0 = 0 ∧ x.n1 = 0 ∧ x.n2 = 0 ∧ x.n3 = 0 ∧ x.n4 = 0) = decide (x = N5.zero) := by
            obtain ⟨n0, n1, n2, n3, n4⟩ := x
            simp [N5.zero]
          rw [e] at h
          exact h
        obtain ⟨Z, hZ⟩ : ∃ Z, Z = decide (x = N5.zero) := ⟨_, rfl⟩
        rw [← hZ] at heq hd
        have HD := Lib.hid hd
        clear c0 hem hZ hd
        cases Z with
        | false =>
          have hO : O = false := by rw [HD.out]; rfl
          subst hO
          go_wp2
          go_ret
          exact ⟨rfl, HB.out⟩
        | true =>
          by_cases k1 : 1 ≤ t.length
          · have k1' : 1 ≤ (s.size : Int) := by omega
            by_cases k2 : t.length ≤ 160
            · have k2' : (s.size : Int) ≤ 160 := by omega
              have hO : O = true := by rw [HD.out]; simp [k1, k2]
              subst hO
              go_wp2
              go_ret
              exact ⟨ret_bool (by first | exact decide_eq_true (by omega) | exact decide_eq_false (by omega)), HB.out⟩
            · have k2' : ¬ (s.size : Int) ≤ 160 := by omega
              have hO : O = false := by rw [HD.out]; simp [k1, k2]
              subst hO
              go_wp2
              go_ret
              exact ⟨ret_bool (by first | exact decide_eq_true (by omega) | exact decide_eq_false (by omega)), HB.out⟩
          · have k1' : ¬ 1 ≤ (s.size : Int) := by omega
            have hO : O = false := by rw [HD.out]; simp [k1]
            subst hO
            go_wp2
            go_ret
            exact ⟨rfl, HB.out⟩
      · have k1 : ((k : Int) == 72) = false := by simp; omega
        have k2 : ((k : Int) == 84) = false := by simp; omega
        have k3 : ((k : Int) == 68) = false := by simp; omega
        have hd : O = false := by rw [HDO2.out]; simp [h72, h84, h68]
        subst hd
        clear hem h72 h84 h68
        go_wp2
        go_ret
        exact ⟨rfl, HB.out⟩

end Go.Proofs.Ytkfnjekeegebaaa
