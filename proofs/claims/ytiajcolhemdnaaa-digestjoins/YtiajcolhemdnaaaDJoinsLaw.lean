/- DigestJoins returns true, whatever the two digests. -/
import Derived.Test.YtiajcolhemdnaaaDJoinsBig
namespace Go.Proofs.Ytiajcolhemdnaaa
open Go.RowKit

theorem dJoin_two (la sa lb sb : Nat) : dJoin [(la, sa), (lb, sb)] = (la + lb, (sa * dPow lb % 2305843009213693951 + sb % 2305843009213693951) % 2305843009213693951) := by
  have h0 : dPow la < 2305843009213693951 := dPow_lt la
  simp only [dJoin, List.foldl_cons, List.foldl_nil, Nat.zero_mul, Nat.zero_add, Prod.mk.injEq, true_and]
  rw [Nat.add_mod, Nat.mul_mod, Nat.mod_mod, ← Nat.mul_mod]

theorem rdD_two {w : World} {g a b c d : Nat} (h : w.heap[g]? = some (.cells #[.int .u64 (a : Int), .int .u64 (b : Int), .int .u64 (c : Int), .int .u64 (d : Int)] 28)) : RdD w (some ⟨g, 0, none⟩) 2 [(a, b), (c, d)] := by
  refine ⟨rfl, fun _ => ⟨g, 0, rfl, fun j hj => ?_⟩⟩
  have : j = 0 ∨ j = 1 := by omega
  rcases this with rfl | rfl
  · constructor <;> (rw [World.cell?]; simp [h])
  · constructor <;> (rw [World.cell?]; simp [h])

set_option maxHeartbeats 2000000 in
set_option maxRecDepth 100000 in
theorem joins_walk (la sa lb sb : Nat) (w : World) (h1 : sa < 4611686018427387904) (h2 : sb < 4611686018427387904) (h3 : la < 4611686018427387904) (h4 : lb < 4611686018427387904) :
    Calls Try.prog 4 #[.agg #[.int .u64 (la : Int), .int .u64 (sa : Int)], .agg #[.int .u64 (lb : Int), .int .u64 (sb : Int)]] w fun e w' => e = .returned (.bool true) ∧ Below w.heap.size w w' := by
  have e1 : decide ((4611686018427387904 : Int) ≤ (sa : Int)) = false := by simp; omega
  have e2 : decide ((4611686018427387904 : Int) ≤ (sb : Int)) = false := by simp; omega
  have e3 : decide ((4611686018427387904 : Int) ≤ (la : Int)) = false := by simp; omega
  have e4 : decide ((4611686018427387904 : Int) ≤ (lb : Int)) = false := by simp; omega
  have HPW : Hid (∀ W, Calls Try.prog 11 #[.int .u64 (lb : Int)] W fun e w' => e = .returned (.int .u64 ((dPow lb : Nat) : Int)) ∧ w' = W) := Lib.hid (refPower_any lb (by omega))
  have HTM : Hid (∀ W, Calls Try.prog 10 #[.int .u64 (sa : Int), .int .u64 ((dPow lb : Nat) : Int)] W fun e w' => e = .returned (.int .u64 ((sa * dPow lb % 2305843009213693951 : Nat) : Int)) ∧ w' = W) := Lib.hid fun W => refTimes_any sa (dPow lb) W (by have := dPow_lt lb; omega)
  have hw1 : IntKind.u64.wrap ((la : Int) + (lb : Int)) = ((la + lb : Nat) : Int) := by rw [IntKind.wrap_u64]; omega
  have hj := dJoin_two la sa lb sb
  have hml : sa * dPow lb % 2305843009213693951 < 2305843009213693951 := Nat.mod_lt _ (by omega)
  obtain ⟨q, hq⟩ : ∃ q, q = dPow lb := ⟨_, rfl⟩
  rw [← hq] at HPW HTM hj hml
  obtain ⟨m, hm⟩ : ∃ m, m = sa * q % 2305843009213693951 := ⟨_, rfl⟩
  rw [← hm] at HTM hj hml
  have hwt : (sb : Int).tmod 2305843009213693951 = ((sb % 2305843009213693951 : Nat) : Int) := by rw [Int.tmod_eq_emod_of_nonneg (by omega)]; omega
  have hw2 : IntKind.u64.wrap ((m : Int) + ((sb % 2305843009213693951 : Nat) : Int)) = ((m + sb % 2305843009213693951 : Nat) : Int) := by rw [IntKind.wrap_u64]; omega
  have hw3 : ((m + sb % 2305843009213693951 : Nat) : Int).tmod 2305843009213693951 = (((m + sb % 2305843009213693951) % 2305843009213693951 : Nat) : Int) := by rw [Int.tmod_eq_emod_of_nonneg (by omega)]; omega
  obtain ⟨r, hr⟩ : ∃ r, r = (m + sb % 2305843009213693951) % 2305843009213693951 := ⟨_, rfl⟩
  rw [← hr] at hw3 hj
  obtain ⟨x, hx⟩ : ∃ x, x = m + sb % 2305843009213693951 := ⟨_, rfl⟩
  rw [← hx] at hw2 hw3
  obtain ⟨y, hy⟩ : ∃ y, y = sb % 2305843009213693951 := ⟨_, rfl⟩
  rw [← hy] at hw2 hwt
  obtain ⟨n, hn⟩ : ∃ n, n = la + lb := ⟨_, rfl⟩
  rw [← hn] at hw1 hj
  have HJ := Lib.hid hj
  have HH := Lib.hid (And.intro h1 (And.intro h2 (And.intro h3 (And.intro h4 hn))))
  clear hq hm hr hx hy hn hj hml h1 h2 h3 h4
  go_enter Try.func4, Try.ntmps4
  go_wp2_with fail
  refine (lives_any _).mono ?_
  rintro e w1 ⟨rfl, hb1⟩
  obtain ⟨HB1, c1, c2, c3, c4⟩ := boxed hb1
  clear hb1
  go_wp2_with fail
  clear e1 e2 e3 e4
  go_cut [5] (fun s wx => ∃ g : Nat, s = .pointer (some ⟨g, 0, none⟩) ∧ Box wx g n r ∧ Below w1.heap.size w1 wx)
  case first =>
    have hz0 : w.heap.size < w1.heap.size := World.block_lt_of_cell? w1 _ c1
    have hz1 : w.heap.size + 1 < w1.heap.size := World.block_lt_of_cell? w1 _ c3
    go_region_held3 (fun W => W.cell? ⟨w.heap.size, 0, none⟩ = some (.int .u64 (la : Int)) ∧ W.cell? ⟨w.heap.size, 1, none⟩ = some (.int .u64 (sa : Int)) ∧ W.cell? ⟨w.heap.size + 1, 0, none⟩ = some (.int .u64 (lb : Int)) ∧ W.cell? ⟨w.heap.size + 1, 1, none⟩ = some (.int .u64 (sb : Int))) (go_keep)
      (first
        | (go_at_call 11; refine (HPW.out _).mono ?_; rintro e w' ⟨rfl, rfl⟩)
        | (go_at_call 10; refine (HTM.out _).mono ?_; rintro e w' ⟨rfl, rfl⟩))
    all_goals (go_wp2_with fail; go_meet; exact ⟨w1.heap.size, rfl, ⟨by simp [go_sem], by simp [go_sem]⟩, (Below.alloc0 _ _).drew⟩)
  case rest =>
    obtain ⟨g, rfl, hbox, hb2⟩ := hcut
    have HA : Hid (Box wc w.heap.size la sa) := Lib.hid ((show Box w1 w.heap.size la sa from ⟨c1, c2⟩).below hb2)
    have HBX : Hid (Box wc (w.heap.size + 1) lb sb) := Lib.hid ((show Box w1 (w.heap.size + 1) lb sb from ⟨c3, c4⟩).below hb2)
    have HW : Hid (Box wc g n r) := Lib.hid hbox
    have HB2 : Hid (Below w.heap.size w wc) := Lib.hid (HB1.out.trans (hb2.mono HB1.out.size))
    clear hbox hb2 c1 c2 c3 c4 hw1 hw2 hw3 hwt HPW HTM HB1
    obtain ⟨c1, c2⟩ := HA.out
    obtain ⟨c3, c4⟩ := HBX.out
    go_wp2_with fail
    have hjn := join_any (some ⟨wc.heap.size, 0, none⟩) 2 2 [(la, sa), (lb, sb)] (wc.alloc (.cells #[.int .u64 (la : Int), .int .u64 (sa : Int), .int .u64 (lb : Int), .int .u64 (sb : Int)] 28)) (rdD_two (heap_alloc_new _ _)) (by omega) (by rw [HJ.out]; have := HH.out; simp only; omega) (by have := HH.out; simp; omega)
    rw [HJ.out] at hjn
    refine hjn.mono ?_
    rintro e w3 ⟨rfl, hb3⟩
    have hb3' : Below wc.heap.size wc w3 := (Below.alloc0 wc _).trans (hb3.mono (by simp))
    have HA3 := Lib.hid (HA.out.below hb3')
    have HBX3 := Lib.hid (HBX.out.below hb3')
    have HW3 := Lib.hid (HW.out.below hb3')
    have HB3 : Hid (Below w.heap.size w w3) := Lib.hid (HB2.out.trans (hb3'.mono HB2.out.size))
    clear hjn hb3 hb3' c1 c2 c3 c4 HA HBX HW HB2
    go_upto_region 5 with fail
    obtain ⟨w4, h4⟩ : ∃ w4, w4 = w3.alloc (.cells #[.int .u64 (n : Int), .int .u64 (r : Int)] 28) := ⟨_, rfl⟩
    rw [← h4]
    have hb4 : Below w3.heap.size w3 w4 := by rw [h4]; exact Below.alloc0 _ _
    obtain ⟨g2, hg2⟩ : ∃ g2, g2 = w3.heap.size := ⟨_, rfl⟩
    have HG4 : Hid (Box w4 g2 n r) := by rw [h4, hg2]; exact Lib.hid (Box.new _ _ _)
    have HA4 := Lib.hid (HA3.out.below hb4)
    have HBX4 := Lib.hid (HBX3.out.below hb4)
    have HW4 := Lib.hid (HW3.out.below hb4)
    have HB4 : Hid (Below w.heap.size w w4) := Lib.hid (HB3.out.trans (hb4.mono HB3.out.size))
    rw [← hg2]
    clear h4 hb4 hg2 HA3 HBX3 HW3 HB3
    obtain ⟨d1, d2⟩ := HG4.out
    obtain ⟨d3, d4⟩ := HW4.out
    obtain ⟨c1, c2⟩ := HA4.out
    obtain ⟨c3, c4⟩ := HBX4.out
    go_upto_region 7 with fail
    clear d1 d2 d3 d4 HG4 HW4 HJ
    rcases (show la < lb ∨ (¬ la < lb ∧ 2305843009213693951 ≤ sa) ∨ (¬ la < lb ∧ ¬ 2305843009213693951 ≤ sa ∧ 2305843009213693951 ≤ sb) ∨ (lb ≤ la ∧ sa < 2305843009213693951 ∧ sb < 2305843009213693951) by omega) with k1 | ⟨k1, k2⟩ | ⟨k1, k2, k3⟩ | ⟨k1, k2, k3⟩
    · -- the head is longer
      have hd : decide (la < lb) = true := by simp; omega
      have HC := Lib.hid (cut_no1 la sa lb sb w4 k1)
      clear k1
      go_wp2_with fail
      refine (HC.out).mono ?_
      rintro e w5 ⟨rfl, hb5⟩
      have HA5 := Lib.hid (HA4.out.below hb5)
      have HBX5 := Lib.hid (HBX4.out.below hb5)
      have HB5 : Hid (Below w.heap.size w w5) := Lib.hid (HB4.out.trans (hb5.mono HB4.out.size))
      clear hb5 c1 c2 c3 c4
      go_upto_region 8 with fail
      obtain ⟨w6, h6⟩ : ∃ w6, w6 = w5.alloc (.cells #[.int .u64 0, .int .u64 0] 28) := ⟨_, rfl⟩
      rw [← h6]
      have hb6 : Below w5.heap.size w5 w6 := by rw [h6]; exact Below.alloc0 _ _
      obtain ⟨g3, hg3⟩ : ∃ g3, g3 = w5.heap.size := ⟨_, rfl⟩
      have HG6 : Hid (Box w6 g3 0 0) := by rw [h6, hg3]; exact Lib.hid (Box.new _ _ _)
      have HA6 := Lib.hid (HA5.out.below hb6)
      have HBX6 := Lib.hid (HBX5.out.below hb6)
      have HB6 : Hid (Below w.heap.size w w6) := Lib.hid (HB5.out.trans (hb6.mono HB5.out.size))
      rw [← hg3]
      clear h6 hb6 hg3 HA5 HBX5 HB5
      obtain ⟨d1, d2⟩ := HG6.out
      obtain ⟨c1, c2⟩ := HA6.out
      obtain ⟨c3, c4⟩ := HBX6.out
      go_wp2
      go_ret
      exact ⟨rfl, HB6.out⟩
    · -- all is no sum
      have hd : decide (la < lb) = false := by simp; omega
      have hd2 : decide ((2305843009213693951 : Int) ≤ (sa : Int)) = true := by simp; omega
      have HC := Lib.hid (cut_no2 la sa lb sb w4 k1 k2)
      clear k1 k2
      go_wp2_with fail
      refine (HC.out).mono ?_
      rintro e w5 ⟨rfl, hb5⟩
      have HA5 := Lib.hid (HA4.out.below hb5)
      have HBX5 := Lib.hid (HBX4.out.below hb5)
      have HB5 : Hid (Below w.heap.size w w5) := Lib.hid (HB4.out.trans (hb5.mono HB4.out.size))
      clear hb5 c1 c2 c3 c4
      go_upto_region 8 with fail
      obtain ⟨w6, h6⟩ : ∃ w6, w6 = w5.alloc (.cells #[.int .u64 0, .int .u64 0] 28) := ⟨_, rfl⟩
      rw [← h6]
      have hb6 : Below w5.heap.size w5 w6 := by rw [h6]; exact Below.alloc0 _ _
      obtain ⟨g3, hg3⟩ : ∃ g3, g3 = w5.heap.size := ⟨_, rfl⟩
      have HG6 : Hid (Box w6 g3 0 0) := by rw [h6, hg3]; exact Lib.hid (Box.new _ _ _)
      have HA6 := Lib.hid (HA5.out.below hb6)
      have HBX6 := Lib.hid (HBX5.out.below hb6)
      have HB6 : Hid (Below w.heap.size w w6) := Lib.hid (HB5.out.trans (hb6.mono HB5.out.size))
      rw [← hg3]
      clear h6 hb6 hg3 HA5 HBX5 HB5
      obtain ⟨d1, d2⟩ := HG6.out
      obtain ⟨c1, c2⟩ := HA6.out
      obtain ⟨c3, c4⟩ := HBX6.out
      go_wp2
      go_ret
      exact ⟨rfl, HB6.out⟩
    · -- the head is no sum
      have hd : decide (la < lb) = false := by simp; omega
      have hd2 : decide ((2305843009213693951 : Int) ≤ (sa : Int)) = false := by simp; omega
      have hd3 : decide ((2305843009213693951 : Int) ≤ (sb : Int)) = true := by simp; omega
      have HC := Lib.hid (cut_no3 la sa lb sb w4 k1 k2 k3)
      clear k1 k2 k3
      go_wp2_with fail
      refine (HC.out).mono ?_
      rintro e w5 ⟨rfl, hb5⟩
      have HA5 := Lib.hid (HA4.out.below hb5)
      have HBX5 := Lib.hid (HBX4.out.below hb5)
      have HB5 : Hid (Below w.heap.size w w5) := Lib.hid (HB4.out.trans (hb5.mono HB4.out.size))
      clear hb5 c1 c2 c3 c4
      go_upto_region 8 with fail
      obtain ⟨w6, h6⟩ : ∃ w6, w6 = w5.alloc (.cells #[.int .u64 0, .int .u64 0] 28) := ⟨_, rfl⟩
      rw [← h6]
      have hb6 : Below w5.heap.size w5 w6 := by rw [h6]; exact Below.alloc0 _ _
      obtain ⟨g3, hg3⟩ : ∃ g3, g3 = w5.heap.size := ⟨_, rfl⟩
      have HG6 : Hid (Box w6 g3 0 0) := by rw [h6, hg3]; exact Lib.hid (Box.new _ _ _)
      have HA6 := Lib.hid (HA5.out.below hb6)
      have HBX6 := Lib.hid (HBX5.out.below hb6)
      have HB6 : Hid (Below w.heap.size w w6) := Lib.hid (HB5.out.trans (hb6.mono HB5.out.size))
      rw [← hg3]
      clear h6 hb6 hg3 HA5 HBX5 HB5
      obtain ⟨d1, d2⟩ := HG6.out
      obtain ⟨c1, c2⟩ := HA6.out
      obtain ⟨c3, c4⟩ := HBX6.out
      go_wp2
      go_ret
      exact ⟨rfl, HB6.out⟩
    · -- it is cut
      have hd : decide (la < lb) = false := by simp; omega
      have hd2 : decide ((2305843009213693951 : Int) ≤ (sa : Int)) = false := by simp; omega
      have hd3 : decide ((2305843009213693951 : Int) ≤ (sb : Int)) = false := by simp; omega
      have HC := Lib.hid (cut_yes la sa lb sb w4 k1 k2 k3 (by have := HH.out; omega))
      have hjj := dJoin_two lb sb (la - lb) ((sa + (2305843009213693951 - sb * dPow (la - lb) % 2305843009213693951)) % 2305843009213693951)
      have hts : (sa + (2305843009213693951 - sb * dPow (la - lb) % 2305843009213693951)) % 2305843009213693951 < 2305843009213693951 := Nat.mod_lt _ (by omega)
      rw [← Nat.add_mod, dJoined k2, show lb + (la - lb) = la by omega] at hjj
      obtain ⟨lt, hlt⟩ : ∃ lt, lt = la - lb := ⟨_, rfl⟩
      rw [← hlt] at HC hjj hts
      obtain ⟨st, hst⟩ : ∃ st, st = (sa + (2305843009213693951 - sb * dPow lt % 2305843009213693951)) % 2305843009213693951 := ⟨_, rfl⟩
      rw [← hst] at HC hjj hts
      have hd4 : decide ((st : Int) < 2305843009213693951) = true := by simp; omega
      have HJN : Hid (∀ W : World, Calls Try.prog 9 #[.slice (some ⟨W.heap.size, 0, none⟩) 2 2] (W.alloc (.cells #[.int .u64 (lb : Int), .int .u64 (sb : Int), .int .u64 (lt : Int), .int .u64 (st : Int)] 28)).drew fun e w' => e = .returned (.agg #[.int .u64 (la : Int), .int .u64 (sa : Int)]) ∧ Below W.heap.size W w') := by
        refine Lib.hid fun W => ?_
        have h1 : RdD (W.alloc (.cells #[.int .u64 (lb : Int), .int .u64 (sb : Int), .int .u64 (lt : Int), .int .u64 (st : Int)] 28)).drew (some ⟨W.heap.size, 0, none⟩) 2 [(lb, sb), (lt, st)] := rdD_two (heap_alloc_new _ _)
        have h2 := join_any (some ⟨W.heap.size, 0, none⟩) 2 2 _ _ h1 (by omega) (by rw [hjj]; have := HH.out; simp only; omega) (by have := HH.out; simp; omega)
        rw [hjj] at h2
        refine h2.mono ?_
        rintro e w' ⟨he, hb⟩
        exact ⟨he, (Below.alloc0 W _).drew.trans (hb.mono (by simp [World.drew]))⟩
      clear k1 k2 k3 hjj hts hlt hst HH
      go_wp2_with fail
      refine HC.out.mono ?_
      rintro e w5 ⟨rfl, hb5⟩
      have HA5 := Lib.hid (HA4.out.below hb5)
      have HBX5 := Lib.hid (HBX4.out.below hb5)
      have HB5 : Hid (Below w.heap.size w w5) := Lib.hid (HB4.out.trans (hb5.mono HB4.out.size))
      clear hb5 c1 c2 c3 c4 HC
      go_upto_region 8 with fail
      obtain ⟨w6, h6⟩ : ∃ w6, w6 = w5.alloc (.cells #[.int .u64 (lt : Int), .int .u64 (st : Int)] 28) := ⟨_, rfl⟩
      rw [← h6]
      have hb6 : Below w5.heap.size w5 w6 := by rw [h6]; exact Below.alloc0 _ _
      obtain ⟨g3, hg3⟩ : ∃ g3, g3 = w5.heap.size := ⟨_, rfl⟩
      have HG6 : Hid (Box w6 g3 lt st) := by rw [h6, hg3]; exact Lib.hid (Box.new _ _ _)
      have HA6 := Lib.hid (HA5.out.below hb6)
      have HBX6 := Lib.hid (HBX5.out.below hb6)
      have HB6 : Hid (Below w.heap.size w w6) := Lib.hid (HB5.out.trans (hb6.mono HB5.out.size))
      rw [← hg3]
      clear h6 hb6 hg3 HA5 HBX5 HB5
      obtain ⟨d1, d2⟩ := HG6.out
      obtain ⟨c1, c2⟩ := HA6.out
      obtain ⟨c3, c4⟩ := HBX6.out
      have z1 : w.heap.size < w6.heap.size := World.block_lt_of_cell? w6 _ c1
      have z2 : w.heap.size + 1 < w6.heap.size := World.block_lt_of_cell? w6 _ c3
      have z3 : g3 < w6.heap.size := World.block_lt_of_cell? w6 _ d1
      go_wp2_with fail
      go_region_held3 (fun W => W.cell? ⟨w.heap.size, 0, none⟩ = some (.int .u64 (la : Int)) ∧ W.cell? ⟨w.heap.size, 1, none⟩ = some (.int .u64 (sa : Int)) ∧ W.cell? ⟨w.heap.size + 1, 0, none⟩ = some (.int .u64 (lb : Int)) ∧ W.cell? ⟨w.heap.size + 1, 1, none⟩ = some (.int .u64 (sb : Int)) ∧ W.cell? ⟨g3, 0, none⟩ = some (.int .u64 (lt : Int)) ∧ W.cell? ⟨g3, 1, none⟩ = some (.int .u64 (st : Int)))
        (first
          | go_keep
          | exact ⟨(hb7.cell z1).trans c1, (hb7.cell z1).trans c2, (hb7.cell z2).trans c3, (hb7.cell z2).trans c4, (hb7.cell z3).trans d1, (hb7.cell z3).trans d2⟩)
        (first
          | (go_at_call 9; refine (HJN.out w6).mono ?_; rintro e w7 ⟨rfl, hb7⟩))
      all_goals (go_wp2; go_ret; exact ⟨rfl, HB6.out.trans (hb7.mono HB6.out.size)⟩)

/-- Whatever the two. -/
theorem digestJoins_walk (la sa lb sb : Nat) (w : World) :
    Calls Try.prog 4 #[.agg #[.int .u64 (la : Int), .int .u64 (sa : Int)], .agg #[.int .u64 (lb : Int), .int .u64 (sb : Int)]] w fun e w' => e = .returned (.bool true) ∧ Below w.heap.size w w' := by
  rcases Nat.lt_or_ge sa 4611686018427387904 with h1 | h1
  · rcases Nat.lt_or_ge sb 4611686018427387904 with h2 | h2
    · rcases Nat.lt_or_ge la 4611686018427387904 with h3 | h3
      · rcases Nat.lt_or_ge lb 4611686018427387904 with h4 | h4
        · exact joins_walk la sa lb sb w h1 h2 h3 h4
        · exact joins_big4 la sa lb sb w h1 h2 h3 h4
      · exact joins_big3 la sa lb sb w h1 h2 h3
    · exact joins_big2 la sa lb sb w h1 h2
  · exact joins_big1 la sa lb sb w h1
end Go.Proofs.Ytiajcolhemdnaaa
