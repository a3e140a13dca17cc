/- RootArgs, run: disks that are too small, power that is off, and no root. -/
import Derived.Test.YtpdpnlgiaehegaaRLives
namespace Go.Proofs.Ytpdpnlgiaehegaa
open Go.RowKit
set_option linter.unusedSimpArgs false

theorem rd_none (w : World) : Rd w none 0 [] := ⟨rfl, by simp, by omega⟩

set_option maxHeartbeats 400000 in
set_option maxRecDepth 100000 in
theorem rootArgs_walk (w : World) (nn : Int) : Calls Try.prog 5 #[.int .i64 nn] w fun e w' => e = .returned (.bool true) ∧ Below w.heap.size w w' := by
  obtain ⟨u, hu⟩ : ∃ u : Nat, IntKind.u64.wrap nn = (u : Int) := ⟨(IntKind.u64.wrap nn).toNat, by rw [IntKind.wrap_u64]; omega⟩
  obtain ⟨r, hr⟩ : ∃ r : Nat, r = u % 9 := ⟨_, rfl⟩
  have hr9 : r < 9 := by omega
  have htm : (u : Int).tmod 9 = (r : Int) := by rw [Int.tmod_eq_emod_of_nonneg (by omega)]; omega
  obtain ⟨k, hk⟩ : ∃ k : Nat, k = 1 + r := ⟨_, rfl⟩
  have hk1 : 1 + (r : Int) = (k : Int) := by omega
  have hk9 : 0 < k ∧ k ≤ 9 := by omega
  have HL := Lib.hid (lives_any w)
  clear hr hk
  go_enter Try.func5, Try.ntmps5
  go_wp2_with fail
  refine HL.out.mono ?_
  rintro e w1 ⟨rfl, hb1⟩
  have HB1 := Lib.hid hb1
  have HN := Lib.hid (new_at w1)
  clear hb1 HL
  go_wp2_with fail
  refine HN.out.mono ?_
  rintro e w2 ⟨gp, rfl, hgp, hp2, hb2⟩
  have HN2 := Lib.hid (dnew_at w2 k gp _ hp2 hk9.1 (by omega))
  have HB2 := Lib.hid (HB1.out.trans (hb2.mono HB1.out.size))
  have HGP := Lib.hid (Nat.le_trans HB1.out.size hgp)
  clear hp2 hb2 hgp HN
  go_wp2_with fail
  refine HN2.out.mono ?_
  rintro e w3 ⟨gd, gb, rfl, hgd, hgb, hd3, hb3⟩
  have HB3 := Lib.hid (HB2.out.trans (hb3.mono HB2.out.size))
  have HG := Lib.hid (And.intro HGP.out (And.intro (Nat.le_trans HB2.out.size hgb) (Nat.le_trans HB2.out.size hgd)))
  have HD3 := Lib.hid hd3
  clear hd3 hb3 hgd hgb HN2 HGP
  by_cases h4 : k < 4
  · have h4' : (k : Int) < 4 := by omega
    go_wp2_with fail
    refine (ropen_small _ gd gp gb k _ _ HD3.out h4).mono ?_
    rintro e w4 ⟨rfl, rfl⟩
    have HD4 := HD3
    have HB4 := HB3
    clear HD3 HB3
    go_wp2_with fail
    refine (ropen_nil _).mono ?_
    rintro e w5 ⟨rfl, rfl⟩
    have c0 := HD4.out.cells.1
    have HP := Lib.hid (plan_any w5 gp _ 0 0 HD4.out.pow)
    go_wp2_with fail
    refine HP.out.mono ?_
    rintro e w6 ⟨rfl, hw6⟩
    have hd6 : Dsk w6 gd gp gb ⟨true, some (0, 0), 0⟩ (List.replicate (64 * k) 0) k := by rw [hw6]; exact HD4.out.setPow _
    have hb6 : Below w.heap.size w w6 := by rw [hw6]; exact HB4.out.trans (put_below _ HG.out.1)
    have HPUT := Lib.hid (put_yes w6 gd gp gb k _ _ 0 none 0 0 [] hd6 ⟨by simp, by simp⟩ (by omega) (by omega) (rd_none w6))
    have HB6 := Lib.hid hb6
    clear hw6 hd6 hb6 c0 HP HD4
    go_wp2_with fail
    refine HPUT.out.mono ?_
    rintro e w7 ⟨rfl, hd7, hs7⟩
    have HB7 := Lib.hid (HB6.out.trans (hs7.below HB6.out.size (by have := HG.out; simp; omega)))
    have HO := Lib.hid (ropen_small w7 gd gp gb k _ _ hd7 h4)
    clear hd7 hs7 HPUT
    go_wp2_with fail
    refine HO.out.mono ?_
    rintro e w8 ⟨rfl, hw8⟩
    have HB8 : Hid (Below w.heap.size w w8) := Lib.hid (hw8 ▸ HB7.out)
    clear hw8 HO
    go_wp2_with fail
    refine (room_nil _).mono ?_
    rintro e w9 ⟨rfl, rfl⟩
    go_wp2_with fail
    refine (gen_nil _).mono ?_
    rintro e w9 ⟨rfl, rfl⟩
    go_wp2_with fail
    refine (commit_nil _ none 0 0).mono ?_
    rintro e w9 ⟨rfl, rfl⟩
    go_wp2
    go_ret
    exact ⟨by first | rfl | (simp; omega), HB8.out⟩
  · have h4' : ¬ (k : Int) < 4 := by omega
    have h4'' : 4 ≤ (k : Int) := by omega
    go_wp2_with fail
    refine (open_inv _ gd gp gb k 0 _ _ [] HD3.out (by omega) (by omega) rfl (rinv_new k (by omega)) 6 rfl).mono ?_
    rintro e w4 ⟨gr, a4, c4, rfl, _, _, _, hb4⟩
    have HD4 := Lib.hid (HD3.out.later hb4)
    have HB4 := Lib.hid (HB3.out.trans (hb4.mono HB3.out.size))
    clear HD3 HB3 hb4
    go_wp2_with fail
    refine (ropen_nil _).mono ?_
    rintro e w5 ⟨rfl, rfl⟩
    have c0 := HD4.out.cells.1
    have HP := Lib.hid (plan_any w5 gp _ 0 0 HD4.out.pow)
    go_wp2_with fail
    refine HP.out.mono ?_
    rintro e w6 ⟨rfl, hw6⟩
    have hd6 : Dsk w6 gd gp gb ⟨true, some (0, 0), 0⟩ (List.replicate (64 * k) 0) k := by rw [hw6]; exact HD4.out.setPow _
    have hb6 : Below w.heap.size w w6 := by rw [hw6]; exact HB4.out.trans (put_below _ HG.out.1)
    have HPUT := Lib.hid (put_yes w6 gd gp gb k _ _ 0 none 0 0 [] hd6 ⟨by simp, by simp⟩ (by omega) (by omega) (rd_none w6))
    have HB6 := Lib.hid hb6
    clear hw6 hd6 hb6 c0 HP HD4
    go_wp2_with fail
    refine HPUT.out.mono ?_
    rintro e w7 ⟨rfl, hd7, hs7⟩
    have HB7 := Lib.hid (HB6.out.trans (hs7.below HB6.out.size (by have := HG.out; simp; omega)))
    have HO := Lib.hid (ropen_down w7 gd gp gb k _ _ hd7 (by omega) rfl)
    clear hd7 hs7 HPUT
    go_wp2_with fail
    refine HO.out.mono ?_
    rintro e w8 ⟨rfl, hw8⟩
    have HB8 : Hid (Below w.heap.size w w8) := Lib.hid (HB7.out.trans (hw8.mono HB7.out.size))
    clear hw8 HO
    go_wp2_with fail
    refine (room_nil _).mono ?_
    rintro e w9 ⟨rfl, rfl⟩
    go_wp2_with fail
    refine (gen_nil _).mono ?_
    rintro e w9 ⟨rfl, rfl⟩
    go_wp2_with fail
    refine (commit_nil _ none 0 0).mono ?_
    rintro e w9 ⟨rfl, rfl⟩
    go_wp2
    go_ret
    exact ⟨by first | rfl | (simp; omega), HB8.out⟩

end Go.Proofs.Ytpdpnlgiaehegaa
