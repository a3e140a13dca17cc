/- The chapter's example, run. -/
import Derived.Test.YtpdpnlgiaehegaaRCom
import Derived.Lib.SlBytesConst
namespace Go.Proofs.Ytpdpnlgiaehegaa
open Go.RowKit
set_option linter.unusedSimpArgs false

/-- A constant's bytes, laid and marked. -/
def heyObj : Obj := .cells #[.int .u8 104, .int .u8 101, .int .u8 121] 5 (3, 4)

theorem rd_hey (w : World) : Rd (w.alloc heyObj) (some ⟨w.heap.size, 0, none⟩) 3 [104, 101, 121] := by
  refine ⟨rfl, by simp, fun _ => ⟨_, _, rfl, fun j hj => ?_⟩⟩
  rw [cell_of_row _ _ _ _ 5 (3, 4) (heap_alloc_new w heyObj)]
  rcases (by omega : j = 0 ∨ j = 1 ∨ j = 2) with rfl | rfl | rfl <;> rfl

theorem hey_list : (strB [104, 101, 121]).toList = [104, 101, 121] := by kernel_rfl

set_option maxHeartbeats 400000 in
set_option maxRecDepth 100000 in
theorem lives_any (w : World) : Calls Try.prog 6 #[] w fun e w' => e = .returned (.bool true) ∧ Below w.heap.size w w' := by
  have HN := Lib.hid (new_at w)
  have hey := hey_list
  have kc := fun (w : World) (C : Array Value) (n c : Nat) => Lib.run_convert_bytes_const (P := Try.prog) w 32 5 C n c Try.underlying32 Try.underlying5
  go_enter Try.func6, Try.ntmps6
  go_wp2_with fail
  refine HN.out.mono ?_
  rintro e w1 ⟨gp, rfl, hgp, hp1, hb1⟩
  have HD := Lib.hid (dnew_at w1 8 gp _ hp1 (by omega) (by omega))
  have HB1 := Lib.hid hb1
  clear hp1 hb1
  go_wp2_with fail
  refine HD.out.mono ?_
  rintro e w2 ⟨gd, gb, rfl, hgd, hgb, hd2, hb2⟩
  have HO := Lib.hid (open_inv w2 gd gp gb 8 0 _ _ [] hd2 (by omega) (by omega) rfl (rinv_new 8 (by omega)) 6 rfl)
  have HD2 := Lib.hid hd2
  have HB2 := Lib.hid (HB1.out.trans (hb2.mono HB1.out.size))
  have HG := Lib.hid (And.intro hgp (And.intro (Nat.le_trans HB1.out.size hgb) (Nat.le_trans HB1.out.size hgd)))
  have HL2 := Lib.hid hd2.lts
  clear hd2 hb2 hgp hgb hgd HD HN
  go_wp2_with fail
  refine HO.out.mono ?_
  rintro e w3 ⟨gr, a3, c3, rfl, hgr, _, hr3, hb3⟩
  have hd3 := HD2.out.later hb3
  have HC := Lib.hid (commit_any (w3.alloc heyObj) gr gd gp gb 8 0 0 _ _ ((heap_alloc_old w3 _ (lt_of_block hr3)).trans hr3) (hd3.later (Below.alloc0 _ _)) (by omega) (by have := HL2.out; omega) (by omega) ⟨by simp, by simp⟩ (by omega) (some ⟨w3.heap.size, 0, none⟩) 3 3 [104, 101, 121] (rd_hey w3) (by decide) (by omega) (by
    intro _ ad e
    injection e with e
    subst e
    have := hd3.lts
    simp
    omega))
  rw [rCom_on (by simp) (by omega) (by omega) (by decide)] at HC
  have hinv := (rinv_new 8 (by omega)).commit (s := ⟨true, none, 0⟩) (b := [104, 101, 121]) (by omega) (by omega) (by omega) rfl (by decide)
  rw [rCom_on (by simp) (by omega) (by omega) (by decide)] at hinv
  have hinv' := hinv.resolve_right (by simp)
  simp only [if_true] at HC hinv'
  have HI := Lib.hid hinv'.2
  have HR3 := Lib.hid hr3
  have HB3 := Lib.hid (HB2.out.trans (hb3.mono HB2.out.size))
  have HGR := Lib.hid (Nat.le_trans HB2.out.size hgr)
  obtain ⟨L4, hL4⟩ : ∃ L4, L4 = splice (splice (List.replicate (64 * 8) 0) (64 * (2 + (0 + 1) % 2 * sect 8)) (padB [104, 101, 121])) (64 * ((0 + 1) % 2)) (rSec (0 + 1) [104, 101, 121]) := ⟨_, rfl⟩
  rw [← hL4] at HC HI
  clear hr3 hb3 hgr hd3 HO hinv hinv' hL4
  go_wp2_with fail
  refine HC.out.mono ?_
  rintro e w4 ⟨rfl, hd4, hr4, hs4, _⟩
  have HO4 := Lib.hid (open_inv w4 gd gp gb 8 1 _ _ [104, 101, 121] hd4 (by omega) (by omega) rfl HI.out 0 rfl)
  have HB4 : Hid (Below w.heap.size w w4) := Lib.hid (((HB3.out.alloc HB3.out.size _)).trans (hs4.below (by have := HB3.out.size; simp; omega) (by have := HG.out; have := HGR.out; simp; omega)))
  have HM := Lib.hid (And.intro hd4 hr4)
  clear hd4 hr4 hs4 HC
  go_wp2_with fail
  refine HO4.out.mono ?_
  rintro e w5 ⟨gs, a5, c5, rfl, hgs, hrd5, hr5, hb5⟩
  have HGN := Lib.hid (gen_any w5 gs gd 1 hr5)
  have HRM := Lib.hid (room_any w5 gr gd gp gb 8 1 _ _ ((hb5.block gr (lt_of_block HM.out.2)).trans HM.out.2) (HM.out.1.later hb5) (by omega))
  have hcv : (convert 32 9 (.slice a5 3 c5)).run Try.prog w5 = .ok (.string (strB [104, 101, 121])) w5 := conv_rd hrd5 c5
  have HB5 := Lib.hid (HB4.out.trans (hb5.mono HB4.out.size))
  clear hr5 hb5 hgs hrd5
  go_wp2_with fail
  refine HGN.out.mono ?_
  rintro e w6 ⟨rfl, rfl⟩
  go_wp2_with fail
  refine HRM.out.mono ?_
  rintro e w6 ⟨rfl, rfl⟩
  go_wp2
  go_ret
  exact ⟨rfl, HB5.out⟩

end Go.Proofs.Ytpdpnlgiaehegaa
