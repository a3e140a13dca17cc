/- TapeArgs, run. -/
import Derived.Test.YtpkfpdklolkgeaaTapeLives
namespace Go.Proofs.Ytpkfpdklolkgeaa
open Go.RowKit
set_option linter.unusedSimpArgs false

set_option maxHeartbeats 1000000 in
set_option maxRecDepth 100000 in
theorem targs_no1 (w : World) (r y : Int) (h1 : r < 1) :
    Calls Try.prog 4 #[.int .i64 r, .int .i64 y] w fun e w' => e = .returned (.bool true) ∧ Below w.heap.size w w' := by
  have HL := Lib.hid (lives_any w)
  go_enter Try.func4, Try.ntmps4
  go_wp2_with fail
  refine HL.out.mono ?_
  rintro e w1 ⟨rfl, hb1⟩
  have HB1 := Lib.hid hb1
  have HN := Lib.hid (new_any w1)
  clear hb1 HL
  go_wp2_with fail
  refine HN.out.mono ?_
  rintro e w2 ⟨rfl, hw2⟩
  obtain ⟨gp, hgp⟩ : ∃ gp, gp = w1.heap.size := ⟨_, rfl⟩
  rw [← hgp]
  have hp2 : Pow w2 gp ⟨true, none, 0⟩ := by rw [hw2, hgp]; exact pow_laid w1 _
  have hb2 : Below w.heap.size w w2 := by rw [hw2]; exact HB1.out.alloc HB1.out.size _
  have HB2 := Lib.hid hb2
  have HC := Lib.hid (tnew_no w2 r y none none 0 0 0 0 (some ⟨gp, 0, none⟩) (.inl h1))
  clear hw2 hgp hp2 hb2 HB1 HN
  go_wp2_with fail
  refine HC.out.mono ?_
  rintro e w3 ⟨rfl, hb3⟩
  have HB3 := Lib.hid (HB2.out.trans (hb3.mono HB2.out.size))
  clear hb3
  have HC2 := Lib.hid (tnew_no w3 9 0 none none 0 0 0 0 none (.inr (.inr (.inr (.inr rfl)))))
  clear HC
  go_wp2_with fail
  refine HC2.out.mono ?_
  rintro e w4 ⟨rfl, hb4⟩
  have HB4 := Lib.hid (HB3.out.trans (hb4.mono HB3.out.size))
  clear hb4 HC2 HB3
  go_wp2_with fail
  refine (get_nil w4).mono ?_
  rintro e w5 ⟨rfl, rfl⟩
  go_wp2_with fail
  refine (put_nil _ _ _ _).mono ?_
  rintro e w6 ⟨rfl, rfl⟩
  go_wp2_with fail
  refine (mark_nil _).mono ?_
  rintro e w7 ⟨rfl, rfl⟩
  go_wp2_with fail
  refine (seek_nil _ _).mono ?_
  rintro e w7 ⟨rfl, rfl⟩
  go_wp2_with fail
  refine (skip_nil _ _).mono ?_
  rintro e w7 ⟨rfl, rfl⟩
  go_wp2_with fail
  refine (place_nil _).mono ?_
  rintro e w7 ⟨rfl, rfl⟩
  go_wp2_with fail
  refine (tlen_nil _).mono ?_
  rintro e w7 ⟨rfl, rfl⟩
  go_wp2_with fail
  refine (warns_nil _).mono ?_
  rintro e w7 ⟨rfl, m7, rfl⟩
  go_wp2
  go_ret
  refine ⟨rfl, ?_⟩
  have hb := HB4.out.alloc HB4.out.size (.cells #[.int .u8 1] 5)
  exact ⟨hb.os, hb.tape, hb.output, hb.size, hb.block⟩

set_option maxHeartbeats 1000000 in
set_option maxRecDepth 100000 in
theorem targs_no2 (w : World) (r y : Int) (h1 : 1 ≤ r) (h2 : 16777216 < r) :
    Calls Try.prog 4 #[.int .i64 r, .int .i64 y] w fun e w' => e = .returned (.bool true) ∧ Below w.heap.size w w' := by
  have HL := Lib.hid (lives_any w)
  go_enter Try.func4, Try.ntmps4
  go_wp2_with fail
  refine HL.out.mono ?_
  rintro e w1 ⟨rfl, hb1⟩
  have HB1 := Lib.hid hb1
  have HN := Lib.hid (new_any w1)
  clear hb1 HL
  go_wp2_with fail
  refine HN.out.mono ?_
  rintro e w2 ⟨rfl, hw2⟩
  obtain ⟨gp, hgp⟩ : ∃ gp, gp = w1.heap.size := ⟨_, rfl⟩
  rw [← hgp]
  have hp2 : Pow w2 gp ⟨true, none, 0⟩ := by rw [hw2, hgp]; exact pow_laid w1 _
  have hb2 : Below w.heap.size w w2 := by rw [hw2]; exact HB1.out.alloc HB1.out.size _
  have HB2 := Lib.hid hb2
  have HC := Lib.hid (tnew_no w2 r y none none 0 0 0 0 (some ⟨gp, 0, none⟩) (.inr (.inl h2)))
  clear hw2 hgp hp2 hb2 HB1 HN
  go_wp2_with fail
  refine HC.out.mono ?_
  rintro e w3 ⟨rfl, hb3⟩
  have HB3 := Lib.hid (HB2.out.trans (hb3.mono HB2.out.size))
  clear hb3
  have HC2 := Lib.hid (tnew_no w3 9 0 none none 0 0 0 0 none (.inr (.inr (.inr (.inr rfl)))))
  clear HC
  go_wp2_with fail
  refine HC2.out.mono ?_
  rintro e w4 ⟨rfl, hb4⟩
  have HB4 := Lib.hid (HB3.out.trans (hb4.mono HB3.out.size))
  clear hb4 HC2 HB3
  go_wp2_with fail
  refine (get_nil w4).mono ?_
  rintro e w5 ⟨rfl, rfl⟩
  go_wp2_with fail
  refine (put_nil _ _ _ _).mono ?_
  rintro e w6 ⟨rfl, rfl⟩
  go_wp2_with fail
  refine (mark_nil _).mono ?_
  rintro e w7 ⟨rfl, rfl⟩
  go_wp2_with fail
  refine (seek_nil _ _).mono ?_
  rintro e w7 ⟨rfl, rfl⟩
  go_wp2_with fail
  refine (skip_nil _ _).mono ?_
  rintro e w7 ⟨rfl, rfl⟩
  go_wp2_with fail
  refine (place_nil _).mono ?_
  rintro e w7 ⟨rfl, rfl⟩
  go_wp2_with fail
  refine (tlen_nil _).mono ?_
  rintro e w7 ⟨rfl, rfl⟩
  go_wp2_with fail
  refine (warns_nil _).mono ?_
  rintro e w7 ⟨rfl, m7, rfl⟩
  go_wp2
  go_ret
  refine ⟨rfl, ?_⟩
  have hb := HB4.out.alloc HB4.out.size (.cells #[.int .u8 1] 5)
  exact ⟨hb.os, hb.tape, hb.output, hb.size, hb.block⟩

set_option maxHeartbeats 1000000 in
set_option maxRecDepth 100000 in
theorem targs_no3 (w : World) (r y : Int) (h1 : 1 ≤ r) (h2 : r ≤ 16777216) (h3 : y < 0) :
    Calls Try.prog 4 #[.int .i64 r, .int .i64 y] w fun e w' => e = .returned (.bool true) ∧ Below w.heap.size w w' := by
  have HL := Lib.hid (lives_any w)
  go_enter Try.func4, Try.ntmps4
  go_wp2_with fail
  refine HL.out.mono ?_
  rintro e w1 ⟨rfl, hb1⟩
  have HB1 := Lib.hid hb1
  have HN := Lib.hid (new_any w1)
  clear hb1 HL
  go_wp2_with fail
  refine HN.out.mono ?_
  rintro e w2 ⟨rfl, hw2⟩
  obtain ⟨gp, hgp⟩ : ∃ gp, gp = w1.heap.size := ⟨_, rfl⟩
  rw [← hgp]
  have hp2 : Pow w2 gp ⟨true, none, 0⟩ := by rw [hw2, hgp]; exact pow_laid w1 _
  have hb2 : Below w.heap.size w w2 := by rw [hw2]; exact HB1.out.alloc HB1.out.size _
  have HB2 := Lib.hid hb2
  have HC := Lib.hid (tnew_no w2 r y none none 0 0 0 0 (some ⟨gp, 0, none⟩) (.inr (.inr (.inl h3))))
  clear hw2 hgp hp2 hb2 HB1 HN
  go_wp2_with fail
  refine HC.out.mono ?_
  rintro e w3 ⟨rfl, hb3⟩
  have HB3 := Lib.hid (HB2.out.trans (hb3.mono HB2.out.size))
  clear hb3
  have HC2 := Lib.hid (tnew_no w3 9 0 none none 0 0 0 0 none (.inr (.inr (.inr (.inr rfl)))))
  clear HC
  go_wp2_with fail
  refine HC2.out.mono ?_
  rintro e w4 ⟨rfl, hb4⟩
  have HB4 := Lib.hid (HB3.out.trans (hb4.mono HB3.out.size))
  clear hb4 HC2 HB3
  go_wp2_with fail
  refine (get_nil w4).mono ?_
  rintro e w5 ⟨rfl, rfl⟩
  go_wp2_with fail
  refine (put_nil _ _ _ _).mono ?_
  rintro e w6 ⟨rfl, rfl⟩
  go_wp2_with fail
  refine (mark_nil _).mono ?_
  rintro e w7 ⟨rfl, rfl⟩
  go_wp2_with fail
  refine (seek_nil _ _).mono ?_
  rintro e w7 ⟨rfl, rfl⟩
  go_wp2_with fail
  refine (skip_nil _ _).mono ?_
  rintro e w7 ⟨rfl, rfl⟩
  go_wp2_with fail
  refine (place_nil _).mono ?_
  rintro e w7 ⟨rfl, rfl⟩
  go_wp2_with fail
  refine (tlen_nil _).mono ?_
  rintro e w7 ⟨rfl, rfl⟩
  go_wp2_with fail
  refine (warns_nil _).mono ?_
  rintro e w7 ⟨rfl, m7, rfl⟩
  go_wp2
  go_ret
  refine ⟨rfl, ?_⟩
  have hb := HB4.out.alloc HB4.out.size (.cells #[.int .u8 1] 5)
  exact ⟨hb.os, hb.tape, hb.output, hb.size, hb.block⟩

set_option maxHeartbeats 1000000 in
set_option maxRecDepth 100000 in
theorem targs_no4 (w : World) (r y : Int) (h1 : 1 ≤ r) (h2 : r ≤ 16777216) (h3 : 0 ≤ y) (h4 : r < y) :
    Calls Try.prog 4 #[.int .i64 r, .int .i64 y] w fun e w' => e = .returned (.bool true) ∧ Below w.heap.size w w' := by
  have HL := Lib.hid (lives_any w)
  have hd4 : decide (y ≤ r) = false := by simp; omega
  go_enter Try.func4, Try.ntmps4
  go_wp2_with fail
  refine HL.out.mono ?_
  rintro e w1 ⟨rfl, hb1⟩
  have HB1 := Lib.hid hb1
  have HN := Lib.hid (new_any w1)
  clear hb1 HL
  go_wp2_with fail
  refine HN.out.mono ?_
  rintro e w2 ⟨rfl, hw2⟩
  obtain ⟨gp, hgp⟩ : ∃ gp, gp = w1.heap.size := ⟨_, rfl⟩
  rw [← hgp]
  have hp2 : Pow w2 gp ⟨true, none, 0⟩ := by rw [hw2, hgp]; exact pow_laid w1 _
  have hb2 : Below w.heap.size w w2 := by rw [hw2]; exact HB1.out.alloc HB1.out.size _
  have HB2 := Lib.hid hb2
  have HC := Lib.hid (tnew_no w2 r y none none 0 0 0 0 (some ⟨gp, 0, none⟩) (.inr (.inr (.inr (.inl h4)))))
  clear hw2 hgp hp2 hb2 HB1 HN
  go_wp2_with fail
  refine HC.out.mono ?_
  rintro e w3 ⟨rfl, hb3⟩
  have HB3 := Lib.hid (HB2.out.trans (hb3.mono HB2.out.size))
  clear hb3
  have HC2 := Lib.hid (tnew_no w3 9 0 none none 0 0 0 0 none (.inr (.inr (.inr (.inr rfl)))))
  clear HC
  go_wp2_with fail
  refine HC2.out.mono ?_
  rintro e w4 ⟨rfl, hb4⟩
  have HB4 := Lib.hid (HB3.out.trans (hb4.mono HB3.out.size))
  clear hb4 HC2 HB3
  go_wp2_with fail
  refine (get_nil w4).mono ?_
  rintro e w5 ⟨rfl, rfl⟩
  go_wp2_with fail
  refine (put_nil _ _ _ _).mono ?_
  rintro e w6 ⟨rfl, rfl⟩
  go_wp2_with fail
  refine (mark_nil _).mono ?_
  rintro e w7 ⟨rfl, rfl⟩
  go_wp2_with fail
  refine (seek_nil _ _).mono ?_
  rintro e w7 ⟨rfl, rfl⟩
  go_wp2_with fail
  refine (skip_nil _ _).mono ?_
  rintro e w7 ⟨rfl, rfl⟩
  go_wp2_with fail
  refine (place_nil _).mono ?_
  rintro e w7 ⟨rfl, rfl⟩
  go_wp2_with fail
  refine (tlen_nil _).mono ?_
  rintro e w7 ⟨rfl, rfl⟩
  go_wp2_with fail
  refine (warns_nil _).mono ?_
  rintro e w7 ⟨rfl, m7, rfl⟩
  go_wp2
  go_ret
  refine ⟨rfl, ?_⟩
  have hb := HB4.out.alloc HB4.out.size (.cells #[.int .u8 1] 5)
  exact ⟨hb.os, hb.tape, hb.output, hb.size, hb.block⟩

set_option maxHeartbeats 1000000 in
set_option maxRecDepth 100000 in
theorem targs_yes (w : World) (r y : Nat) (h1 : 1 ≤ r) (h2 : r ≤ 16777216) (h3 : y ≤ r) :
    Calls Try.prog 4 #[.int .i64 (r : Int), .int .i64 (y : Int)] w fun e w' => e = .returned (.bool true) ∧ Below w.heap.size w w' := by
  have HL := Lib.hid (lives_any w)
  have i1 : (1 : Int) ≤ (r : Int) := by omega
  have i2 : (r : Int) ≤ 16777216 := by omega
  have i3 : (0 : Int) ≤ (y : Int) := by omega
  go_enter Try.func4, Try.ntmps4
  go_wp2_with fail
  refine HL.out.mono ?_
  rintro e w1 ⟨rfl, hb1⟩
  have HB1 := Lib.hid hb1
  have HN := Lib.hid (new_any w1)
  clear hb1 HL
  go_wp2_with fail
  refine HN.out.mono ?_
  rintro e w2 ⟨rfl, hw2⟩
  obtain ⟨gp, hgp⟩ : ∃ gp, gp = w1.heap.size := ⟨_, rfl⟩
  rw [← hgp]
  have hp2 : Pow w2 gp ⟨true, none, 0⟩ := by rw [hw2, hgp]; exact pow_laid w1 _
  have hb2 : Below w.heap.size w w2 := by rw [hw2]; exact HB1.out.alloc HB1.out.size _
  have HB2 := Lib.hid hb2
  have HC := Lib.hid (tnew_yes w2 r y gp none none 0 0 0 0 [] [] ⟨true, none, 0⟩ h1 h2 h3 (rdI_nil _) (rdI_nil _) (by omega) (by omega) hp2)
  clear hw2 hgp hp2 hb2 HB1 HN
  go_wp2_with fail
  refine HC.out.mono ?_
  rintro e w3 ⟨gt, F, rfl, _, hb3, _⟩
  have HB3 := Lib.hid (HB2.out.trans (hb3.mono HB2.out.size))
  clear hb3
  have HC2 := Lib.hid (tnew_no w3 9 0 none none 0 0 0 0 none (.inr (.inr (.inr (.inr rfl)))))
  clear HC
  go_wp2_with fail
  refine HC2.out.mono ?_
  rintro e w4 ⟨rfl, hb4⟩
  have HB4 := Lib.hid (HB3.out.trans (hb4.mono HB3.out.size))
  clear hb4 HC2 HB3
  go_wp2_with fail
  refine (get_nil w4).mono ?_
  rintro e w5 ⟨rfl, rfl⟩
  go_wp2_with fail
  refine (put_nil _ _ _ _).mono ?_
  rintro e w6 ⟨rfl, rfl⟩
  go_wp2_with fail
  refine (mark_nil _).mono ?_
  rintro e w7 ⟨rfl, rfl⟩
  go_wp2_with fail
  refine (seek_nil _ _).mono ?_
  rintro e w7 ⟨rfl, rfl⟩
  go_wp2_with fail
  refine (skip_nil _ _).mono ?_
  rintro e w7 ⟨rfl, rfl⟩
  go_wp2_with fail
  refine (place_nil _).mono ?_
  rintro e w7 ⟨rfl, rfl⟩
  go_wp2_with fail
  refine (tlen_nil _).mono ?_
  rintro e w7 ⟨rfl, rfl⟩
  go_wp2_with fail
  refine (warns_nil _).mono ?_
  rintro e w7 ⟨rfl, m7, rfl⟩
  go_wp2
  go_ret
  refine ⟨rfl, ?_⟩
  have hb := HB4.out.alloc HB4.out.size (.cells #[.int .u8 1] 5)
  exact ⟨hb.os, hb.tape, hb.output, hb.size, hb.block⟩

theorem targs_any (w : World) (r y : Int) :
    Calls Try.prog 4 #[.int .i64 r, .int .i64 y] w fun e w' => e = .returned (.bool true) ∧ Below w.heap.size w w' := by
  by_cases h1 : r < 1
  · exact targs_no1 w r y h1
  by_cases h2 : 16777216 < r
  · exact targs_no2 w r y (by omega) h2
  by_cases h3 : y < 0
  · exact targs_no3 w r y (by omega) (by omega) h3
  by_cases h4 : r < y
  · exact targs_no4 w r y (by omega) (by omega) (by omega) h4
  obtain ⟨r', rfl⟩ : ∃ r' : Nat, r = (r' : Int) := ⟨r.toNat, by omega⟩
  obtain ⟨y', rfl⟩ : ∃ y' : Nat, y = (y' : Int) := ⟨y.toNat, by omega⟩
  exact targs_yes w r' y' (by omega) (by omega) (by omega)

end Go.Proofs.Ytpkfpdklolkgeaa
