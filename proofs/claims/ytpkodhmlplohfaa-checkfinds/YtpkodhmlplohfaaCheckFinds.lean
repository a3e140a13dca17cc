/- CheckFinds returns true at every input: bytes of which a row of at most 32 bits is another one have another sum, and are not opened with the old one; the arguments read as they did. No condition. -/
import Derived.Test.YtpkodhmlplohfaaCheckLives
import Derived.Test.YtpkodhmlplohfaaKeep
import Derived.Deep.DeepCutAuto
import Derived.BigRegion
namespace Go.Proofs.Ytpkodhmlplohfaa
open Go.RowKit

theorem spot_at (at_ : Int) {n : Nat} (h4 : 4 ≤ n) (hn : n ≤ 20000) : ∃ i : Nat, wrap64 ((IntKind.u64.wrap at_).tmod (8 * (n : Int) - 31)) = (i : Int) ∧ i + 32 ≤ 8 * n := by
  have h1 : IntKind.u64.wrap at_ = at_ % 18446744073709551616 := IntKind.wrap_u64 _
  have h2 : 0 ≤ at_ % 18446744073709551616 := Int.emod_nonneg _ (by omega)
  have h3 : (at_ % 18446744073709551616).tmod (8 * (n : Int) - 31) = (at_ % 18446744073709551616) % (8 * (n : Int) - 31) := Int.tmod_eq_emod_of_nonneg h2
  have h5 : 0 ≤ (at_ % 18446744073709551616) % (8 * (n : Int) - 31) := Int.emod_nonneg _ (by omega)
  have h6 : (at_ % 18446744073709551616) % (8 * (n : Int) - 31) < 8 * (n : Int) - 31 := Int.emod_lt_of_pos _ (by omega)
  rw [h1, h3]
  generalize (at_ % 18446744073709551616) % (8 * (n : Int) - 31) = x at h5 h6
  refine ⟨x.toNat, ?_, by omega⟩
  unfold wrap64
  omega

theorem bit_at {D : Nat} (hD : D < 4294967296) (j : Nat) : (bits .and .u32 ((D : Int) / 2 ^ j) 1 == 1) = D.testBit j := by
  have h1 : (D : Int) / 2 ^ j = ((D / 2 ^ j : Nat) : Int) := by simp
  have h2 : D / 2 ^ j < 4294967296 := Nat.lt_of_le_of_lt (Nat.div_le_self _ _) hD
  have h3 : bits .and .u32 ((D / 2 ^ j : Nat) : Int) 1 = ((D / 2 ^ j % 2 : Nat) : Int) := by
    have := u32_and_nat (D / 2 ^ j) 1 h2 (by omega)
    rw [Nat.and_one_is_mod] at this
    exact this
  rw [h1, h3, Nat.testBit_eq_decide_div_mod_eq]
  have h4 : D / 2 ^ j % 2 = 0 ∨ D / 2 ^ j % 2 = 1 := by omega
  rcases h4 with h4 | h4 <;> rw [h4] <;> rfl

theorem Own.row {w : World} {base g n cap : Nat} {l : List Nat} (h : Own w base (.slice (some ⟨g, 0, none⟩) n cap) l) : ∃ cur, w.heap[g]? = some (.cells cur 5 (0, 0)) ∧ base ≤ g := by
  rcases h.2.2 with ⟨hv, _⟩ | ⟨g', cap', cur, hv, hbg, hg, _⟩
  · cases hv
  · injection hv with h2 h3 h4
    injection h2 with h2
    injection h2 with h2
    subst h2
    exact ⟨cur, hg, hbg⟩

theorem xor_pow {z m : Nat} (hz : z < 256) (hm : m < 8) : bits .xor .u8 (z : Int) ((2 : Int) ^ m % 256) = ((z ^^^ 2 ^ m : Nat) : Int) := by
  have h1 : (2 : Nat) ^ m < 256 := Nat.pow_lt_pow_right (a := 2) (n := 8) (by omega) hm
  have h2 : (2 : Int) ^ m % 256 = ((2 ^ m : Nat) : Int) := by
    have : ((2 : Int) ^ m) = ((2 ^ m : Nat) : Int) := by simp
    rw [this]
    generalize (2 : Nat) ^ m = q at h1
    omega
  rw [h2]
  exact u8_xor_nat z (2 ^ m) hz h1

theorem xor_pow_lt {z m : Nat} (hz : z < 256) (hm : m < 8) : z ^^^ 2 ^ m < 256 :=
  Nat.xor_lt_two_pow (n := 8) hz (Nat.pow_lt_pow_right (a := 2) (n := 8) (by omega) hm)

set_option maxHeartbeats 4000000 in
set_option maxRecDepth 100000 in
theorem checkFinds_walk (a : Option Addr) (n c : Nat) (l : List Nat) (at_ : Int) (D : Nat) (w : World) (h : Rd w a n l) (hD : D < 4294967296) :
    Calls Try.prog 4 #[.slice a n c, .int .i64 at_, .int .u32 (D : Int)] w fun e w' => e = .returned (.bool true) ∧ Below w.heap.size w w' := by
  have HR := Lib.hid h
  clear h
  by_cases hbig : n < 4 ∨ 20000 < n ∨ D = 0
  · have hcase : ((n : Int) < 4) ∨ (4 ≤ (n : Int) ∧ 20000 < (n : Int)) ∨ (4 ≤ (n : Int) ∧ (n : Int) ≤ 20000 ∧ D = 0) := by omega
    clear hbig
    rcases hcase with hbig | ⟨hb1, hbig⟩ | ⟨hb1, hb2, rfl⟩
    all_goals
      go_enter Try.func4, Try.ntmps4
      go_wp2_with fail
      refine (lives_any w).mono ?_
      rintro e w1 ⟨rfl, hb⟩
      have HB := Lib.hid hb
      clear hb
      go_wp2_with fail
      refine (lives_any w1).mono ?_
      rintro e w2 ⟨rfl, hb2⟩
      have HB2 := Lib.hid hb2
      clear hb2
      go_wp2
      go_ret
      exact ⟨rfl, HB.out.trans (HB2.out.mono HB.out.size)⟩
  · have hn4 : 4 ≤ n := by omega
    have hn : n ≤ 20000 := by omega
    have hD0 : D ≠ 0 := by omega
    clear hbig
    have hd1 : decide ((n : Int) < 4) = false := by simp; omega
    have hd2 : decide (20000 < (n : Int)) = false := by simp; omega
    have hd3 : ((D : Int) == 0) = false := by simp; omega
    have HD0 := Lib.hid hD0
    have HD := Lib.hid hD
    clear hD0
    go_enter Try.func4, Try.ntmps4
    go_wp2_with fail
    refine (lives_any w).mono ?_
    rintro e w1 ⟨rfl, hb1⟩
    have H1 := Lib.hid (HR.out.later hb1)
    have HB1 := Lib.hid hb1
    clear hb1
    go_wp2_with (at_builtin; have _t := hn; refine wpList_fresh rfl (.tmp 29) (.tmp 30) rfl w1.heap.size rfl a n c rfl (heap_alloc_new w1 _) l (H1.out.later (Below.alloc0 _ _)) (by omega) ?next)
    case next =>
      intro gO cO w2 hgO hO hg2
      have HO := Lib.hid hO
      have HG2 := Lib.hid hg2
      clear hO hg2
      have HB2 : Hid (Below w1.heap.size w1 w2) := (Below.alloc0 w1 _).grown HG2.out (by simp) (by simp)
      go_wp2
      obtain ⟨i, hi, hi8⟩ := spot_at at_ hn4 hn
      rw [hi]
      have HI8 := Lib.hid hi8
      clear hi
      go_loopg [41] 32 (fun k v wr => ∃ j, k = 32 - j ∧ j ≤ 32 ∧ v = .int .i64 (j : Int) ∧ Own wr w1.heap.size (.slice (some ⟨gO, 0, none⟩) n cO) (flipTo l i D j) ∧ Below w1.heap.size w1 wr)
      case atStart => exact ⟨0, rfl, Nat.zero_le _, rfl, HO.out, HB2.out⟩
      case round =>
        obtain ⟨j, hk, hj, rfl, hoj, hbj⟩ := hrel
        have HK := Lib.hid hk
        have HOJ := Lib.hid hoj
        have HBJ := Lib.hid hbj
        clear hk hoj hbj HO HB2 HG2
        by_cases hlt : j < 32
        · have hbit := bit_at HD.out j
          by_cases hd : D.testBit j = true
          · rw [hd] at hbit
            have HDJ := Lib.hid hd
            clear hd
            obtain ⟨z, hz⟩ : ∃ z, z = (flipTo l i D j).getD ((i + j) / 8) 0 := ⟨_, rfl⟩
            have hlen : (flipTo l i D j).length = n := by rw [flipTo_length]; exact HR.out.1
            have hrd := HOJ.out.asSlice1 hlen
            have hcell : wr.cell? ⟨gO, (i + j) / 8, none⟩ = some (.int .u8 (z : Int)) := by
              obtain ⟨b, o, hbo, hc⟩ := hrd.2.2 (by omega)
              have := hc ((i + j) / 8) (by have := HI8.out; omega)
              injection hbo with hbo
              injection hbo with h1 h2
              subst h1
              subst h2
              rw [hz, ← this, Nat.zero_add]
            have hfr : wr.frozen? ⟨gO, (i + j) / 8, none⟩ = false := by
              obtain ⟨cur, hcur, _⟩ := HOJ.out.row
              simp [World.frozen?, hcur]
            have hix : ((i : Int) + (j : Int)) / 8 < (n : Int) := by have := HI8.out; omega
            have hz8 : z < 256 := by
              rw [hz]
              exact hrd.2.1 _ (by simp [List.getD, show (i + j) / 8 < (flipTo l i D j).length by rw [hlen]; have := HI8.out; omega])
            have HZ := Lib.hid hz
            have HLEN := Lib.hid hlen
            have HZ8 := Lib.hid hz8
            clear hz hlen hrd hz8
            go_wp2_with fail
            go_region
            go_wp2
            go_roundg (32 - (j + 1))
            case measure => have := HK.out; omega
            case rel => exact ⟨j + 1, rfl, by omega, by go_num, by
              rw [flipTo, if_pos HDJ.out, ← HZ.out, xor_pow HZ8.out (by omega)]
              exact HOJ.out.set HLEN.out _ _ (xor_pow_lt HZ8.out (by omega)), by
              obtain ⟨_, _, hg⟩ := HOJ.out.row
              exact (HBJ.out.setCell hg _).drew⟩
          · have hd' : D.testBit j = false := by simpa using hd
            rw [hd'] at hbit
            have HDJ := Lib.hid hd
            clear hd hd'
            go_wp2
            go_roundg (32 - (j + 1))
            case measure => have := HK.out; omega
            case rel => exact ⟨j + 1, rfl, by omega, by go_num, by rw [flipTo, if_neg HDJ.out]; exact HOJ.out, HBJ.out⟩
        · have : j = 32 := by omega
          subst this
          have hne : cSum l ≠ cSum (flipTo l i D 32) := cSum_flip l i D (by rw [HR.out.1]; exact HI8.out) HD.out HD0.out
          obtain ⟨l', hl'⟩ : ∃ l', l' = flipTo l i D 32 := ⟨_, rfl⟩
          rw [← hl'] at HOJ hne
          have HL' : Hid (l'.length = n) := by rw [hl', flipTo_length]; exact HR.out.1
          have HNE := Lib.hid hne
          clear hl' hne
          obtain ⟨w3, hw3⟩ : ∃ w3, w3 = wr := ⟨_, rfl⟩
          rw [← hw3] at HOJ HBJ
          have hgO' : gO < w3.heap.size := by
            obtain ⟨_, hh, _⟩ := HOJ.out.row
            exact lt_of_block hh
          have HGO := Lib.hid hgO'
          clear hgO'
          go_wp2_with fail
          rw [← hw3]
          clear hw3
          refine (seal_any a n c l w3 (H1.out.later HBJ.out) (by omega)).mono ?_
          rintro e w4 ⟨v4, rfl, ho4, hb4⟩
          obtain ⟨a4, c4, rfl, hr4, hc4⟩ := ho4.sl
          have hlen4 : (l ++ sumB (cSum l)).length = n + 4 := by rw [List.length_append, HR.out.1]; rfl
          rw [hlen4] at hr4 hc4
          have hcut := hr4.cut (k := n) (by omega) hc4
          have e4 : n + 4 - n = 4 := by omega
          rw [e4, List.drop_left' HR.out.1] at hcut
          have HCUT := Lib.hid hcut
          have HB4 := Lib.hid hb4
          have HO4 := Lib.hid (HOJ.out.kept hb4)
          have hsl := slice_from a4 (n + 4) c4 n .i64 (by omega)
          rw [e4] at hsl
          rw [hlen4]
          clear hcut hr4 hb4 ho4 hlen4
          go_wp2_with (at_builtin; have _t := hn; refine wpList_append_keep rfl (.tmp 65) (.tmp 70) rfl gO n cO rfl (cutA a4 c4 n) 4 (c4 - n) rfl w1.heap.size l' HO4.out HL'.out (Nat.le_trans HBJ.out.size HB4.out.size) (sumB (cSum l)) HCUT.out (by omega) (by omega) ?next2)
          case next2 =>
            intro v5 w5 hO5 hR5 hg5
            obtain ⟨a5, c5, rfl, hr5, hc5⟩ := hO5.sl
            have hlen5 : (l' ++ sumB (cSum l)).length = n + 4 := by rw [List.length_append, HL'.out]; rfl
            rw [hlen5] at hr5 hc5 ⊢
            have hns : ¬ Sealed (l' ++ sumB (cSum l)) := by
              rintro ⟨_, h2⟩
              have e5 : (l' ++ sumB (cSum l)).length - 4 = l'.length := by rw [hlen5, HL'.out]; omega
              rw [e5, List.take_left, List.drop_left, numB_sumB] at h2
              exact HNE.out h2.symm
            have HB5 : Hid (Below w1.heap.size w1 w5) := (HBJ.out.trans (HB4.out.mono HBJ.out.size)).grown hg5 (Nat.le_trans HBJ.out.size HB4.out.size) (by intro k hk; injection hk with hk; omega)
            have HR5 := Lib.hid hR5
            have HNS := Lib.hid hns
            have HS5 := Lib.hid hr5
            clear hO5 hR5 hg5 hns hr5 hlen5
            go_wp2_with fail
            refine (open_any a5 (n + 4) c5 _ w5 HS5.out (by omega) hc5).mono ?_
            rintro e w6 ⟨hb6, hcase⟩
            have hret : e = .returned (.tuple #[.slice none 0 0, .bool false]) := by
              rcases hcase with ⟨_, h⟩ | ⟨h, _⟩
              · exact h
              · exact absurd h HNS.out
            subst hret
            have HB6 := Lib.hid hb6
            have HB16 : Hid (Below w1.heap.size w1 w6) := HB5.out.trans (HB6.out.mono HB5.out.size)
            clear hb6 hcase
            have HRb : Hid (Rd w6 a n l) := H1.out.later HB16.out
            have HRc : Hid (Rd w6 (some ⟨gO, 0, none⟩) n l') := HR5.out.later HB6.out
            go_wp2_with fail
            refine (of_one HRb.out (by omega) 22).mono ?_
            rintro e w7 ⟨rfl, rfl⟩
            obtain ⟨w7, hw7⟩ : ∃ w7, w7 = w6.alloc (.cells #[.slice a n c] 22) := ⟨_, rfl⟩
            have HB7 : Hid (Below w6.heap.size w6 w7) := by rw [hw7]; exact Below.alloc0 _ _
            rw [← hw7]
            clear hw7
            go_wp2_with fail
            refine (of_one (HRc.out.later HB7.out) (by omega) 22).mono ?_
            rintro e w8 ⟨rfl, rfl⟩
            have hpq : ((cSum l : Int) != (cSum l' : Int)) = true := by have := HNE.out; simp; omega
            generalize cSum l = p at hpq
            generalize cSum l' = q at hpq
            go_wp2
            go_ret
            refine ⟨rfl, HB1.out.trans ((((HB16.out.trans (HB7.out.mono HB16.out.size)).alloc ?_ _)).mono HB1.out.size)⟩
            exact Nat.le_trans HB16.out.size HB7.out.size
end Go.Proofs.Ytpkodhmlplohfaa
