/- VarintPuts returns true at every input: any numbers and texts are put behind others as the document says, and are read again; the arguments read as they did. No condition. -/
import Derived.Test.YtidbdfioadchaaaTexts
import Derived.Test.YtidbdfioadchaaaOrders
import Derived.Deep.DeepCutAuto
import Derived.Deep.RegionHeld3
import Derived.Laws.MakeOwn
import Derived.Laws.Concat
namespace Go.Proofs.Ytidbdfioadchaaa
open Go.RowKit

theorem strB_append (A B : List Nat) : strB A ++ strB B = strB (A ++ B) := by
  apply ByteArray.ext
  simp [strB, strOfNums, ByteArray.data_append]

theorem strB_size (A : List Nat) : (strB A).size = A.length := by unfold strB; rw [strOfNums_size]; simp

theorem RdU.later {w w' : World} {a : Option Addr} {n : Nat} {L : List Nat} (h : RdU w a n L) (hb : Below w.heap.size w w') : RdU w' a n L := by
  refine ⟨h.1, h.2.1, fun hn => ?_⟩
  obtain ⟨b, o, rfl, hc⟩ := h.2.2 hn
  refine ⟨b, o, rfl, fun j hj => ?_⟩
  exact (hb.cell (p := ⟨b, o + j, none⟩) (World.block_lt_of_cell? w _ (hc j hj))).trans (hc j hj)

theorem RdT.later {w w' : World} {a : Option Addr} {n : Nat} {T : List (List Nat)} (h : RdT w a n T) (hb : Below w.heap.size w w') : RdT w' a n T := by
  refine ⟨h.1, fun hn => ?_⟩
  obtain ⟨b, o, rfl, hc⟩ := h.2 hn
  refine ⟨b, o, rfl, fun j hj => ?_⟩
  obtain ⟨aj, cj, h1, h2⟩ := hc j hj
  exact ⟨aj, cj, (hb.cell (p := ⟨b, o + j, none⟩) (World.block_lt_of_cell? w _ h1)).trans h1, h2.later hb⟩

/-- Put, its result written out. -/
theorem put_sl (a : Option Addr) (n c : Nat) (l : List Nat) (ua : Option Addr) (un uc : Nat) (L A : List Nat) (w : World) (h : Rd w a n l) (hu : RdU w ua un L) (hn : n ≤ 1000000) (hm : un ≤ 1000) (hA : A = l ++ L.flatMap vEnc) :
    Calls Try.prog 10 #[.slice a n c, .slice ua un uc] w fun e w' => ∃ a' m c', e = .returned (.slice a' m c') ∧ A.length = m ∧ Rd w' a' m A ∧ Below w.heap.size w w' := by
  refine (put_any a n c l ua un uc L w h hu hn hm).mono ?_
  rintro e w' ⟨v, rfl, ho, hb⟩
  rw [← hA] at ho
  obtain ⟨a', c', rfl, hr, _⟩ := ho.sl
  exact ⟨a', _, c', rfl, rfl, hr, hb⟩

theorem bytesPut_sl (a : Option Addr) (n c : Nat) (l : List Nat) (ta : Option Addr) (tn tc : Nat) (T : List (List Nat)) (B : List Nat) (w : World) (h : Rd w a n l) (ht : RdT w ta tn T) (hn : n ≤ 1000000) (hm : tn ≤ 1000) (h5 : ∀ t ∈ T, t.length ≤ 500) (hB : B = l ++ T.flatMap tEnc) :
    Calls Try.prog 11 #[.slice a n c, .slice ta tn tc] w fun e w' => ∃ a' m c', e = .returned (.slice a' m c') ∧ B.length = m ∧ Rd w' a' m B ∧ Below w.heap.size w w' := by
  refine (bytesPut_any a n c l ta tn tc T w h ht hn hm h5).mono ?_
  rintro e w' ⟨v, rfl, ho, hb⟩
  rw [← hB] at ho
  obtain ⟨a', c', rfl, hr, _⟩ := ho.sl
  exact ⟨a', _, c', rfl, rfl, hr, hb⟩

/-- The cells of 'make([]byte, 0, c)'. -/
def mk0 (c : Nat) : Array Value := madeCells #[.int .u8 0] c

theorem run_mk0 (c : Nat) (hc : c ≤ 1000000) (w : World) : (Instr.makeSlice 22 (.int .i64 0) (.int .i64 (c : Int))).run Try.prog w = .ok (.slice (some ⟨w.heap.size, 0, none⟩) 0 c) (w.alloc (.cells (mk0 c) 5)) := by
  obtain ⟨i0, hi0, hz0, hz1, hz2⟩ := info_parts info5
  have h := run_make (P := Try.prog) w 22 5 i0 _ Try.underlying22 hi0 hz0 .i64 .i64 0 c (by omega) (by omega) (by rw [hz2]; omega) (by omega)
  simpa [hz1, mk0, Value.cells] using h

theorem own_mk0 (w : World) (c : Nat) (hc : c ≤ 1000000) : Own (w.alloc (.cells (mk0 c) 5)) w.heap.size (.slice (some ⟨w.heap.size, 0, none⟩) 0 c) [] :=
  ⟨by simp, World.ownsRow_made w (mk0 c) c (Nat.le_refl _) (by unfold maxLen; omega) (by unfold mk0; rw [size_madeCells]; omega)⟩

theorem rNum_put (x : Nat) (r : List Nat) (hx : x ≤ 18446744073709551615) : rNum 0 (vEnc x ++ r) 18446744073709551615 = (x, 0, r) := by
  obtain ⟨h1, h2, h3⟩ := vRead (n := x) r (by omega)
  rw [rNum_ok h1 (by omega), h2, h3]
  simp

theorem rByt_put (t r : List Nat) (ht : t.length ≤ 500) : rByt 0 (tEnc t ++ r) 500 = (t, 0, r) := by
  obtain ⟨h1, h2, h3⟩ := vRead (n := t.length) (t ++ r) (by omega)
  have e : tEnc t ++ r = vEnc t.length ++ (t ++ r) := by unfold tEnc; simp
  have hn : rNum 0 (tEnc t ++ r) 500 = (t.length, 0, t ++ r) := by
    rw [e, rNum_ok h1 (by omega), h2, h3]
    simp
  rw [rByt_ok hn (by simp)]
  simp

theorem number_lit (w : World) (g : Nat) (l : List Nat) (h : Rdr w 52 g 0 l) :
    Calls Try.prog 13 #[.pointer (some ⟨g, 0, none⟩), .int .u64 18446744073709551615] w fun e w' => e = .returned (.int .u64 ((rNum 0 l 18446744073709551615).1 : Int)) ∧ Rdr w' 52 g (rNum 0 l 18446744073709551615).2.1 (rNum 0 l 18446744073709551615).2.2 ∧ w.grownBy w' (some g) :=
  number_any w g 0 l 18446744073709551615 h

set_option maxHeartbeats 4000000 in
set_option maxRecDepth 100000 in
theorem varintPuts_walk (a : Option Addr) (n c : Nat) (l : List Nat) (ua : Option Addr) (un uc : Nat) (L : List Nat) (ta : Option Addr) (tn tc : Nat) (T : List (List Nat)) (w : World) (h : Rd w a n l) (hu : RdU w ua un L) (ht : RdT w ta tn T) :
    Calls Try.prog 3 #[.slice a n c, .slice ua un uc, .slice ta tn tc] w fun e w' => e = .returned (.bool true) ∧ Below w.heap.size w w' := by
  have HR := Lib.hid h
  have HU := Lib.hid hu
  have HT := Lib.hid ht
  clear h hu ht
  by_cases hbig : 200 < n ∨ 60 < un ∨ 30 < tn
  · have hcase : (200 < (n : Int)) ∨ ((n : Int) ≤ 200 ∧ 60 < (un : Int)) ∨ ((n : Int) ≤ 200 ∧ (un : Int) ≤ 60 ∧ 30 < (tn : Int)) := by omega
    clear hbig
    rcases hcase with hbig | ⟨hbig, hbig2⟩ | ⟨hbig, hbig2, hbig3⟩
    all_goals
      go_enter Try.func3, Try.ntmps3
      go_wp2_with fail
      refine (lives_any w).mono ?_
      rintro e w1 ⟨rfl, hb⟩
      have HB := Lib.hid hb
      clear hb
      go_wp2_with fail
      refine (lives_any w1).mono ?_
      rintro e w2 ⟨rfl, hb2⟩
      have HB2 := Lib.hid hb2
      clear hb2
      go_wp2
      go_ret
      exact ⟨rfl, HB.out.trans (HB2.out.mono HB.out.size)⟩
  · have hn : n ≤ 200 := by omega
    have hun : un ≤ 60 := by omega
    have htn : tn ≤ 30 := by omega
    clear hbig
    have hd1 : decide (200 < (n : Int)) = false := by simp; omega
    have hd2 : decide (60 < (un : Int)) = false := by simp; omega
    have hd3 : decide (30 < (tn : Int)) = false := by simp; omega
    have hmk : ∀ W : World, (Instr.makeSlice 22 (.int .i64 0) (.int .i64 ((n : Int) + 30))).run Try.prog W = .ok (.slice (some ⟨W.heap.size, 0, none⟩) 0 (n + 30)) (W.alloc (.cells (mk0 (n + 30)) 5)) := by
      intro W
      have := run_mk0 (n + 30) (by omega) W
      rw [show (((n + 30 : Nat)) : Int) = (n : Int) + 30 from by omega] at this
      exact this
    go_enter Try.func3, Try.ntmps3
    go_wp2_with fail
    refine (lives_any w).mono ?_
    rintro e w1 ⟨rfl, hb1⟩
    have H1 := Lib.hid (HR.out.later hb1)
    have HB1 := Lib.hid hb1
    clear hb1
    go_wp2_with (at_builtin; have _t := hn; refine wpList_append_rd rfl (.tmp 42) (.tmp 43) rfl _ rfl a n c rfl w1.heap.size [] (own_mk0 w1 (n + 30) (by omega)) (by simp) l (H1.out.later (Below.alloc0 _ _)) (by simp; omega) ?next)
    case next =>
      intro v2 w2 ho2 hb2
      have HB2 : Hid (Below w.heap.size w w2) := HB1.out.trans (((Below.alloc0 w1 _).trans hb2).mono HB1.out.size)
      obtain ⟨aO, cO, hv2, hrO, hcO⟩ := ho2.sl
      rw [HR.out.1] at hv2 hrO hcO
      rw [hv2]
      have HRO := Lib.hid hrO
      clear ho2 hb2 hv2 hrO hmk
      have H2 := Lib.hid (HR.out.later HB2.out)
      go_wp2_with fail
      go_region_held3 (fun W => (convert 22 9 (.slice a n c)).run Try.prog W = .ok (.string (strB l)) W) (first | exact conv_rd H2.out c | exact conv_rd (H2.out.later (Below.refl _ _).drew) c) (fail)
      go_wp2
      go_loopg [8, 51] un (fun k s i wr => ∃ j A, k = un - j ∧ j ≤ un ∧ i = .int .i64 (j : Int) ∧ s = .string (strB A) ∧ A = l ++ (L.take j).flatMap vEnc ∧ Below w2.heap.size w2 wr)
      case atStart => exact ⟨0, l, rfl, Nat.zero_le _, rfl, rfl, by simp, (Below.refl _ _).drew⟩
      case round =>
        obtain ⟨j, A, hk, hj, rfl, rfl, hA, hbj⟩ := hrel
        have HK := Lib.hid hk
        have HA := Lib.hid hA
        have HBJ := Lib.hid hbj
        have HBW : Hid (Below w.heap.size w wr) := HB2.out.trans (HBJ.out.mono HB2.out.size)
        clear hk hA hbj
        by_cases hlt : j < un
        · obtain ⟨ub, uo, rfl, hcell⟩ := HU.out.at_ HBW.out hlt
          have hL := HU.out.1
          have hx : L.getD j 0 ≤ 18446744073709551615 := HU.out.2.1 _ (by simp [List.getD, show j < L.length by omega])
          obtain ⟨x, hxe⟩ : ∃ x, x = L.getD j 0 := ⟨_, rfl⟩
          rw [← hxe] at hcell hx
          have hsz : ¬ (strB A).size + (strB (vEnc x)).size > 9223372036854775807 := by
            have h1 := encs_len (L.take j) fun y hy => HU.out.2.1 y (List.mem_of_mem_take hy)
            have h2 : (L.take j).length ≤ j := List.length_take_le _ _
            have h3 := HR.out.1
            have h4 := vEnc_len10 (n := x) (by omega)
            rw [strB_size, strB_size, HA.out, List.length_append]; omega
          have HX := Lib.hid hxe
          have HL := Lib.hid hL
          have HXB := Lib.hid hx
          clear hxe hL hx
          go_wp2_with fail
          refine (refNum_any x _ _ rfl HXB.out).mono ?_
          rintro e w3 ⟨g, m, c3, rfl, hm, ho, hb⟩
          have hcv := ho.conv
          have HB3 := Lib.hid hb
          clear hm ho hb
          go_wp2
          go_roundg (un - (j + 1))
          case measure => have := HK.out; omega
          case rel => exact ⟨j + 1, A ++ vEnc x, rfl, by omega, by go_num, by rw [strB_append], by
            rw [take_snocD (by have := HL.out; omega), List.flatMap_append, ← HX.out, HA.out]; simp, HBJ.out.trans (HB3.out.mono HBJ.out.size)⟩
        · obtain rfl : j = un := by omega
          have HA' : Hid (A = l ++ L.flatMap vEnc) := by
            have h1 := HU.out.1
            have h2 := HA.out
            rw [List.take_of_length_le (by omega)] at h2
            exact h2
          clear HA HK
          go_wp2
          obtain ⟨w4, hw4⟩ : ∃ w4, w4 = wr := ⟨_, rfl⟩
          rw [← hw4] at HBJ HBW ⊢
          clear hw4
          go_loopg [9, 63] tn (fun k s i wr => ∃ j B, k = tn - j ∧ j ≤ tn ∧ i = .int .i64 (j : Int) ∧ s = .string (strB B) ∧ B = l ++ (T.take j).flatMap tEnc ∧ (∀ t ∈ T.take j, t.length ≤ 500) ∧ Below w2.heap.size w2 wr)
          case atStart => exact ⟨0, l, rfl, Nat.zero_le _, rfl, rfl, by simp, by simp, HBJ.out⟩
          case round =>
            clear HBJ HBW
            obtain ⟨i, B, hk, hi, rfl, rfl, hB, h5, hbj⟩ := hrel
            have HK := Lib.hid hk
            have HBB := Lib.hid hB
            have H5 := Lib.hid h5
            have HBJ := Lib.hid hbj
            have HBW : Hid (Below w.heap.size w wr) := HB2.out.trans (HBJ.out.mono HB2.out.size)
            clear hk hB h5 hbj
            by_cases hit : i < tn
            · obtain ⟨tb, tof, aj, cj, rfl, hcell, hrj⟩ := HT.out.at_ HBW.out hit
              have hT := HT.out.1
              obtain ⟨t, hte⟩ : ∃ t, t = T.getD i [] := ⟨_, rfl⟩
              rw [← hte] at hcell hrj
              obtain ⟨m, hm⟩ : ∃ m, m = t.length := ⟨_, rfl⟩
              rw [← hm] at hcell hrj
              have HTE := Lib.hid hte
              have HTL := Lib.hid hT
              have HM := Lib.hid hm
              have HRJ := Lib.hid hrj
              clear hte hT hm hrj
              by_cases hm5 : 500 < m
              · have hm5' : 500 < (m : Int) := by omega
                go_wp2
                go_ret
                exact ⟨rfl, HBW.out⟩
              · have hm5' : (m : Int) ≤ 500 := by omega
                have hsz : ¬ (strB B).size + (strB (tEnc t)).size > 9223372036854775807 := by
                  have h1 := tEncs_len (T.take i) H5.out
                  have h2 : (T.take i).length ≤ i := List.length_take_le _ _
                  have h3 := HR.out.1
                  have h6 := HM.out
                  have h4 := vEnc_len10 (n := t.length) (by omega)
                  have h7 : (tEnc t).length = (vEnc t.length).length + t.length := by unfold tEnc; simp
                  rw [strB_size, strB_size, HBB.out, List.length_append, h7]; omega
                go_wp2_with fail
                refine (refText_any aj m cj t wr (HRJ.out.later HBW.out) (by omega)).mono ?_
                rintro e w3 ⟨v3, rfl, ho, hb⟩
                have hcv := ho.conv
                have HB3 := Lib.hid hb
                clear ho hb
                go_wp2
                go_roundg (tn - (i + 1))
                case measure => have := HK.out; omega
                case rel => exact ⟨i + 1, B ++ tEnc t, rfl, by omega, by go_num, by rw [strB_append], by
                  rw [take_snocT (by have := HTL.out; omega), List.flatMap_append, ← HTE.out, HBB.out]; simp, by
                  rw [take_snocT (by have := HTL.out; omega), ← HTE.out]
                  intro y hy
                  simp only [List.mem_append, List.mem_singleton] at hy
                  rcases hy with hy | rfl
                  · exact H5.out y hy
                  · have := HM.out; omega, HBJ.out.trans (HB3.out.mono HBJ.out.size)⟩
            · obtain rfl : i = tn := by omega
              have HB' : Hid (B = l ++ T.flatMap tEnc) := by
                have h1 := HT.out.1
                have h2 := HBB.out
                rw [List.take_of_length_le (by omega)] at h2
                exact h2
              have H5' : Hid (∀ t ∈ T, t.length ≤ 500) := by
                have h1 := HT.out.1
                have h2 := H5.out
                rw [List.take_of_length_le (by omega)] at h2
                exact h2
              clear HBB H5 HK
              obtain ⟨w5, hw5⟩ : ∃ w5, w5 = wr := ⟨_, rfl⟩
              rw [← hw5] at HBJ HBW ⊢
              clear hw5
              have HU5 := Lib.hid (HU.out.later HBW.out)
              have HT5 := Lib.hid (HT.out.later HBW.out)
              go_wp2_with fail
              refine (put_sl aO n cO l ua j uc L A w5 (HRO.out.later HBJ.out) HU5.out (by omega) (by omega) HA'.out).mono ?_
              rintro e w6 ⟨a6, m6, c6, rfl, hm6, hr6, hb6⟩
              have HR6 := Lib.hid hr6
              have HB6 := Lib.hid hb6
              clear hm6 hr6 hb6
              have HU6 := Lib.hid (HU5.out.later HB6.out)
              have HT6 := Lib.hid (HT5.out.later HB6.out)
              go_wp2_with fail
              refine (bytesPut_sl aO n cO l ta i tc T B w6 ((HRO.out.later HBJ.out).later HB6.out) HT6.out (by omega) (by omega) H5'.out HB'.out).mono ?_
              rintro e w7 ⟨a7, m7, c7, rfl, hm7, hr7, hb7⟩
              have HB7 := Lib.hid hb7
              have hcv6 := conv_rd (HR6.out.later hb7) c6
              have hcv7 := conv_rd hr7 c7
              clear hm7 hr7 hb7 HR6
              have HU7 := Lib.hid (HU6.out.later HB7.out)
              have HT7 := Lib.hid (HT6.out.later HB7.out)
              have hLl := HU.out.1
              have hTl := HT.out.1
              have HLen : Hid ((L.flatMap vEnc).length ≤ 600 ∧ (L.flatMap vEnc ++ T.flatMap tEnc).length ≤ 20000) := by
                have h1 := encs_len L HU.out.2.1
                have h2 := tEncs_len T H5'.out
                exact ⟨by omega, by rw [List.length_append]; omega⟩
              have HLl := Lib.hid hLl
              have HTl := Lib.hid hTl
              clear hLl hTl
              go_wp2_with fail
              refine (put_sl none 0 0 [] ua j uc L (L.flatMap vEnc) w7 ⟨rfl, by simp, by omega⟩ HU7.out (by omega) (by omega) (by simp)).mono ?_
              rintro e w8 ⟨a8, m8, c8, rfl, hm8, hr8, hb8⟩
              have HR8 := Lib.hid hr8
              have HB8 := Lib.hid hb8
              have hm8' : m8 ≤ 600 := by rw [← hm8]; exact HLen.out.1
              clear hm8 hr8 hb8 hcv6 hcv7
              have HT8 := Lib.hid (HT7.out.later HB8.out)
              go_wp2_with fail
              refine (bytesPut_sl a8 m8 c8 (L.flatMap vEnc) ta i tc T (L.flatMap vEnc ++ T.flatMap tEnc) w8 HR8.out HT8.out (by omega) (by omega) H5'.out rfl).mono ?_
              rintro e w9 ⟨a9, m9, c9, rfl, hm9, hr9, hb9⟩
              have HR9 := Lib.hid hr9
              have HB9 := Lib.hid hb9
              have hm9' : m9 ≤ 20000 := by rw [← hm9]; exact HLen.out.2
              clear hm9 hr9 hb9
              go_wp2_with fail
              refine (open_any a9 m9 c9 (L.flatMap vEnc ++ T.flatMap tEnc) w9 HR9.out (by omega)).mono ?_
              rintro e w10 ⟨g, rfl, hg, hrd, hb10⟩
              have HRD := Lib.hid hrd
              have HG : Hid (w.heap.size ≤ g) := Nat.le_trans (Nat.le_trans HBW.out.size (Nat.le_trans HB6.out.size (Nat.le_trans HB7.out.size (Nat.le_trans HB8.out.size HB9.out.size)))) hg
              have s5 := HBW.out.size
              have s6 := Nat.le_trans s5 HB6.out.size
              have s7 := Nat.le_trans s6 HB7.out.size
              have s8 := Nat.le_trans s7 HB8.out.size
              have s9 := Nat.le_trans s8 HB9.out.size
              have HBX : Hid (Below w.heap.size w w10) := ((((HBW.out.trans (HB6.out.mono s5)).trans (HB7.out.mono s6)).trans (HB8.out.mono s7)).trans (HB9.out.mono s8)).trans (hb10.mono s9)
              clear hg hrd hb10 s5 s6 s7 s8 s9 HB6 HB7 HB8 HB9 HR8 HR9 HT5 HT6 HT7 HT8 HU5 HU6 HU7 HBW HBJ
              go_wp2
              go_loopg [99] j (fun k z wr => ∃ q, k = j - q ∧ q ≤ j ∧ z = .int .i64 (q : Int) ∧ Rdr wr 52 g 0 ((L.drop q).flatMap vEnc ++ T.flatMap tEnc) ∧ Below w.heap.size w wr)
              case atStart => exact ⟨0, rfl, Nat.zero_le _, rfl, HRD.out, HBX.out⟩
              case round =>
                obtain ⟨q, hk, hq, rfl, hrq, hbq⟩ := hrel
                have HK := Lib.hid hk
                have HRQ := Lib.hid hrq
                have HBQ := Lib.hid hbq
                clear hk hrq hbq HRD HBX
                by_cases hqj : q < j
                · obtain ⟨ub, uo, rfl, hcell⟩ := HU.out.at_ HBQ.out hqj
                  have hx : L.getD q 0 ≤ 18446744073709551615 := HU.out.2.1 _ (by have := HLl.out; simp [List.getD, show q < L.length by omega])
                  have hdr : L.drop q = L.getD q 0 :: L.drop (q + 1) := by
                    have hl : q < L.length := by have := HLl.out; omega
                    rw [List.drop_eq_getElem_cons hl]; simp [List.getD, hl]
                  obtain ⟨x, hxe⟩ : ∃ x, x = L.getD q 0 := ⟨_, rfl⟩
                  rw [← hxe] at hcell hx hdr
                  have hN := number_lit wr g _ HRQ.out
                  rw [hdr, List.flatMap_cons, List.append_assoc, rNum_put x _ hx] at hN
                  have HN := Lib.hid hN
                  clear hxe hx hdr hN
                  go_wp2_with fail
                  refine HN.out.mono ?_
                  rintro e w11 ⟨rfl, hr11, hg11⟩
                  have HR11 := Lib.hid hr11
                  have HG11 := Lib.hid hg11
                  clear hr11 hg11
                  go_wp2
                  go_roundg (j - (q + 1))
                  case measure => have := HK.out; omega
                  case rel => exact ⟨q + 1, rfl, by omega, by go_num, HR11.out, HBQ.out.grown HG11.out HBQ.out.size (by intro k e; injection e with e; have := HG.out; omega)⟩
                · obtain rfl : q = j := by omega
                  have HRT : Hid (Rdr wr 52 g 0 (T.flatMap tEnc)) := by
                    have h1 := HLl.out
                    have h2 := HRQ.out
                    rw [List.drop_eq_nil_of_le (by omega)] at h2
                    exact h2
                  clear HRQ HK
                  go_wp2
                  obtain ⟨w12, hw12⟩ : ∃ w12, w12 = wr := ⟨_, rfl⟩
                  rw [← hw12] at HRT HBQ ⊢
                  clear hw12
                  go_loopg [110] i (fun k z wr => ∃ q, k = i - q ∧ q ≤ i ∧ z = .int .i64 (q : Int) ∧ Rdr wr 52 g 0 ((T.drop q).flatMap tEnc) ∧ Below w.heap.size w wr)
                  case atStart => exact ⟨0, rfl, Nat.zero_le _, rfl, HRT.out, HBQ.out⟩
                  case round =>
                    clear HRT HBQ
                    obtain ⟨p, hk, hp, rfl, hrp, hbp⟩ := hrel
                    have HK := Lib.hid hk
                    have HRP := Lib.hid hrp
                    have HBP := Lib.hid hbp
                    clear hk hrp hbp
                    by_cases hpi : p < i
                    · obtain ⟨tb, tof, aj, cj, rfl, hcell, hrj⟩ := HT.out.at_ HBP.out hpi
                      have hdr : T.drop p = T.getD p [] :: T.drop (p + 1) := by
                        have hl : p < T.length := by have := HTl.out; omega
                        rw [List.drop_eq_getElem_cons hl]; simp [List.getD, hl]
                      have ht5 : (T.getD p []).length ≤ 500 := H5'.out _ (by have := HTl.out; simp [List.getD, show p < T.length by omega])
                      obtain ⟨t, hte⟩ : ∃ t, t = T.getD p [] := ⟨_, rfl⟩
                      rw [← hte] at hcell hrj hdr ht5
                      obtain ⟨m, hm⟩ : ∃ m, m = t.length := ⟨_, rfl⟩
                      rw [← hm] at hcell hrj
                      have hY := bytes_any wr.drew g 0 ((T.drop p).flatMap tEnc) 500 500 (.inl rfl) (by omega) HRP.out
                      rw [hdr, List.flatMap_cons, rByt_put t _ ht5] at hY
                      have HY := Lib.hid hY
                      have HRJ := Lib.hid hrj
                      have HX : Hid ((convert 22 9 (.slice aj m cj)).run Try.prog wr.drew = .ok (.string (strB t)) wr.drew) := conv_rd (HRJ.out.later HBP.out.drew) cj
                      clear hte hm hdr ht5 hY hrj
                      go_wp2_with fail
                      refine wp_region_held_drew (S := fun W => (convert 22 9 (.slice aj m cj)).run Try.prog W = .ok (.string (strB t)) W) (by kernel_rfl) HX.out (fun _ => ?_)
                      refine wpAnyH_take (i := 0) (v := ?v0) rfl (by kernel_rfl) (by kernel_rfl) (by kernel_rfl) (fun _ _ _ h => h) (Or.inl ⟨by rfl, ?h0⟩) HX.out ?r0
                      case h0 => (intro W hW; (try dsimp only at hW); go_simp; try with_reducible rfl)
                      simp only [Act.put, List.getElem_toArray, List.getElem_cons_zero, List.setIfInBounds_toArray, List.set_cons_zero, List.set_cons_succ]
                      refine wpAnyH_take (i := 3) (v := ?v3) rfl (by kernel_rfl) (by kernel_rfl) (by kernel_rfl) (fun _ _ _ h => h) (Or.inl ⟨by rfl, ?h3⟩) HX.out ?r3
                      case h3 => (intro W hW; (try dsimp only at hW); go_simp; try with_reducible rfl)
                      simp only [Act.put, List.getElem_toArray, List.getElem_cons_succ, List.getElem_cons_zero, List.setIfInBounds_toArray, List.set_cons_zero, List.set_cons_succ]
                      refine wpAnyH_take (i := 4) (v := ?v4) rfl (by kernel_rfl) (by kernel_rfl) (by kernel_rfl) (fun _ _ _ h => h) (Or.inl ⟨by rfl, ?h4⟩) HX.out ?r4
                      case h4 => (intro W hW; (try dsimp only at hW); go_simp; try with_reducible rfl)
                      simp only [Act.put, List.getElem_toArray, List.getElem_cons_succ, List.getElem_cons_zero, List.setIfInBounds_toArray, List.set_cons_zero, List.set_cons_succ]
                      refine wpAnyH_ready (rs := [1]) (by kernel_rfl) (by simp) ?_
                      refine AllReadyH.cons rfl (fun K hK => ?_) AllReadyH.nil
                      go_simp
                      refine HY.out.mono ?_
                      rintro e w13 ⟨a13, n13, c13, rfl, hr13, hrd13, hg13⟩
                      have HR13 := Lib.hid hr13
                      have HRD13 := Lib.hid hrd13
                      have HB13 : Hid (Below w.heap.size w w13) := HBP.out.drew.grown hg13 HBP.out.size (by intro k e; injection e with e; have := HG.out; omega)
                      have HX13 : Hid ((convert 22 9 (.slice aj m cj)).run Try.prog w13 = .ok (.string (strB t)) w13) := conv_rd (HRJ.out.later HB13.out) cj
                      clear hr13 hrd13 hg13
                      refine hK.out _ _ HX13.out (fun _ => ?_)
                      clear hK K
                      refine wpAnyH_strong (S1 := fun W => (convert 22 9 (.slice aj m cj)).run Try.prog W = .ok (.string (strB t)) W ∧ (convert 22 9 (.slice a13 n13 c13)).run Try.prog W = .ok (.string (strB t)) W) (fun _ h => h.1) ?_
                      refine wpAnyH_take (i := 2) (v := ?v2) rfl (by kernel_rfl) (by kernel_rfl) (by kernel_rfl) (fun _ _ _ h => h) (Or.inl ⟨by rfl, ?h2⟩) ⟨HX13.out, conv_rd HR13.out c13⟩ ?r2
                      case h2 => (intro W hW; (try dsimp only at hW); go_simp; try with_reducible rfl)
                      simp only [Act.put, List.getElem_toArray, List.getElem_cons_succ, List.getElem_cons_zero, List.setIfInBounds_toArray, List.set_cons_zero, List.set_cons_succ]
                      refine wpAnyH_take (i := 5) (v := ?v5) rfl (by kernel_rfl) (by kernel_rfl) (by kernel_rfl) (fun _ _ _ h => h) (Or.inl ⟨by rfl, ?h5⟩) ⟨HX13.out, conv_rd HR13.out c13⟩ ?r5
                      case h5 => (intro W hW; (try dsimp only at hW); go_simp; try with_reducible rfl)
                      simp only [Act.put, List.getElem_toArray, List.getElem_cons_succ, List.getElem_cons_zero, List.setIfInBounds_toArray, List.set_cons_zero, List.set_cons_succ]
                      refine wpAnyH_done (by kernel_rfl) ?_ _
                      go_wp2
                      go_roundg (i - (p + 1))
                      case measure => have := HK.out; omega
                      case rel => exact ⟨p + 1, rfl, by omega, by go_num, HRD13.out, HB13.out⟩
                    · obtain rfl : p = i := by omega
                      have HE : Hid (Rdr wr 52 g 0 []) := by
                        have h1 := HTl.out
                        have h2 := HRP.out
                        rw [List.drop_eq_nil_of_le (by omega)] at h2
                        exact h2
                      have HEnd : Hid (Calls Try.prog 15 #[.pointer (some ⟨g, 0, none⟩)] wr fun e w' => e = .returned (.int .i64 0) ∧ wr = w') := end_any wr g 0 [] HE.out
                      go_wp2_with fail
                      refine HEnd.out.mono ?_
                      rintro e w' ⟨rfl, rfl⟩
                      go_wp2
                      go_ret
                      exact ⟨rfl, HBP.out⟩
end Go.Proofs.Ytidbdfioadchaaa
