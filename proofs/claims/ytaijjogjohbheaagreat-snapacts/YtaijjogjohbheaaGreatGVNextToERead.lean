/- The contract of varint.Next, over any world. -/
import Derived.Test.YtaijjogjohbheaaGreatGMemToKeep
import Derived.Test.YtaijjogjohbheaaGreatMath
import Derived.Laws.BitsAllLaws
import Derived.Test.YtaijjogjohbheaaGreatClone
import Derived.Test.YtaijjogjohbheaaGreatGERowToEAdd
import Derived.Lib.MinMax
namespace Go.Proofs.YtaijjogjohbheaaGreat
open Go.RowKit
set_option maxRecDepth 100000

set_option maxHeartbeats 400000 in
theorem allowed_any (i c : Nat) (w : World) (hi : i ≤ 9) (hc : c < 256) :
    Calls Tryz.prog 100 #[.int .i64 (i : Int), .int .u8 (c : Int)] w fun e w' => e = .returned (.bool (!vBad i c)) ∧ w = w' := by
  go_enter Tryz.func100, Tryz.ntmps100
  go_wp2
  · have h1 : (i : Int) = 9 := by assumption
    have h2 : 1 < (c : Int) := by assumption
    go_ret
    exact ⟨ret_bool (by have : i = 9 := by omega
                        subst this; simp [vBad]; omega), rfl⟩
  · have h1 : (i : Int) = 9 := by assumption
    have h2 : (c : Int) ≤ 1 := by assumption
    go_ret
    exact ⟨ret_bool (by have : i = 9 := by omega
                        subst this
                        have : c = 0 ∨ c = 1 := by omega
                        rcases this with rfl | rfl <;> rfl), rfl⟩
  · have h1 : i = 0 := by assumption
    subst h1
    go_ret
    exact ⟨ret_bool (by simp [vBad]), rfl⟩
  · have h1 : ¬ (i : Int) = 9 := by assumption
    have h2 : ¬ i = 0 := by assumption
    go_ret
    exact ⟨ret_bool (by
      have e1 : ((i : Int) == 0) = false := by simp; omega
      have e2 : (i == 9) = false := by simp; omega
      have e3 : decide (0 < i) = true := by simp; omega
      rw [e1]; unfold vBad; rw [e2, e3]
      by_cases h : c = 0
      · subst h; rfl
      · have : ((c : Int) != 0) = true := by simp; omega
        rw [this]
        have : (c == 0) = false := by simpa using h
        rw [this]; rfl), rfl⟩

theorem pow_128 (j : Nat) : (2 : Nat) ^ (7 * j) = 128 ^ j := by rw [Nat.pow_mul]

/-- A digit is laid above the others. -/
theorem or_digit {X x j : Nat} (hX : X < 128 ^ j) (hf : x % 128 * 128 ^ j < 18446744073709551616) (hj : j ≤ 9) :
    bits .or .u64 (X : Int) (IntKind.u64.wrap ((x : Int) % 128 * 2 ^ (7 * j))) = ((X + 128 ^ j * (x % 128) : Nat) : Int) := by
  have e : ((x : Int) % 128 * 2 ^ (7 * j)) = ((x % 128 * 128 ^ j : Nat) : Int) := by
    rw [← pow_128]
    simp
  have hX' : X < 18446744073709551616 := Nat.lt_of_lt_of_le hX (Nat.le_trans (Nat.pow_le_pow_right (by omega) hj) (by omega))
  rw [e, IntKind.wrap_u64, Int.emod_eq_of_lt (by omega) (by omega), u64_or_nat X _ hX' hf]
  have := nat_join (7 * j) (x % 128 * 128 ^ j) X (by rw [pow_128]; exact Nat.mul_mod_left _ _) (by rw [pow_128]; exact hX)
  rw [Nat.or_comm, this, Nat.mul_comm, Nat.add_comm]

theorem digit_fits {x j : Nat} (hj : j ≤ 9) (hx : j = 9 → x = 1) : x % 128 * 128 ^ j < 18446744073709551616 := by
  by_cases h9 : j = 9
  · have := hx h9
    subst h9
    subst this
    omega
  · have h1 : 128 ^ j ≤ 128 ^ 8 := Nat.pow_le_pow_right (by omega) (by omega)
    have h2 : x % 128 ≤ 127 := by omega
    have := Nat.mul_le_mul h2 h1
    omega

theorem vVal_take_succ {l : List Nat} {j x : Nat} (hl : j < l.length) (hx : x = l.getD j 0) : vVal (l.take (j + 1)) = vVal (l.take j) + 128 ^ j * (x % 128) := by
  rw [List.take_succ_eq_append_getElem hl, vVal_snoc, hx]
  have e : (l.take j).length = j := by simp; omega
  rw [e]; simp [List.getD, hl]

theorem vVal_take_lt (l : List Nat) (j : Nat) : vVal (l.take j) < 128 ^ j :=
  Nat.lt_of_lt_of_le (vVal_lt _) (Nat.pow_le_pow_right (by omega) (List.length_take_le _ _))

set_option maxHeartbeats 400000 in
set_option maxRecDepth 100000 in
theorem next_any (a : Option Addr) (n c : Nat) (l : List Nat) (w : World) (h : Rd w a n l) (hn : n ≤ 1000000) :
    Calls Tryz.prog 81 #[.slice a n c] w fun e w' => e = .returned (.tuple #[.int .u64 (vNum l : Nat), .int .i64 (vLen l : Nat), .int .i64 (vErr l : Nat)]) ∧ w = w' := by
  have HR := Lib.hid h
  clear h
  go_enter Tryz.func81, Tryz.ntmps81
  go_wp2
  go_loop [5, 10] (fun x i => ∃ j : Nat, j ≤ n ∧ j ≤ 9 ∧ i = .int .i64 (j : Int) ∧ x = .int .u64 (vVal (l.take j) : Nat) ∧ vScan (l.drop j) j = vScan l 0) (fun _ i => n - (intOf i).toNat)
  case atStart => exact ⟨0, by omega, by omega, rfl, rfl, rfl⟩
  case round =>
    obtain ⟨j, hj, hj9, rfl, rfl, hs⟩ := hrel
    have HS := Lib.hid hs
    clear hs
    obtain ⟨X, hX⟩ : ∃ X, X = vVal (l.take j) := ⟨_, rfl⟩
    rw [← hX]
    have HX := Lib.hid hX
    clear hX
    by_cases hlt : j < n
    · obtain ⟨b, o, rfl, hc⟩ := HR.out.2.2 (by omega)
      have hcell := hc j hlt
      obtain ⟨x, hx⟩ : ∃ x, x = l.getD j 0 := ⟨_, rfl⟩
      rw [← hx] at hcell
      have hx256 : x < 256 := by rw [hx]; exact HR.out.2.1 _ (by have := HR.out.1; simp [List.getD, show j < l.length by omega])
      have hd : l.drop j = x :: l.drop (j + 1) := by
        have hl : j < l.length := by have := HR.out.1; omega
        rw [List.drop_eq_getElem_cons hl, hx]; simp [List.getD, hl]
      have HXX := Lib.hid hx
      have HD := Lib.hid hd
      clear hc hx hd
      by_cases hbad : vBad j x = true
      · go_wp2_with fail
        refine (allowed_any j x _ hj9 hx256).mono ?_
        rintro e w' ⟨rfl, rfl⟩
        go_wp2
        go_ret3
        have e1 : vScan l 0 = (0, 3) := by rw [← HS.out, HD.out, vScan_bad hbad]
        have e2 : vErr l = 3 := by unfold vErr; rw [e1]
        have e3 := vNum_err (l := l) (by omega)
        rw [e3.1, e3.2, e2]
        exact ⟨rfl, rfl⟩
      · have hbad' : vBad j x = false := by simpa using hbad
        clear hbad
        by_cases hx128 : x < 128
        · have hx128' : (x : Int) < 128 := by omega
          go_wp2_with fail
          refine (allowed_any j x _ hj9 hx256).mono ?_
          rintro e w' ⟨rfl, rfl⟩
          go_wp2
          go_ret3
          have hl : j < l.length := by have := HR.out.1; omega
          have e1 : vScan l 0 = (j + 1, 0) := by rw [← HS.out, HD.out, vScan_last hbad' hx128]
          have e2 : vErr l = 0 := by unfold vErr; rw [e1]
          have e3 : vLen l = j + 1 := by unfold vLen; rw [e1]
          have e4 : vNum l = X + 128 ^ j * (x % 128) := by unfold vNum; rw [e3, vVal_take_succ hl HXX.out, ← HX.out]
          have e5 := or_digit (X := X) (x := x) (j := j) (by rw [HX.out]; exact vVal_take_lt l j) (digit_fits hj9 (by rintro rfl; exact vBad_nine hbad')) hj9
          rw [e2, e3, e4, ← e5]
          exact ⟨rfl, rfl⟩
        · have hx128' : 128 ≤ (x : Int) := by omega
          go_wp2_with fail
          refine (allowed_any j x _ hj9 hx256).mono ?_
          rintro e w' ⟨rfl, rfl⟩
          go_wp2
          have h9 : j ≠ 9 := by
            rintro rfl
            have := vBad_nine hbad'
            omega
          have hl : j < l.length := by have := HR.out.1; omega
          go_round
          case rel => exact ⟨j + 1, by omega, by omega, by go_num, by
            rw [or_digit (X := X) (x := x) (j := j) (by rw [HX.out]; exact vVal_take_lt l j) (digit_fits hj9 (by omega)) hj9, vVal_take_succ hl HXX.out, ← HX.out], by
            rw [← HS.out, HD.out, vScan_more hbad' hx128]⟩
          case measure => simp [intOf]; omega
    · go_wp2
      go_ret3
      have e1 : vScan l 0 = (0, 2) := by rw [← HS.out, List.drop_eq_nil_of_le (by have := HR.out.1; omega)]; rfl
      have e2 : vErr l = 2 := by unfold vErr; rw [e1]
      have e3 := vNum_err (l := l) (by omega)
      rw [e3.1, e3.2, e2]
      exact ⟨rfl, rfl⟩

end Go.Proofs.YtaijjogjohbheaaGreat

/- A reader in memory; the contracts of Failed, Number, End, Open, over any world. -/
namespace Go.Proofs.YtaijjogjohbheaaGreat
open Go.RowKit
set_option maxRecDepth 100000

/-- The number that is read: it, the first error then, and what is left. -/
def rNum (E : Nat) (l : List Nat) (most : Nat) : Nat × Nat × List Nat :=
  if E ≠ 0 then (0, E, l) else if vErr l ≠ 0 then (0, vErr l, l) else if most < vNum l then (0, 5, l) else (vNum l, 0, l.drop (vLen l))

theorem rNum_failed {E : Nat} {l : List Nat} {most : Nat} (h : E ≠ 0) : rNum E l most = (0, E, l) := by simp [rNum, h]

theorem rNum_err {l : List Nat} {most : Nat} (h : vErr l ≠ 0) : rNum 0 l most = (0, vErr l, l) := by simp [rNum, h]

theorem rNum_long {l : List Nat} {most : Nat} (h : vErr l = 0) (h2 : most < vNum l) : rNum 0 l most = (0, 5, l) := by simp [rNum, h, h2]

theorem rNum_ok {l : List Nat} {most : Nat} (h : vErr l = 0) (h2 : ¬ most < vNum l) : rNum 0 l most = (vNum l, 0, l.drop (vLen l)) := by simp [rNum, h, h2]

/-- Block g is a reader of type T: its first error is E, the bytes l are left. -/
def Rdr (w : World) (T g E : Nat) (l : List Nat) : Prop :=
  ∃ a n c, w.heap[g]? = some (.cells #[.slice a n c, .int .i64 (E : Int)] T (0, 0)) ∧ Rd w a n l ∧ n ≤ c ∧ n ≤ 1000000

/-- Bytes that lie nowhere in a reader's own block stay, whatever happens there. -/
theorem Rd.beside {w w' : World} {T g n m c : Nat} {E : Int} {a a' : Option Addr} {l : List Nat} (h : Rd w a n l) (hg : w.heap[g]? = some (.cells #[.slice a' m c, .int .i64 E] T (0, 0))) (hw : w.grownBy w' (some g)) : Rd w' a n l := by
  refine ⟨h.1, h.2.1, fun hn => ?_⟩
  obtain ⟨b, o, rfl, hc⟩ := h.2.2 hn
  refine ⟨b, o, rfl, fun j hj => ?_⟩
  have hne : b ≠ g := by
    rintro rfl
    have h1 := hc j hj
    rw [cell_of_row w b _ _ T (0, 0) hg] at h1
    match hq : o + j with
    | 0 => simp [hq] at h1
    | 1 => simp [hq] at h1
    | q + 2 => simp [hq] at h1
  exact hw.cell (hc j hj) (by simpa using hne)

theorem Rdr.beside {w w' : World} {T g E T' g' E' : Nat} {l l' : List Nat} (h : Rdr w T g E l) (h' : Rdr w T' g' E' l') (hne : g ≠ g') (hw : w.grownBy w' (some g')) : Rdr w' T g E l := by
  obtain ⟨a, n, c, hg, hr, hc, hm⟩ := h
  obtain ⟨a', n', c', hg', _⟩ := h'
  refine ⟨a, n, c, ?_, hr.beside hg' hw, hc, hm⟩
  have hlt : g < w.heap.size := by
    rcases Nat.lt_or_ge g w.heap.size with hlt | hge
    · exact hlt
    · rw [Array.getElem?_eq_none hge] at hg; cases hg
  rw [hw.block g hlt (by simpa using hne)]; exact hg

theorem Rdr.fail {w : World} {T g n c : Nat} {a : Option Addr} {l : List Nat} {E0 : Int} (E : Nat) (hg : w.heap[g]? = some (.cells #[.slice a n c, .int .i64 E0] T (0, 0))) (hr : Rd w a n l) (hc : n ≤ c) (hm : n ≤ 1000000) :
    Rdr (w.setCell ⟨g, 1, none⟩ (.int .i64 (E : Int))) T g E l :=
  ⟨a, n, c, by simpa using heap_setCell_same w g 1 _ T (.int .i64 (E : Int)) hg, hr.beside hg (grown_set w g 1 _), hc, hm⟩

theorem Rdr.move {w : World} {T g n c k : Nat} {a : Option Addr} {l : List Nat} {E : Nat} (hk : k ≤ n) (hg : w.heap[g]? = some (.cells #[.slice a n c, .int .i64 (E : Int)] T (0, 0))) (hr : Rd w a n l) (hc : n ≤ c) (hm : n ≤ 1000000) :
    Rdr (w.setCell ⟨g, 0, none⟩ (.slice (cutA a c k) (n - k) (c - k))) T g E (l.drop k) :=
  ⟨_, _, _, by simpa using heap_setCell_same w g 0 _ T (.slice (cutA a c k) (n - k) (c - k)) hg, (hr.cut hk hc).beside hg (grown_set w g 0 _), by omega, by omega⟩

theorem failed_any (w : World) (g E : Nat) (l : List Nat) (h : Rdr w 150 g E l) : Calls Tryz.prog 71 #[.pointer (some ⟨g, 0, none⟩)] w fun e w' => e = .returned (.int .i64 (E : Int)) ∧ w = w' := by
  obtain ⟨a, n, c, hg, _⟩ := h
  have h1 : w.cell? ⟨g, 1, none⟩ = some (.int .i64 (E : Int)) := by rw [cell_of_row w g 1 _ 150 (0, 0) hg]; rfl
  clear hg
  go_enter Tryz.func71, Tryz.ntmps71
  go_wp2
  go_ret
  exact ⟨rfl, rfl⟩

set_option maxHeartbeats 400000 in
theorem number_any (w : World) (g E : Nat) (l : List Nat) (most : Nat) (h : Rdr w 150 g E l) :
    Calls Tryz.prog 48 #[.pointer (some ⟨g, 0, none⟩), .int .u64 (most : Int)] w fun e w' => e = .returned (.int .u64 ((rNum E l most).1 : Int)) ∧ Rdr w' 150 g (rNum E l most).2.1 (rNum E l most).2.2 ∧ w.grownBy w' (some g) := by
  have HR := Lib.hid h
  obtain ⟨a, n, c, hg, hr, hc, hm⟩ := h
  have h0 : w.cell? ⟨g, 0, none⟩ = some (.slice a n c) := by rw [cell_of_row w g 0 _ 150 (0, 0) hg]; rfl
  have h1 : w.cell? ⟨g, 1, none⟩ = some (.int .i64 (E : Int)) := by rw [cell_of_row w g 1 _ 150 (0, 0) hg]; rfl
  have f0 : w.frozen? ⟨g, 0, none⟩ = false := by simp [World.frozen?, hg]
  have f1 : w.frozen? ⟨g, 1, none⟩ = false := by simp [World.frozen?, hg]
  have HG := Lib.hid hg
  have HRd := Lib.hid hr
  clear hg hr
  by_cases hE : E = 0
  · subst hE
    have hN := next_any a n c l w HRd.out hm
    obtain ⟨e, he⟩ : ∃ e, e = vErr l := ⟨_, rfl⟩
    obtain ⟨K, hK⟩ : ∃ K, K = vLen l := ⟨_, rfl⟩
    obtain ⟨X, hX⟩ : ∃ X, X = vNum l := ⟨_, rfl⟩
    rw [← he, ← hK, ← hX] at hN
    have HN := Lib.hid hN
    have HE := Lib.hid he
    have HK := Lib.hid hK
    have HX := Lib.hid hX
    clear hN he hK hX
    by_cases hz : e = 0
    · subst hz
      have hKn : K ≤ n := by
        have := (vOne HRd.out.2.1 HE.out.symm).2.2.2.1
        have h2 := HRd.out.1
        have h3 := HK.out
        omega
      have hs := fun W => slice_from a n c K .i64 hKn W
      by_cases hlong : most < X
      · have hlong' : (most : Int) < (X : Int) := by omega
        go_enter Tryz.func48, Tryz.ntmps48
        go_wp2_with fail
        refine (failed_any w g 0 l HR.out).mono ?_
        rintro e w' ⟨rfl, rfl⟩
        go_wp2_with fail
        refine HN.out.mono ?_
        rintro e w' ⟨rfl, rfl⟩
        go_wp2
        go_ret
        rw [rNum_long HE.out.symm (by rw [← HX.out]; exact hlong)]
        exact ⟨rfl, Rdr.fail 5 HG.out HRd.out hc hm, grown_set _ _ _ _⟩
      · have hlong' : (X : Int) ≤ (most : Int) := by omega
        go_enter Tryz.func48, Tryz.ntmps48
        go_wp2_with fail
        refine (failed_any w g 0 l HR.out).mono ?_
        rintro e w' ⟨rfl, rfl⟩
        go_wp2_with fail
        refine HN.out.mono ?_
        rintro e w' ⟨rfl, rfl⟩
        go_wp2
        go_ret
        rw [rNum_ok HE.out.symm (by rw [← HX.out]; exact hlong), ← HX.out, ← HK.out]
        exact ⟨rfl, Rdr.move hKn HG.out HRd.out hc hm, grown_set _ _ _ _⟩
    · have hz1 : ((e : Int) == 0) = false := by simp; omega
      have hz2 : ((e : Int) != 0) = true := by simp; omega
      go_enter Tryz.func48, Tryz.ntmps48
      go_wp2_with fail
      refine (failed_any w g 0 l HR.out).mono ?_
      rintro e w' ⟨rfl, rfl⟩
      go_wp2_with fail
      refine HN.out.mono ?_
      rintro e w' ⟨rfl, rfl⟩
      go_wp2
      go_ret
      rw [rNum_err (by rw [← HE.out]; exact hz), ← HE.out]
      exact ⟨rfl, Rdr.fail _ HG.out HRd.out hc hm, grown_set _ _ _ _⟩
  · have hE' : ((E : Int) != 0) = true := by simp; omega
    go_enter Tryz.func48, Tryz.ntmps48
    go_wp2_with fail
    refine (failed_any w g E l HR.out).mono ?_
    rintro e w' ⟨rfl, rfl⟩
    go_wp2
    go_ret
    rw [rNum_failed hE]
    exact ⟨rfl, HR.out, World.grownBy.refl _ _⟩

/-- The end's error. -/
def rEnd (E : Nat) (l : List Nat) : Nat := if E ≠ 0 then E else if l = [] then 0 else 5

set_option maxHeartbeats 400000 in
theorem end_any (w : World) (g E : Nat) (l : List Nat) (h : Rdr w 150 g E l) : Calls Tryz.prog 49 #[.pointer (some ⟨g, 0, none⟩)] w fun e w' => e = .returned (.int .i64 (rEnd E l : Int)) ∧ w = w' := by
  have HR := Lib.hid h
  obtain ⟨a, n, c, hg, hr, hc, hm⟩ := h
  have h0 : w.cell? ⟨g, 0, none⟩ = some (.slice a n c) := by rw [cell_of_row w g 0 _ 150 (0, 0) hg]; rfl
  have HL := Lib.hid hr.1
  clear hg hr
  by_cases hE : E = 0
  · subst hE
    by_cases hn : n = 0
    · subst hn
      have : l = [] := List.eq_nil_of_length_eq_zero HL.out
      subst this
      go_enter Tryz.func49, Tryz.ntmps49
      go_wp2_with fail
      refine (failed_any w g 0 [] HR.out).mono ?_
      rintro e w' ⟨rfl, rfl⟩
      go_wp2
      go_ret
      exact ⟨rfl, rfl⟩
    · have hn' : 0 < (n : Int) := by omega
      have hl : l ≠ [] := by rintro rfl; have := HL.out; simp at this; omega
      have e5 : rEnd 0 l = 5 := by simp [rEnd, hl]
      rw [e5]
      clear e5
      go_enter Tryz.func49, Tryz.ntmps49
      go_wp2_with fail
      refine (failed_any w g 0 l HR.out).mono ?_
      rintro e w' ⟨rfl, rfl⟩
      go_wp2
      go_ret
      exact ⟨rfl, rfl⟩
  · have hE' : ((E : Int) != 0) = true := by simp; omega
    have e5 : rEnd E l = E := by simp [rEnd, hE]
    rw [e5]
    clear e5
    go_enter Tryz.func49, Tryz.ntmps49
    go_wp2_with fail
    refine (failed_any w g E l HR.out).mono ?_
    rintro e w' ⟨rfl, rfl⟩
    go_wp2
    go_ret
    exact ⟨rfl, rfl⟩

set_option maxHeartbeats 400000 in
theorem open_any (a : Option Addr) (n c : Nat) (l : List Nat) (w : World) (h : Rd w a n l) (hn : n ≤ 1000000) :
    Calls Tryz.prog 46 #[.slice a n c] w fun e w' => ∃ g, e = .returned (.pointer (some ⟨g, 0, none⟩)) ∧ w.heap.size ≤ g ∧ Rdr w' 150 g 0 l ∧ Below w.heap.size w w' := by
  have HR := Lib.hid h
  clear h
  go_enter Tryz.func46, Tryz.ntmps46
  go_wp2_with fail
  refine (clone_sl a n c l w HR.out hn).mono ?_
  rintro e w1 ⟨a', c', rfl, hr, hc, hb⟩
  have HRd := Lib.hid hr
  clear hr
  go_wp2
  go_ret
  exact ⟨_, rfl, hb.size, ⟨a', n, c', heap_alloc_new w1 _, HRd.out.later (Below.alloc0 _ _), hc, hn⟩, hb.alloc hb.size _⟩

/-- A reader that lies, with its bytes, from block 'lo' on. -/
def RdrLo (w : World) (T g E : Nat) (l : List Nat) (lo : Nat) : Prop :=
  ∃ a n c, w.heap[g]? = some (.cells #[.slice a n c, .int .i64 (E : Int)] T (0, 0)) ∧ Rd w a n l ∧ n ≤ c ∧ n ≤ 1000000 ∧ lo ≤ g ∧ ∀ b o, a = some ⟨b, o, none⟩ → lo ≤ b

theorem RdrLo.keep {w w' : World} {T g E lo : Nat} {l : List Nat} (h : RdrLo w T g E l lo) (hk : ∀ k, lo ≤ k → k < w.heap.size → w'.heap[k]? = w.heap[k]?) : RdrLo w' T g E l lo := by
  obtain ⟨a, n, c, hg, hr, hc, hm, hlo, hb⟩ := h
  refine ⟨a, n, c, (hk g hlo (lt_of_block hg)).trans hg, ⟨hr.1, hr.2.1, fun hn => ?_⟩, hc, hm, hlo, hb⟩
  obtain ⟨b, o, rfl, hcell⟩ := hr.2.2 hn
  refine ⟨b, o, rfl, fun j hj => ?_⟩
  exact (World.cell?_of_block (w := w) (hk b (hb b o rfl) (World.block_lt_of_cell? w _ (hcell j hj)))).trans (hcell j hj)

theorem RdrLo.rdr {w : World} {T g E lo : Nat} {l : List Nat} (h : RdrLo w T g E l lo) : Rdr w T g E l := by
  obtain ⟨a, n, c, hg, hr, hc, hm, _⟩ := h
  exact ⟨a, n, c, hg, hr, hc, hm⟩

set_option maxHeartbeats 400000 in
theorem openLo_any (a : Option Addr) (n c : Nat) (l : List Nat) (w : World) (h : Rd w a n l) (hn : n ≤ 1000000) :
    Calls Tryz.prog 46 #[.slice a n c] w fun e w' => ∃ g, e = .returned (.pointer (some ⟨g, 0, none⟩)) ∧ RdrLo w' 150 g 0 l w.heap.size ∧ Below w.heap.size w w' := by
  have hcl : Calls Tryz.prog 75 #[.slice a n c] w fun e w' => ∃ a' c', e = .returned (.slice a' n c') ∧ Rd w' a' n l ∧ n ≤ c' ∧ Below w.heap.size w w' ∧ ∀ b o, a' = some ⟨b, o, none⟩ → w.heap.size ≤ b := by
    refine (clone_any a n c l w h hn).mono ?_
    rintro e w' ⟨v, rfl, ho, hb⟩
    obtain ⟨a', c', rfl, hr, hc, hlo⟩ := ho.lies
    rw [h.1] at hr hc ⊢
    exact ⟨a', c', rfl, hr, hc, hb, hlo⟩
  have HC := Lib.hid hcl
  clear h hcl
  go_enter Tryz.func46, Tryz.ntmps46
  go_wp2_with fail
  refine HC.out.mono ?_
  rintro e w1 ⟨a', c', rfl, hr, hc, hb, hlo⟩
  have HRd := Lib.hid hr
  have HLo := Lib.hid hlo
  clear hr hlo
  go_wp2
  go_ret
  exact ⟨_, rfl, ⟨a', n, c', heap_alloc_new w1 _, HRd.out.later (Below.alloc0 _ _), hc, hn, hb.size, HLo.out⟩, hb.alloc hb.size _⟩

theorem rNum_put (x : Nat) (r : List Nat) (hx : x ≤ 18446744073709551615) : rNum 0 (vEnc x ++ r) 18446744073709551615 = (x, 0, r) := by
  obtain ⟨h1, h2, h3⟩ := vRead (n := x) r (by omega)
  rw [rNum_ok h1 (by omega), h2, h3]
  simp

end Go.Proofs.YtaijjogjohbheaaGreat

/- A reader that lies, with its bytes, below a block; the contract of Number there; over any world. -/
namespace Go.Proofs.YtaijjogjohbheaaGreat
open Go.RowKit
set_option maxRecDepth 100000

/-- A reader that lies, with its bytes, below block B. -/
def RdrHi (w : World) (T g E : Nat) (l : List Nat) (B : Nat) : Prop :=
  ∃ a n c, w.heap[g]? = some (.cells #[.slice a n c, .int .i64 (E : Int)] T (0, 0)) ∧ Rd w a n l ∧ n ≤ c ∧ n ≤ 1000000 ∧ g < B ∧ ∀ b o, a = some ⟨b, o, none⟩ → 0 < n → b < B

theorem RdrHi.rdr {w : World} {T g E B : Nat} {l : List Nat} (h : RdrHi w T g E l B) : Rdr w T g E l := by
  obtain ⟨a, n, c, hg, hr, hc, hm, _⟩ := h
  exact ⟨a, n, c, hg, hr, hc, hm⟩

theorem Rdr.hi {w : World} {T g E : Nat} {l : List Nat} (h : Rdr w T g E l) : RdrHi w T g E l w.heap.size := by
  obtain ⟨a, n, c, hg, hr, hc, hm⟩ := h
  refine ⟨a, n, c, hg, hr, hc, hm, lt_of_block hg, ?_⟩
  rintro b o rfl hn
  obtain ⟨b', o', he, hcell⟩ := hr.2.2 hn
  injection he with he
  injection he with e1 e2
  subst e1
  exact World.block_lt_of_cell? w _ (hcell 0 hn)

theorem RdrHi.below {w w' : World} {T g E B : Nat} {l : List Nat} (h : RdrHi w T g E l B) (hb : Below B w w') : RdrHi w' T g E l B := by
  obtain ⟨a, n, c, hg, hr, hc, hm, hgB, hbB⟩ := h
  refine ⟨a, n, c, (hb.block g hgB).trans hg, ⟨hr.1, hr.2.1, fun hn => ?_⟩, hc, hm, hgB, hbB⟩
  obtain ⟨b, o, rfl, hcell⟩ := hr.2.2 hn
  exact ⟨b, o, rfl, fun j hj => (hb.cell (p := ⟨b, o + j, none⟩) (hbB b o rfl hn)).trans (hcell j hj)⟩

theorem RdrHi.fail {w : World} {T g n c B : Nat} {a : Option Addr} {l : List Nat} {E0 : Int} (E : Nat) (hg : w.heap[g]? = some (.cells #[.slice a n c, .int .i64 E0] T (0, 0))) (hr : Rd w a n l) (hc : n ≤ c) (hm : n ≤ 1000000) (hB : g < B ∧ ∀ b o, a = some ⟨b, o, none⟩ → 0 < n → b < B) :
    RdrHi (w.setCell ⟨g, 1, none⟩ (.int .i64 (E : Int))) T g E l B :=
  ⟨a, n, c, by simpa using heap_setCell_same w g 1 _ T (.int .i64 (E : Int)) hg, hr.beside hg (grown_set w g 1 _), hc, hm, hB.1, hB.2⟩

theorem RdrHi.move {w : World} {T g n c k B : Nat} {a : Option Addr} {l : List Nat} {E : Nat} (hk : k ≤ n) (hg : w.heap[g]? = some (.cells #[.slice a n c, .int .i64 (E : Int)] T (0, 0))) (hr : Rd w a n l) (hc : n ≤ c) (hm : n ≤ 1000000) (hB : g < B ∧ ∀ b o, a = some ⟨b, o, none⟩ → 0 < n → b < B) :
    RdrHi (w.setCell ⟨g, 0, none⟩ (.slice (cutA a c k) (n - k) (c - k))) T g E (l.drop k) B := by
  refine ⟨_, _, _, by simpa using heap_setCell_same w g 0 _ T (.slice (cutA a c k) (n - k) (c - k)) hg, (hr.cut hk hc).beside hg (grown_set w g 0 _), by omega, by omega, hB.1, ?_⟩
  intro b o he hn
  unfold cutA at he
  rw [if_neg (by omega)] at he
  cases a with
  | none => simp at he
  | some ad =>
    obtain ⟨b', o', f'⟩ := ad
    obtain ⟨b2, o2, h2, _⟩ := hr.2.2 (by omega)
    injection h2 with h2
    rw [h2] at he
    simp only [Option.map_some, add_plain] at he
    injection he with he
    injection he with e1 e2
    subst e1
    exact hB.2 b2 o2 (by rw [h2]) (by omega)

set_option maxHeartbeats 400000 in
theorem numberHi_any (w : World) (g E : Nat) (l : List Nat) (most : Nat) (B : Nat) (h : RdrHi w 150 g E l B) :
    Calls Tryz.prog 48 #[.pointer (some ⟨g, 0, none⟩), .int .u64 (most : Int)] w fun e w' => e = .returned (.int .u64 ((rNum E l most).1 : Int)) ∧ RdrHi w' 150 g (rNum E l most).2.1 (rNum E l most).2.2 B ∧ w.grownBy w' (some g) := by
  have HR := Lib.hid h
  obtain ⟨a, n, c, hg, hr, hc, hm, hgB, hbB⟩ := h
  have HHi := Lib.hid (And.intro hgB hbB)
  have h0 : w.cell? ⟨g, 0, none⟩ = some (.slice a n c) := by rw [cell_of_row w g 0 _ 150 (0, 0) hg]; rfl
  have h1 : w.cell? ⟨g, 1, none⟩ = some (.int .i64 (E : Int)) := by rw [cell_of_row w g 1 _ 150 (0, 0) hg]; rfl
  have f0 : w.frozen? ⟨g, 0, none⟩ = false := by simp [World.frozen?, hg]
  have f1 : w.frozen? ⟨g, 1, none⟩ = false := by simp [World.frozen?, hg]
  have HG := Lib.hid hg
  have HRd := Lib.hid hr
  clear hg hr hgB hbB
  by_cases hE : E = 0
  · subst hE
    have hN := next_any a n c l w HRd.out hm
    obtain ⟨e, he⟩ : ∃ e, e = vErr l := ⟨_, rfl⟩
    obtain ⟨K, hK⟩ : ∃ K, K = vLen l := ⟨_, rfl⟩
    obtain ⟨X, hX⟩ : ∃ X, X = vNum l := ⟨_, rfl⟩
    rw [← he, ← hK, ← hX] at hN
    have HN := Lib.hid hN
    have HE := Lib.hid he
    have HK := Lib.hid hK
    have HX := Lib.hid hX
    clear hN he hK hX
    by_cases hz : e = 0
    · subst hz
      have hKn : K ≤ n := by
        have := (vOne HRd.out.2.1 HE.out.symm).2.2.2.1
        have h2 := HRd.out.1
        have h3 := HK.out
        omega
      have hs := fun W => slice_from a n c K .i64 hKn W
      by_cases hlong : most < X
      · have hlong' : (most : Int) < (X : Int) := by omega
        go_enter Tryz.func48, Tryz.ntmps48
        go_wp2_with fail
        refine (failed_any w g 0 l HR.out.rdr).mono ?_
        rintro e w' ⟨rfl, rfl⟩
        go_wp2_with fail
        refine HN.out.mono ?_
        rintro e w' ⟨rfl, rfl⟩
        go_wp2
        go_ret
        rw [rNum_long HE.out.symm (by rw [← HX.out]; exact hlong)]
        exact ⟨rfl, RdrHi.fail 5 HG.out HRd.out hc hm HHi.out, grown_set _ _ _ _⟩
      · have hlong' : (X : Int) ≤ (most : Int) := by omega
        go_enter Tryz.func48, Tryz.ntmps48
        go_wp2_with fail
        refine (failed_any w g 0 l HR.out.rdr).mono ?_
        rintro e w' ⟨rfl, rfl⟩
        go_wp2_with fail
        refine HN.out.mono ?_
        rintro e w' ⟨rfl, rfl⟩
        go_wp2
        go_ret
        rw [rNum_ok HE.out.symm (by rw [← HX.out]; exact hlong), ← HX.out, ← HK.out]
        exact ⟨rfl, RdrHi.move hKn HG.out HRd.out hc hm HHi.out, grown_set _ _ _ _⟩
    · have hz1 : ((e : Int) == 0) = false := by simp; omega
      have hz2 : ((e : Int) != 0) = true := by simp; omega
      go_enter Tryz.func48, Tryz.ntmps48
      go_wp2_with fail
      refine (failed_any w g 0 l HR.out.rdr).mono ?_
      rintro e w' ⟨rfl, rfl⟩
      go_wp2_with fail
      refine HN.out.mono ?_
      rintro e w' ⟨rfl, rfl⟩
      go_wp2
      go_ret
      rw [rNum_err (by rw [← HE.out]; exact hz), ← HE.out]
      exact ⟨rfl, RdrHi.fail _ HG.out HRd.out hc hm HHi.out, grown_set _ _ _ _⟩
  · have hE' : ((E : Int) != 0) = true := by simp; omega
    go_enter Tryz.func48, Tryz.ntmps48
    go_wp2_with fail
    refine (failed_any w g E l HR.out.rdr).mono ?_
    rintro e w' ⟨rfl, rfl⟩
    go_wp2
    go_ret
    rw [rNum_failed hE]
    exact ⟨rfl, HR.out, World.grownBy.refl _ _⟩

theorem rNum_le (E : Nat) (l : List Nat) (most : Nat) : (rNum E l most).1 ≤ most := by
  unfold rNum
  split
  · simp
  · split
    · simp
    · split
      · simp
      · simp only; omega

theorem rNum_lt {l : List Nat} {most : Nat} (hb : ∀ x ∈ l, x < 256) (h : (rNum 0 l most).2.1 = 0) : (rNum 0 l most).2.2.length < l.length := by
  unfold rNum at h ⊢
  rw [if_neg (by omega)] at h ⊢
  by_cases h1 : vErr l ≠ 0
  · rw [if_pos h1] at h
    exact absurd h h1
  · rw [if_neg h1] at h ⊢
    have h1' : vErr l = 0 := by omega
    obtain ⟨_, g2, _, g4, _⟩ := vOne hb h1'
    split at h
    · simp at h
    · rename_i h3
      rw [if_neg h3]
      simp only [List.length_drop]
      omega

theorem rNum_bytes {E : Nat} {l : List Nat} {most : Nat} (hb : ∀ x ∈ l, x < 256) : ∀ x ∈ (rNum E l most).2.2, x < 256 := by
  unfold rNum
  split
  · exact hb
  · split
    · exact hb
    · split
      · exact hb
      · intro x hx; exact hb x (List.mem_of_mem_drop hx)

theorem rNum_err0 {E : Nat} {l : List Nat} {most : Nat} (h : E ≠ 0) : (rNum E l most).2.1 = E := by rw [rNum_failed h]

theorem rNum_zero {E : Nat} {l : List Nat} {most : Nat} (h : (rNum E l most).2.1 ≠ 0) : (rNum E l most).1 = 0 := by
  unfold rNum at h ⊢
  split
  · rfl
  · split
    · rfl
    · split
      · rfl
      · rename_i h1 h2 h3
        rw [if_neg h1, if_neg h2, if_neg h3] at h
        exact absurd rfl h

end Go.Proofs.YtaijjogjohbheaaGreat

/- The contract of extent.Read, over any world; what it reads, plainly. -/
namespace Go.Proofs.YtaijjogjohbheaaGreat
open Go.RowKit
set_option maxRecDepth 100000

/-- The runs that are read: the error, the runs, the reader's error, and what is left. -/
def rdRuns (m : Nat) : Nat → Nat → List Rn → List Nat → Nat × List Rn × Nat × List Nat
  | 0, _, acc, l => (0, acc, 0, l)
  | k + 1, last, acc, l =>
    if (rNum (rNum 0 l (m - last)).2.1 (rNum 0 l (m - last)).2.2 (m - (last + (rNum 0 l (m - last)).1))).2.1 ≠ 0 then ((rNum (rNum 0 l (m - last)).2.1 (rNum 0 l (m - last)).2.2 (m - (last + (rNum 0 l (m - last)).1))).2.1, [], (rNum (rNum 0 l (m - last)).2.1 (rNum 0 l (m - last)).2.2 (m - (last + (rNum 0 l (m - last)).1))).2.1, (rNum (rNum 0 l (m - last)).2.1 (rNum 0 l (m - last)).2.2 (m - (last + (rNum 0 l (m - last)).1))).2.2)
    else if (rNum (rNum 0 l (m - last)).2.1 (rNum 0 l (m - last)).2.2 (m - (last + (rNum 0 l (m - last)).1))).1 = 0 ∨ (0 < acc.length ∧ (rNum 0 l (m - last)).1 = 0) then (3, [], 0, (rNum (rNum 0 l (m - last)).2.1 (rNum 0 l (m - last)).2.2 (m - (last + (rNum 0 l (m - last)).1))).2.2)
    else rdRuns m k (last + (rNum 0 l (m - last)).1 + (rNum (rNum 0 l (m - last)).2.1 (rNum 0 l (m - last)).2.2 (m - (last + (rNum 0 l (m - last)).1))).1) (acc ++ [⟨((last + (rNum 0 l (m - last)).1 : Nat) : Int), ((last + (rNum 0 l (m - last)).1 + (rNum (rNum 0 l (m - last)).2.1 (rNum 0 l (m - last)).2.2 (m - (last + (rNum 0 l (m - last)).1))).1 : Nat) : Int)⟩]) (rNum (rNum 0 l (m - last)).2.1 (rNum 0 l (m - last)).2.2 (m - (last + (rNum 0 l (m - last)).1))).2.2

theorem rdRuns_err {m k last : Nat} {acc : List Rn} {l l1 l2 : List Nat} {x y E1 E2 : Nat} (h1 : rNum 0 l (m - last) = (x, E1, l1)) (h2 : rNum E1 l1 (m - (last + x)) = (y, E2, l2)) (hE : E2 ≠ 0) : rdRuns m (k + 1) last acc l = (E2, [], E2, l2) := by
  simp only [rdRuns, h1, h2]
  rw [if_pos hE]

theorem rdRuns_form {m k last : Nat} {acc : List Rn} {l l1 l2 : List Nat} {x y E1 : Nat} (h1 : rNum 0 l (m - last) = (x, E1, l1)) (h2 : rNum E1 l1 (m - (last + x)) = (y, 0, l2)) (hE : y = 0 ∨ (0 < acc.length ∧ x = 0)) : rdRuns m (k + 1) last acc l = (3, [], 0, l2) := by
  simp only [rdRuns, h1, h2]
  rw [if_neg (by omega), if_pos hE]

theorem rdRuns_ok {m k last : Nat} {acc : List Rn} {l l1 l2 : List Nat} {x y E1 : Nat} (h1 : rNum 0 l (m - last) = (x, E1, l1)) (h2 : rNum E1 l1 (m - (last + x)) = (y, 0, l2)) (hE : ¬ (y = 0 ∨ (0 < acc.length ∧ x = 0))) : rdRuns m (k + 1) last acc l = rdRuns m k (last + x + y) (acc ++ [⟨((last + x : Nat) : Int), ((last + x + y : Nat) : Int)⟩]) l2 := by
  simp only [rdRuns, h1, h2]
  rw [if_neg (by omega), if_neg hE]

/-- The set that is read: the error, the runs, the reader's error, and what is left. -/
def rdSet (E : Nat) (l : List Nat) (m : Nat) : Nat × List Rn × Nat × List Nat :=
  if (rNum E l m).2.1 ≠ 0 then ((rNum E l m).2.1, [], (rNum E l m).2.1, (rNum E l m).2.2) else rdRuns m (rNum E l m).1 0 [] (rNum E l m).2.2

theorem rdSet_err {E m x E1 : Nat} {l l1 : List Nat} (h : rNum E l m = (x, E1, l1)) (hE : E1 ≠ 0) : rdSet E l m = (E1, [], E1, l1) := by
  simp only [rdSet, h]
  rw [if_pos hE]

theorem rdSet_ok {E m x : Nat} {l l1 : List Nat} (h : rNum E l m = (x, 0, l1)) : rdSet E l m = rdRuns m x 0 [] l1 := by
  simp only [rdSet, h]
  rw [if_neg (by omega)]

theorem grownBy_of_belowB {w w' : World} {B g : Nat} {w0 : World} (h0 : w0.grownBy w (some g)) (hB : B = w0.heap.size) (h : Below B w w') : w0.grownBy w' (some g) := by
  subst hB
  exact ⟨h.os.trans h0.os, h.tape.trans h0.tape, h.output.trans h0.output, Nat.le_trans h0.size h.size, fun k hk hne => (h.block k hk).trans (h0.block k hk hne)⟩

theorem OwnR.beside {w w' : World} {base T g : Nat} {v : Value} {L : List Rn} (h : OwnR w base T v L) (hg : w.grownBy w' (some g)) (hgb : g < base) : OwnR w' base T v L := by
  refine World.ownsRow.kept h hg ?_
  cases hv : v.ownBlock with
  | none => exact .inl rfl
  | some k =>
    refine .inr ?_
    intro e
    injection e with e
    have := h.base k hv
    omega

set_option maxHeartbeats 4000000 in
set_option maxRecDepth 100000 in
theorem read_any (w : World) (g E : Nat) (l : List Nat) (k : Int) (m : Nat) (hk : max k 0 = (m : Int)) (hm : m ≤ 1099511627776) (h : Rdr w 150 g E l) :
    Calls Tryz.prog 77 #[.pointer (some ⟨g, 0, none⟩), .int .i64 k] w fun e w' => ∃ v, e = .returned (.tuple #[v, .int .i64 ((rdSet E l m).1 : Int)]) ∧ OwnR w' w.heap.size 67 v (rdSet E l m).2.1 ∧ RdrHi w' 150 g (rdSet E l m).2.2.1 (rdSet E l m).2.2.2 w.heap.size ∧ w.grownBy w' (some g) := by
  obtain ⟨i0, hi0, hz0, hz1, hz2⟩ := info_parts info_run
  have hgB := h.hi
  have hN := numberHi_any w g E l m w.heap.size hgB
  obtain ⟨⟨N, E1, l1⟩, hN1⟩ : ∃ p, p = rNum E l m := ⟨_, rfl⟩
  rw [← hN1] at hN
  dsimp only at hN
  have HN1 := Lib.hid hN1.symm
  have hNm : N ≤ m := by have := rNum_le E l m; rw [← hN1] at this; exact this
  have hgl : g < w.heap.size := by
    obtain ⟨a, n, c, hg, _⟩ := h
    exact lt_of_block hg
  have HBy : Hid (∀ x ∈ l1, x < 256) := Lib.hid (by
    have := rNum_bytes (E := E) (l := l) (most := m) (by obtain ⟨a, n, c, _, hr, _⟩ := h; exact hr.2.1)
    rw [← hN1] at this
    exact this)
  have HL0 : Hid (l1.length ≤ 1000000) := Lib.hid (by
    have h1 : (rNum E l m).2.2.length ≤ l.length := by
      unfold rNum
      split
      · exact Nat.le_refl _
      · split
        · exact Nat.le_refl _
        · split
          · exact Nat.le_refl _
          · simp
    rw [← hN1] at h1
    obtain ⟨a, n, c, _, hr, _, hm'⟩ := h
    have := hr.1
    simp only at h1
    omega)
  have HN : Hid (∀ x : Int, x = m → Calls Tryz.prog 48 #[.pointer (some ⟨g, 0, none⟩), .int .u64 x] w fun e w' => e = .returned (.int .u64 (N : Int)) ∧ RdrHi w' 150 g E1 l1 w.heap.size ∧ w.grownBy w' (some g)) := by
    intro x hx
    rw [hx]; exact hN
  obtain ⟨B, hB⟩ : ∃ B, B = w.heap.size := ⟨_, rfl⟩
  rw [← hB] at HN hgl ⊢
  obtain ⟨R, hR⟩ : ∃ R, R = rdSet E l m := ⟨_, rfl⟩
  rw [← hR]
  have HR := Lib.hid hR
  have HB := Lib.hid hB
  clear hN hN1 hgB hR hB
  go_enter Tryz.func77, Tryz.ntmps77
  go_wp2_with fail
  refine (HN.out _ (by omega)).mono ?_
  rintro e w1 ⟨rfl, hr1, hg1⟩
  have HR1 := Lib.hid hr1
  have HG1 := Lib.hid hg1
  clear hr1 hg1 HN h
  by_cases hE1 : E1 = 0
  · subst hE1
    have HRs : Hid (R = rdRuns m N 0 [] l1) := Lib.hid (by rw [HR.out, rdSet_ok HN1.out])
    clear HR
    go_wp2
    go_loopg [6, 7, 17] N (fun k s la i wr => ∃ (j last : Nat) (acc : List Rn) (l2 : List Nat) (sv : Value), sv = s ∧ k = N - j ∧ j ≤ N ∧ i = .int .u64 (j : Int) ∧ la = .int .i64 (last : Int) ∧ last ≤ m ∧ Hid (OwnR wr B 67 sv acc) ∧ Hid (RdrHi wr 150 g 0 l2 B) ∧ Hid (w.grownBy wr (some g)) ∧ Hid (acc.length + l2.length ≤ l1.length) ∧ Hid (∀ x ∈ l2, x < 256) ∧ Hid (R = rdRuns m (N - j) last acc l2))
    case atStart => exact ⟨0, 0, [], l1, _, rfl, rfl, Nat.zero_le _, rfl, rfl, Nat.zero_le _, Lib.hid (OwnR.nil _ _ _), HR1, HG1, Lib.hid (by simp), HBy, HRs⟩
    case round =>
      obtain ⟨j, last, acc, l2, sv, rfl, hkk, hj, rfl, rfl, hlm, HO, HRr, HGr, HLn, HB2, HE⟩ := hrel
      have HK := Lib.hid hkk
      clear hkk
      by_cases hlt : j < N
      · have hN2 := numberHi_any wr g 0 l2 (m - last) B HRr.out
        obtain ⟨⟨x, E2, l3⟩, hx⟩ : ∃ p, p = rNum 0 l2 (m - last) := ⟨_, rfl⟩
        rw [← hx] at hN2
        dsimp only at hN2
        have hxm : x ≤ m - last := by have := rNum_le 0 l2 (m - last); rw [← hx] at this; exact this
        have HX := Lib.hid hx.symm
        have HN2 : Hid (∀ z : Int, z = (m : Int) - (last : Int) → Calls Tryz.prog 48 #[.pointer (some ⟨g, 0, none⟩), .int .u64 z] wr fun e w' => e = .returned (.int .u64 (x : Int)) ∧ RdrHi w' 150 g E2 l3 B ∧ wr.grownBy w' (some g)) := by
          intro z hz
          rw [hz, show (m : Int) - (last : Int) = ((m - last : Nat) : Int) by omega]; exact hN2
        have HB3 : Hid (∀ z ∈ l3, z < 256) := Lib.hid (by have := rNum_bytes (E := 0) (most := m - last) HB2.out; rw [← hx] at this; exact this)
        have HL3 : Hid (E2 = 0 → l3.length < l2.length) := Lib.hid (by
          intro h0
          have := rNum_lt (l := l2) (most := m - last) HB2.out
          rw [← hx] at this
          exact this h0)
        clear hN2 hx
        have hxm2 : last + x ≤ m := by omega
        go_wp2_with fail
        refine (HN2.out _ (by omega)).mono ?_
        rintro e w2 ⟨rfl, hr2, hg2⟩
        have hN3 := numberHi_any w2 g E2 l3 (m - (last + x)) B hr2
        obtain ⟨⟨y, E3, l4⟩, hy⟩ : ∃ p, p = rNum E2 l3 (m - (last + x)) := ⟨_, rfl⟩
        rw [← hy] at hN3
        dsimp only at hN3
        have hym : y ≤ m - (last + x) := by have := rNum_le E2 l3 (m - (last + x)); rw [← hy] at this; exact this
        have HY := Lib.hid hy.symm
        have HN3 : Hid (∀ z : Int, z = (m : Int) - ((last : Int) + (x : Int)) → Calls Tryz.prog 48 #[.pointer (some ⟨g, 0, none⟩), .int .u64 z] w2 fun e w' => e = .returned (.int .u64 (y : Int)) ∧ RdrHi w' 150 g E3 l4 B ∧ w2.grownBy w' (some g)) := by
          intro z hz
          rw [hz, show (m : Int) - ((last : Int) + (x : Int)) = ((m - (last + x) : Nat) : Int) by omega]; exact hN3
        have HE23 : Hid (E3 = 0 → E2 = 0) := Lib.hid (by
          intro h0
          rcases Nat.eq_zero_or_pos E2 with h | h
          · exact h
          · have := rNum_err0 (E := E2) (l := l3) (most := m - (last + x)) (by omega)
            rw [← hy] at this
            simp only at this
            omega)
        have HB4 : Hid (∀ z ∈ l4, z < 256) := Lib.hid (by have := rNum_bytes (E := E2) (most := m - (last + x)) HB3.out; rw [← hy] at this; exact this)
        have HL4 : Hid (l4.length ≤ l3.length) := Lib.hid (by
          have h1 : (rNum E2 l3 (m - (last + x))).2.2.length ≤ l3.length := by
            unfold rNum
            split
            · exact Nat.le_refl _
            · split
              · exact Nat.le_refl _
              · split
                · exact Nat.le_refl _
                · simp
          rw [← hy] at h1
          exact h1)
        have HO2 := Lib.hid (HO.out.beside hg2 hgl)
        have HG2 := Lib.hid (HGr.out.trans hg2)
        clear hN3 hy hr2 hg2 HN2 HO HGr HRr
        have hym2 : last + x + y ≤ m := by omega
        go_wp2_with fail
        refine (HN3.out _ (by omega)).mono ?_
        rintro e w3 ⟨rfl, hr3, hg3⟩
        have HR3 := Lib.hid hr3
        have HO3 := Lib.hid (HO2.out.beside hg3 hgl)
        have HG3 := Lib.hid (HG2.out.trans hg3)
        clear hr3 hg3 HN3 HO2 HG2
        obtain ⟨q, hq⟩ : ∃ q, N - j = q + 1 := ⟨N - j - 1, by omega⟩
        have HQ := Lib.hid hq
        clear hq
        go_wp2_with fail
        refine (failed_any w3 g E3 l4 HR3.out.rdr).mono ?_
        rintro e w4 ⟨rfl, rfl⟩
        by_cases hE3 : E3 = 0
        · subst hE3
          have he2 : E2 = 0 := HE23.out rfl
          have hl3 := HL3.out he2
          have hlen : acc.length < 1000000 := by
            have h1 := HLn.out
            have h2 := HL0.out
            omega
          by_cases hform : y = 0 ∨ (0 < acc.length ∧ x = 0)
          · have HF : Hid (R = (3, [], 0, l4)) := Lib.hid (by rw [HE.out, HQ.out, rdRuns_form HX.out HY.out hform])
            obtain ⟨a1, c1, hv, _⟩ := HO3.out.rd
            subst hv
            rcases hform with rfl | ⟨ha, rfl⟩
            · go_wp2
              go_ret2
              rw [HF.out]
              exact ⟨_, rfl, OwnR.nil _ _ _, HR3.out, HG3.out⟩
            · by_cases hy0 : y = 0
              · subst hy0
                go_wp2
                go_ret2
                rw [HF.out]
                exact ⟨_, rfl, OwnR.nil _ _ _, HR3.out, HG3.out⟩
              · have hy1 : ((y : Int) == 0) = false := by simp; omega
                have ha' : (0 : Int) < (acc.length : Int) := by omega
                go_wp2
                go_ret2
                rw [HF.out]
                exact ⟨_, rfl, OwnR.nil _ _ _, HR3.out, HG3.out⟩
          · have HF : Hid (R = rdRuns m q (last + x + y) (acc ++ [⟨((last + x : Nat) : Int), ((last + x + y : Nat) : Int)⟩]) l4) := Lib.hid (by rw [HE.out, HQ.out, rdRuns_ok HX.out HY.out hform])
            have hy0 : y ≠ 0 := fun h => hform (.inl h)
            have hcase : acc.length = 0 ∨ (0 < acc.length ∧ x ≠ 0) := by
              rcases Nat.eq_zero_or_pos acc.length with h | h
              · exact .inl h
              · exact .inr ⟨h, fun h2 => hform (.inr ⟨h, h2⟩)⟩
            have hy1 : ((y : Int) == 0) = false := by simp; omega
            have HLE : Hid ((acc ++ [(⟨((last + x : Nat) : Int), ((last + x + y : Nat) : Int)⟩ : Rn)]).length + l4.length ≤ l1.length) := Lib.hid (by
              have h1 := HLn.out
              have h2 := HL4.out
              simp only [List.length_append, List.length_cons, List.length_nil]
              omega)
            have hBs : B ≤ w3.heap.size := by have h1 := HG3.out.size; have h2 := HB.out; omega
            obtain ⟨a1, c1, hv, _⟩ := HO3.out.rd
            subst hv
            obtain ⟨p, hp⟩ : ∃ p, p = last + x := ⟨_, rfl⟩
            obtain ⟨t, ht⟩ : ∃ t, t = last + x + y := ⟨_, rfl⟩
            have hp' : (last : Int) + (x : Int) = (p : Int) := by omega
            have ht' : (p : Int) + (y : Int) = (t : Int) := by omega
            have htm : t ≤ m := by omega
            rw [← ht] at HF HLE
            rw [← hp] at HF HLE
            have HHid := Lib.hid (And.intro hp ht)
            clear hform hp ht
            rcases hcase with hac | ⟨hac, hx0⟩
            · have ha0 : acc = [] := List.eq_nil_of_length_eq_zero hac
              subst ha0
              simp only [List.length_nil] at HO3 ⊢
              go_wp2_with (at_builtin; have _t := hy1; refine wpList_append_own_at _ rfl (.tmp 55) (.tmp 59) 59 rfl B 67 i0 _ 2 16 Tryz.underlying59 hi0 hz0 hz1 hz2 rfl (by omega) _ 0 (cR []) rfl (HO3.out.kept (Below.alloc0 _ _)) ⟨w3.heap.size, 0, none⟩ 1 1 (cR [⟨(p : Int), (t : Int)⟩]) rfl ?hlen (World.news_of_block (cs := #[.int .i64 (p : Int), .int .i64 (t : Int)]) (t := 67) (fr := (0, 0)) (heap_alloc_new w3 _)) ?one ?h63 ?hby ?hbase ?next)
              case hlen => rfl
              case one => exact cR_one _
              case h63 => unfold maxLen; omega
              case hbase => first | omega | (simp; omega)
              case next =>
                intro v' w' hown hg _ _
                have HO4 : Hid (OwnR w' B 67 v' ([] ++ [⟨(p : Int), (t : Int)⟩])) := Lib.hid (OwnR.of_append rfl hown)
                have hb4 : Below B w3 w' := ((Below.refl _ _).alloc hBs _).grown hg (by first | omega | (simp; omega)) (fun k hk => (World.ownsRow.lt HO3.out k hk).1)
                have HR4 := Lib.hid (HR3.out.below hb4)
                have HG4 := Lib.hid (grownBy_of_belowB HG3.out HB.out hb4)
                clear hown hg hb4
                go_wp2
                go_roundg (N - (j + 1))
                case measure => have := HK.out; omega
                case rel => exact ⟨j + 1, t, _, l4, v', rfl, rfl, by omega, by go_num, by go_num, htm, HO4, HR4, HG4, HLE, HB4, Lib.hid (by rw [HF.out, show N - (j + 1) = q by have := HQ.out; omega])⟩
            · have hx1 : ((p : Int) == (last : Int)) = false := by simp; omega
              have hac' : (0 : Int) < (acc.length : Int) := by omega
              go_wp2_with (at_builtin; have _t := hy1; refine wpList_append_own_at _ rfl (.tmp 55) (.tmp 59) 59 rfl B 67 i0 _ 2 16 Tryz.underlying59 hi0 hz0 hz1 hz2 rfl (by omega) _ acc.length (cR acc) rfl (HO3.out.kept (Below.alloc0 _ _)) ⟨w3.heap.size, 0, none⟩ 1 1 (cR [⟨(p : Int), (t : Int)⟩]) rfl ?hlen2 (World.news_of_block (cs := #[.int .i64 (p : Int), .int .i64 (t : Int)]) (t := 67) (fr := (0, 0)) (heap_alloc_new w3 _)) ?one2 ?h632 ?hby2 ?hbase2 ?next2)
              case hlen2 => rfl
              case one2 => exact cR_one _
              case h632 => unfold maxLen; omega
              case hby2 => omega
              case hbase2 => first | omega | (simp; omega)
              case next2 =>
                intro v' w' hown hg _ _
                have HO4 : Hid (OwnR w' B 67 v' (acc ++ [⟨(p : Int), (t : Int)⟩])) := Lib.hid (OwnR.of_append rfl hown)
                have hb4 : Below B w3 w' := ((Below.refl _ _).alloc hBs _).grown hg (by first | omega | (simp; omega)) (fun k hk => (World.ownsRow.lt HO3.out k hk).1)
                have HR4 := Lib.hid (HR3.out.below hb4)
                have HG4 := Lib.hid (grownBy_of_belowB HG3.out HB.out hb4)
                clear hown hg hb4
                go_wp2
                go_roundg (N - (j + 1))
                case measure => have := HK.out; omega
                case rel => exact ⟨j + 1, t, _, l4, v', rfl, rfl, by omega, by go_num, by go_num, htm, HO4, HR4, HG4, HLE, HB4, Lib.hid (by rw [HF.out, show N - (j + 1) = q by have := HQ.out; omega])⟩
        · have hE3' : ((E3 : Int) != 0) = true := by simp; omega
          have HF : Hid (R = (E3, [], E3, l4)) := Lib.hid (by rw [HE.out, HQ.out, rdRuns_err HX.out HY.out hE3])
          go_wp2
          go_ret2
          rw [HF.out]
          exact ⟨_, rfl, OwnR.nil _ _ _, HR3.out, HG3.out⟩
      · obtain rfl : j = N := by omega
        have HF : Hid (R = (0, acc, 0, l2)) := Lib.hid (by rw [HE.out, Nat.sub_self]; rfl)
        go_wp2_with fail
        refine (failed_any wr g 0 l2 HRr.out.rdr).mono ?_
        rintro e w2 ⟨rfl, rfl⟩
        go_wp2
        go_ret2
        rw [HF.out]
        exact ⟨_, rfl, HO.out, HRr.out, HGr.out⟩
  · have hN0 : N = 0 := by have := rNum_zero (E := E) (l := l) (most := m); rw [HN1.out] at this; exact this hE1
    subst hN0
    have HRs : Hid (R = (E1, [], E1, l1)) := Lib.hid (by rw [HR.out, rdSet_err HN1.out hE1])
    clear HR
    have hE1' : ((E1 : Int) != 0) = true := by simp; omega
    go_wp2
    go_loopg [6, 7, 17] 0 (fun k s la i wr => k = 0 ∧ s = .slice none 0 0 ∧ i = .int .u64 0 ∧ wr = w1)
    case atStart => exact ⟨rfl, rfl, rfl, rfl⟩
    case round =>
      obtain ⟨_, rfl, rfl, rfl⟩ := hrel
      go_wp2_with fail
      refine (failed_any wr g E1 l1 HR1.out.rdr).mono ?_
      rintro e w2 ⟨rfl, rfl⟩
      go_wp2
      go_ret2
      rw [HRs.out]
      exact ⟨_, rfl, OwnR.nil _ _ _, HR1.out, HG1.out⟩

end Go.Proofs.YtaijjogjohbheaaGreat
