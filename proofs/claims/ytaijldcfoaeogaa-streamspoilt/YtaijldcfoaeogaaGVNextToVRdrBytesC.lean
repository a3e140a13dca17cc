/- The contract of varint.Next, over any world. -/
import Derived.Test.YtaijldcfoaeogaaGMemToOwnBlk
import Derived.Test.YtaijldcfoaeogaaMath
import Derived.Laws.BitsAllLaws
import Derived.Test.YtaijldcfoaeogaaGRcDataToClone
namespace Go.Proofs.Ytaijldcfoaeogaa
open Go.RowKit

set_option maxHeartbeats 400000 in
theorem allowed_any (i c : Nat) (w : World) (hi : i ≤ 9) (hc : c < 256) :
    Calls Try.prog 86 #[.int .i64 (i : Int), .int .u8 (c : Int)] w fun e w' => e = .returned (.bool (!vBad i c)) ∧ w = w' := by
  go_enter Try.func86, Try.ntmps86
  go_wp2
  · have h1 : (i : Int) = 9 := by assumption
    have h2 : 1 < (c : Int) := by assumption
    go_ret
    exact ⟨ret_bool (by have : i = 9 := by omega
                        subst this; simp [vBad]; omega), rfl⟩
  · have h1 : (i : Int) = 9 := by assumption
    have h2 : (c : Int) ≤ 1 := by assumption
    go_ret
    exact ⟨ret_bool (by have : i = 9 := by omega
                        subst this
                        have : c = 0 ∨ c = 1 := by omega
                        rcases this with rfl | rfl <;> rfl), rfl⟩
  · have h1 : i = 0 := by assumption
    subst h1
    go_ret
    exact ⟨ret_bool (by simp [vBad]), rfl⟩
  · have h1 : ¬ (i : Int) = 9 := by assumption
    have h2 : ¬ i = 0 := by assumption
    go_ret
    exact ⟨ret_bool (by
      have e1 : ((i : Int) == 0) = false := by simp; omega
      have e2 : (i == 9) = false := by simp; omega
      have e3 : decide (0 < i) = true := by simp; omega
      rw [e1]; unfold vBad; rw [e2, e3]
      by_cases h : c = 0
      · subst h; rfl
      · have : ((c : Int) != 0) = true := by simp; omega
        rw [this]
        have : (c == 0) = false := by simpa using h
        rw [this]; rfl), rfl⟩

theorem pow_128 (j : Nat) : (2 : Nat) ^ (7 * j) = 128 ^ j := by rw [Nat.pow_mul]

/-- A digit is laid above the others. -/
theorem or_digit {X x j : Nat} (hX : X < 128 ^ j) (hf : x % 128 * 128 ^ j < 18446744073709551616) (hj : j ≤ 9) :
    bits .or .u64 (X : Int) (IntKind.u64.wrap ((x : Int) % 128 * 2 ^ (7 * j))) = ((X + 128 ^ j * (x % 128) : Nat) : Int) := by
  have e : ((x : Int) % 128 * 2 ^ (7 * j)) = ((x % 128 * 128 ^ j : Nat) : Int) := by
    rw [← pow_128]
    simp
  have hX' : X < 18446744073709551616 := Nat.lt_of_lt_of_le hX (Nat.le_trans (Nat.pow_le_pow_right (by omega) hj) (by omega))
  rw [e, IntKind.wrap_u64, Int.emod_eq_of_lt (by omega) (by omega), u64_or_nat X _ hX' hf]
  have := nat_join (7 * j) (x % 128 * 128 ^ j) X (by rw [pow_128]; exact Nat.mul_mod_left _ _) (by rw [pow_128]; exact hX)
  rw [Nat.or_comm, this, Nat.mul_comm, Nat.add_comm]

theorem digit_fits {x j : Nat} (hj : j ≤ 9) (hx : j = 9 → x = 1) : x % 128 * 128 ^ j < 18446744073709551616 := by
  by_cases h9 : j = 9
  · have := hx h9
    subst h9
    subst this
    omega
  · have h1 : 128 ^ j ≤ 128 ^ 8 := Nat.pow_le_pow_right (by omega) (by omega)
    have h2 : x % 128 ≤ 127 := by omega
    have := Nat.mul_le_mul h2 h1
    omega

theorem vVal_take_succ {l : List Nat} {j x : Nat} (hl : j < l.length) (hx : x = l.getD j 0) : vVal (l.take (j + 1)) = vVal (l.take j) + 128 ^ j * (x % 128) := by
  rw [List.take_succ_eq_append_getElem hl, vVal_snoc, hx]
  have e : (l.take j).length = j := by simp; omega
  rw [e]; simp [List.getD, hl]

theorem vVal_take_lt (l : List Nat) (j : Nat) : vVal (l.take j) < 128 ^ j :=
  Nat.lt_of_lt_of_le (vVal_lt _) (Nat.pow_le_pow_right (by omega) (List.length_take_le _ _))

set_option maxHeartbeats 400000 in
set_option maxRecDepth 100000 in
theorem next_any (a : Option Addr) (n c : Nat) (l : List Nat) (w : World) (h : Rd w a n l) (hn : n ≤ 1000000) :
    Calls Try.prog 74 #[.slice a n c] w fun e w' => e = .returned (.tuple #[.int .u64 (vNum l : Nat), .int .i64 (vLen l : Nat), .int .i64 (vErr l : Nat)]) ∧ w = w' := by
  have HR := Lib.hid h
  clear h
  go_enter Try.func74, Try.ntmps74
  go_wp2
  go_loop [5, 10] (fun x i => ∃ j : Nat, j ≤ n ∧ j ≤ 9 ∧ i = .int .i64 (j : Int) ∧ x = .int .u64 (vVal (l.take j) : Nat) ∧ vScan (l.drop j) j = vScan l 0) (fun _ i => n - (intOf i).toNat)
  case atStart => exact ⟨0, by omega, by omega, rfl, rfl, rfl⟩
  case round =>
    obtain ⟨j, hj, hj9, rfl, rfl, hs⟩ := hrel
    have HS := Lib.hid hs
    clear hs
    obtain ⟨X, hX⟩ : ∃ X, X = vVal (l.take j) := ⟨_, rfl⟩
    rw [← hX]
    have HX := Lib.hid hX
    clear hX
    by_cases hlt : j < n
    · obtain ⟨b, o, rfl, hc⟩ := HR.out.2.2 (by omega)
      have hcell := hc j hlt
      obtain ⟨x, hx⟩ : ∃ x, x = l.getD j 0 := ⟨_, rfl⟩
      rw [← hx] at hcell
      have hx256 : x < 256 := by rw [hx]; exact HR.out.2.1 _ (by have := HR.out.1; simp [List.getD, show j < l.length by omega])
      have hd : l.drop j = x :: l.drop (j + 1) := by
        have hl : j < l.length := by have := HR.out.1; omega
        rw [List.drop_eq_getElem_cons hl, hx]; simp [List.getD, hl]
      have HXX := Lib.hid hx
      have HD := Lib.hid hd
      clear hc hx hd
      by_cases hbad : vBad j x = true
      · go_wp2_with fail
        refine (allowed_any j x _ hj9 hx256).mono ?_
        rintro e w' ⟨rfl, rfl⟩
        go_wp2
        go_ret3
        have e1 : vScan l 0 = (0, 3) := by rw [← HS.out, HD.out, vScan_bad hbad]
        have e2 : vErr l = 3 := by unfold vErr; rw [e1]
        have e3 := vNum_err (l := l) (by omega)
        rw [e3.1, e3.2, e2]
        exact ⟨rfl, rfl⟩
      · have hbad' : vBad j x = false := by simpa using hbad
        clear hbad
        by_cases hx128 : x < 128
        · have hx128' : (x : Int) < 128 := by omega
          go_wp2_with fail
          refine (allowed_any j x _ hj9 hx256).mono ?_
          rintro e w' ⟨rfl, rfl⟩
          go_wp2
          go_ret3
          have hl : j < l.length := by have := HR.out.1; omega
          have e1 : vScan l 0 = (j + 1, 0) := by rw [← HS.out, HD.out, vScan_last hbad' hx128]
          have e2 : vErr l = 0 := by unfold vErr; rw [e1]
          have e3 : vLen l = j + 1 := by unfold vLen; rw [e1]
          have e4 : vNum l = X + 128 ^ j * (x % 128) := by unfold vNum; rw [e3, vVal_take_succ hl HXX.out, ← HX.out]
          have e5 := or_digit (X := X) (x := x) (j := j) (by rw [HX.out]; exact vVal_take_lt l j) (digit_fits hj9 (by rintro rfl; exact vBad_nine hbad')) hj9
          rw [e2, e3, e4, ← e5]
          exact ⟨rfl, rfl⟩
        · have hx128' : 128 ≤ (x : Int) := by omega
          go_wp2_with fail
          refine (allowed_any j x _ hj9 hx256).mono ?_
          rintro e w' ⟨rfl, rfl⟩
          go_wp2
          have h9 : j ≠ 9 := by
            rintro rfl
            have := vBad_nine hbad'
            omega
          have hl : j < l.length := by have := HR.out.1; omega
          go_round
          case rel => exact ⟨j + 1, by omega, by omega, by go_num, by
            rw [or_digit (X := X) (x := x) (j := j) (by rw [HX.out]; exact vVal_take_lt l j) (digit_fits hj9 (by omega)) hj9, vVal_take_succ hl HXX.out, ← HX.out], by
            rw [← HS.out, HD.out, vScan_more hbad' hx128]⟩
          case measure => simp [intOf]; omega
    · go_wp2
      go_ret3
      have e1 : vScan l 0 = (0, 2) := by rw [← HS.out, List.drop_eq_nil_of_le (by have := HR.out.1; omega)]; rfl
      have e2 : vErr l = 2 := by unfold vErr; rw [e1]
      have e3 := vNum_err (l := l) (by omega)
      rw [e3.1, e3.2, e2]
      exact ⟨rfl, rfl⟩

end Go.Proofs.Ytaijldcfoaeogaa

/- A reader in memory; the contracts of Failed, Number, End, Open, over any world. -/
namespace Go.Proofs.Ytaijldcfoaeogaa
open Go.RowKit

/-- The number that is read: it, the first error then, and what is left. -/
def rNum (E : Nat) (l : List Nat) (most : Nat) : Nat × Nat × List Nat :=
  if E ≠ 0 then (0, E, l) else if vErr l ≠ 0 then (0, vErr l, l) else if most < vNum l then (0, 5, l) else (vNum l, 0, l.drop (vLen l))

theorem rNum_failed {E : Nat} {l : List Nat} {most : Nat} (h : E ≠ 0) : rNum E l most = (0, E, l) := by simp [rNum, h]

theorem rNum_err {l : List Nat} {most : Nat} (h : vErr l ≠ 0) : rNum 0 l most = (0, vErr l, l) := by simp [rNum, h]

theorem rNum_long {l : List Nat} {most : Nat} (h : vErr l = 0) (h2 : most < vNum l) : rNum 0 l most = (0, 5, l) := by simp [rNum, h, h2]

theorem rNum_ok {l : List Nat} {most : Nat} (h : vErr l = 0) (h2 : ¬ most < vNum l) : rNum 0 l most = (vNum l, 0, l.drop (vLen l)) := by simp [rNum, h, h2]

/-- Block g is a reader of type T: its first error is E, the bytes l are left. -/
def Rdr (w : World) (T g E : Nat) (l : List Nat) : Prop :=
  ∃ a n c, w.heap[g]? = some (.cells #[.slice a n c, .int .i64 (E : Int)] T (0, 0)) ∧ Rd w a n l ∧ n ≤ c ∧ n ≤ 1000000

/-- Bytes that lie nowhere in a reader's own block stay, whatever happens there. -/
theorem Rd.beside {w w' : World} {T g n m c : Nat} {E : Int} {a a' : Option Addr} {l : List Nat} (h : Rd w a n l) (hg : w.heap[g]? = some (.cells #[.slice a' m c, .int .i64 E] T (0, 0))) (hw : w.grownBy w' (some g)) : Rd w' a n l := by
  refine ⟨h.1, h.2.1, fun hn => ?_⟩
  obtain ⟨b, o, rfl, hc⟩ := h.2.2 hn
  refine ⟨b, o, rfl, fun j hj => ?_⟩
  have hne : b ≠ g := by
    rintro rfl
    have h1 := hc j hj
    rw [cell_of_row w b _ _ T (0, 0) hg] at h1
    match hq : o + j with
    | 0 => simp [hq] at h1
    | 1 => simp [hq] at h1
    | q + 2 => simp [hq] at h1
  exact hw.cell (hc j hj) (by simpa using hne)

theorem Rdr.beside {w w' : World} {T g E T' g' E' : Nat} {l l' : List Nat} (h : Rdr w T g E l) (h' : Rdr w T' g' E' l') (hne : g ≠ g') (hw : w.grownBy w' (some g')) : Rdr w' T g E l := by
  obtain ⟨a, n, c, hg, hr, hc, hm⟩ := h
  obtain ⟨a', n', c', hg', _⟩ := h'
  refine ⟨a, n, c, ?_, hr.beside hg' hw, hc, hm⟩
  have hlt : g < w.heap.size := by
    rcases Nat.lt_or_ge g w.heap.size with hlt | hge
    · exact hlt
    · rw [Array.getElem?_eq_none hge] at hg; cases hg
  rw [hw.block g hlt (by simpa using hne)]; exact hg

theorem Rdr.fail {w : World} {T g n c : Nat} {a : Option Addr} {l : List Nat} {E0 : Int} (E : Nat) (hg : w.heap[g]? = some (.cells #[.slice a n c, .int .i64 E0] T (0, 0))) (hr : Rd w a n l) (hc : n ≤ c) (hm : n ≤ 1000000) :
    Rdr (w.setCell ⟨g, 1, none⟩ (.int .i64 (E : Int))) T g E l :=
  ⟨a, n, c, by simpa using heap_setCell_same w g 1 _ T (.int .i64 (E : Int)) hg, hr.beside hg (grown_set w g 1 _), hc, hm⟩

theorem Rdr.move {w : World} {T g n c k : Nat} {a : Option Addr} {l : List Nat} {E : Nat} (hk : k ≤ n) (hg : w.heap[g]? = some (.cells #[.slice a n c, .int .i64 (E : Int)] T (0, 0))) (hr : Rd w a n l) (hc : n ≤ c) (hm : n ≤ 1000000) :
    Rdr (w.setCell ⟨g, 0, none⟩ (.slice (cutA a c k) (n - k) (c - k))) T g E (l.drop k) :=
  ⟨_, _, _, by simpa using heap_setCell_same w g 0 _ T (.slice (cutA a c k) (n - k) (c - k)) hg, (hr.cut hk hc).beside hg (grown_set w g 0 _), by omega, by omega⟩

theorem failed_any (w : World) (g E : Nat) (l : List Nat) (h : Rdr w 99 g E l) : Calls Try.prog 50 #[.pointer (some ⟨g, 0, none⟩)] w fun e w' => e = .returned (.int .i64 (E : Int)) ∧ w = w' := by
  obtain ⟨a, n, c, hg, _⟩ := h
  have h1 : w.cell? ⟨g, 1, none⟩ = some (.int .i64 (E : Int)) := by rw [cell_of_row w g 1 _ 99 (0, 0) hg]; rfl
  clear hg
  go_enter Try.func50, Try.ntmps50
  go_wp2
  go_ret
  exact ⟨rfl, rfl⟩

set_option maxHeartbeats 400000 in
theorem number_any (w : World) (g E : Nat) (l : List Nat) (most : Nat) (h : Rdr w 99 g E l) :
    Calls Try.prog 66 #[.pointer (some ⟨g, 0, none⟩), .int .u64 (most : Int)] w fun e w' => e = .returned (.int .u64 ((rNum E l most).1 : Int)) ∧ Rdr w' 99 g (rNum E l most).2.1 (rNum E l most).2.2 ∧ w.grownBy w' (some g) := by
  have HR := Lib.hid h
  obtain ⟨a, n, c, hg, hr, hc, hm⟩ := h
  have h0 : w.cell? ⟨g, 0, none⟩ = some (.slice a n c) := by rw [cell_of_row w g 0 _ 99 (0, 0) hg]; rfl
  have h1 : w.cell? ⟨g, 1, none⟩ = some (.int .i64 (E : Int)) := by rw [cell_of_row w g 1 _ 99 (0, 0) hg]; rfl
  have f0 : w.frozen? ⟨g, 0, none⟩ = false := by simp [World.frozen?, hg]
  have f1 : w.frozen? ⟨g, 1, none⟩ = false := by simp [World.frozen?, hg]
  have HG := Lib.hid hg
  have HRd := Lib.hid hr
  clear hg hr
  by_cases hE : E = 0
  · subst hE
    have hN := next_any a n c l w HRd.out hm
    obtain ⟨e, he⟩ : ∃ e, e = vErr l := ⟨_, rfl⟩
    obtain ⟨K, hK⟩ : ∃ K, K = vLen l := ⟨_, rfl⟩
    obtain ⟨X, hX⟩ : ∃ X, X = vNum l := ⟨_, rfl⟩
    rw [← he, ← hK, ← hX] at hN
    have HN := Lib.hid hN
    have HE := Lib.hid he
    have HK := Lib.hid hK
    have HX := Lib.hid hX
    clear hN he hK hX
    by_cases hz : e = 0
    · subst hz
      have hKn : K ≤ n := by
        have := (vOne HRd.out.2.1 HE.out.symm).2.2.2.1
        have h2 := HRd.out.1
        have h3 := HK.out
        omega
      have hs := fun W => slice_from a n c K .i64 hKn W
      by_cases hlong : most < X
      · have hlong' : (most : Int) < (X : Int) := by omega
        go_enter Try.func66, Try.ntmps66
        go_wp2_with fail
        refine (failed_any w g 0 l HR.out).mono ?_
        rintro e w' ⟨rfl, rfl⟩
        go_wp2_with fail
        refine HN.out.mono ?_
        rintro e w' ⟨rfl, rfl⟩
        go_wp2
        go_ret
        rw [rNum_long HE.out.symm (by rw [← HX.out]; exact hlong)]
        exact ⟨rfl, Rdr.fail 5 HG.out HRd.out hc hm, grown_set _ _ _ _⟩
      · have hlong' : (X : Int) ≤ (most : Int) := by omega
        go_enter Try.func66, Try.ntmps66
        go_wp2_with fail
        refine (failed_any w g 0 l HR.out).mono ?_
        rintro e w' ⟨rfl, rfl⟩
        go_wp2_with fail
        refine HN.out.mono ?_
        rintro e w' ⟨rfl, rfl⟩
        go_wp2
        go_ret
        rw [rNum_ok HE.out.symm (by rw [← HX.out]; exact hlong), ← HX.out, ← HK.out]
        exact ⟨rfl, Rdr.move hKn HG.out HRd.out hc hm, grown_set _ _ _ _⟩
    · have hz1 : ((e : Int) == 0) = false := by simp; omega
      have hz2 : ((e : Int) != 0) = true := by simp; omega
      go_enter Try.func66, Try.ntmps66
      go_wp2_with fail
      refine (failed_any w g 0 l HR.out).mono ?_
      rintro e w' ⟨rfl, rfl⟩
      go_wp2_with fail
      refine HN.out.mono ?_
      rintro e w' ⟨rfl, rfl⟩
      go_wp2
      go_ret
      rw [rNum_err (by rw [← HE.out]; exact hz), ← HE.out]
      exact ⟨rfl, Rdr.fail _ HG.out HRd.out hc hm, grown_set _ _ _ _⟩
  · have hE' : ((E : Int) != 0) = true := by simp; omega
    go_enter Try.func66, Try.ntmps66
    go_wp2_with fail
    refine (failed_any w g E l HR.out).mono ?_
    rintro e w' ⟨rfl, rfl⟩
    go_wp2
    go_ret
    rw [rNum_failed hE]
    exact ⟨rfl, HR.out, World.grownBy.refl _ _⟩

/-- The end's error. -/
def rEnd (E : Nat) (l : List Nat) : Nat := if E ≠ 0 then E else if l = [] then 0 else 5

set_option maxHeartbeats 400000 in
theorem end_any (w : World) (g E : Nat) (l : List Nat) (h : Rdr w 99 g E l) : Calls Try.prog 36 #[.pointer (some ⟨g, 0, none⟩)] w fun e w' => e = .returned (.int .i64 (rEnd E l : Int)) ∧ w = w' := by
  have HR := Lib.hid h
  obtain ⟨a, n, c, hg, hr, hc, hm⟩ := h
  have h0 : w.cell? ⟨g, 0, none⟩ = some (.slice a n c) := by rw [cell_of_row w g 0 _ 99 (0, 0) hg]; rfl
  have HL := Lib.hid hr.1
  clear hg hr
  by_cases hE : E = 0
  · subst hE
    by_cases hn : n = 0
    · subst hn
      have : l = [] := List.eq_nil_of_length_eq_zero HL.out
      subst this
      go_enter Try.func36, Try.ntmps36
      go_wp2_with fail
      refine (failed_any w g 0 [] HR.out).mono ?_
      rintro e w' ⟨rfl, rfl⟩
      go_wp2
      go_ret
      exact ⟨rfl, rfl⟩
    · have hn' : 0 < (n : Int) := by omega
      have hl : l ≠ [] := by rintro rfl; have := HL.out; simp at this; omega
      have e5 : rEnd 0 l = 5 := by simp [rEnd, hl]
      rw [e5]
      clear e5
      go_enter Try.func36, Try.ntmps36
      go_wp2_with fail
      refine (failed_any w g 0 l HR.out).mono ?_
      rintro e w' ⟨rfl, rfl⟩
      go_wp2
      go_ret
      exact ⟨rfl, rfl⟩
  · have hE' : ((E : Int) != 0) = true := by simp; omega
    have e5 : rEnd E l = E := by simp [rEnd, hE]
    rw [e5]
    clear e5
    go_enter Try.func36, Try.ntmps36
    go_wp2_with fail
    refine (failed_any w g E l HR.out).mono ?_
    rintro e w' ⟨rfl, rfl⟩
    go_wp2
    go_ret
    exact ⟨rfl, rfl⟩

set_option maxHeartbeats 400000 in
theorem open_any (a : Option Addr) (n c : Nat) (l : List Nat) (w : World) (h : Rd w a n l) (hn : n ≤ 1000000) :
    Calls Try.prog 18 #[.slice a n c] w fun e w' => ∃ g, e = .returned (.pointer (some ⟨g, 0, none⟩)) ∧ w.heap.size ≤ g ∧ Rdr w' 99 g 0 l ∧ Below w.heap.size w w' := by
  have HR := Lib.hid h
  clear h
  go_enter Try.func18, Try.ntmps18
  go_wp2_with fail
  refine (clone_sl a n c l w HR.out hn).mono ?_
  rintro e w1 ⟨a', c', rfl, hr, hc, hb⟩
  have HRd := Lib.hid hr
  clear hr
  go_wp2
  go_ret
  exact ⟨_, rfl, hb.size, ⟨a', n, c', heap_alloc_new w1 _, HRd.out.later (Below.alloc0 _ _), hc, hn⟩, hb.alloc hb.size _⟩

/-- A reader that lies, with its bytes, from block 'lo' on. -/
def RdrLo (w : World) (T g E : Nat) (l : List Nat) (lo : Nat) : Prop :=
  ∃ a n c, w.heap[g]? = some (.cells #[.slice a n c, .int .i64 (E : Int)] T (0, 0)) ∧ Rd w a n l ∧ n ≤ c ∧ n ≤ 1000000 ∧ lo ≤ g ∧ ∀ b o, a = some ⟨b, o, none⟩ → lo ≤ b

theorem RdrLo.keep {w w' : World} {T g E lo : Nat} {l : List Nat} (h : RdrLo w T g E l lo) (hk : ∀ k, lo ≤ k → k < w.heap.size → w'.heap[k]? = w.heap[k]?) : RdrLo w' T g E l lo := by
  obtain ⟨a, n, c, hg, hr, hc, hm, hlo, hb⟩ := h
  refine ⟨a, n, c, (hk g hlo (lt_of_block hg)).trans hg, ⟨hr.1, hr.2.1, fun hn => ?_⟩, hc, hm, hlo, hb⟩
  obtain ⟨b, o, rfl, hcell⟩ := hr.2.2 hn
  refine ⟨b, o, rfl, fun j hj => ?_⟩
  exact (World.cell?_of_block (w := w) (hk b (hb b o rfl) (World.block_lt_of_cell? w _ (hcell j hj)))).trans (hcell j hj)

theorem RdrLo.rdr {w : World} {T g E lo : Nat} {l : List Nat} (h : RdrLo w T g E l lo) : Rdr w T g E l := by
  obtain ⟨a, n, c, hg, hr, hc, hm, _⟩ := h
  exact ⟨a, n, c, hg, hr, hc, hm⟩

set_option maxHeartbeats 400000 in
theorem openLo_any (a : Option Addr) (n c : Nat) (l : List Nat) (w : World) (h : Rd w a n l) (hn : n ≤ 1000000) :
    Calls Try.prog 18 #[.slice a n c] w fun e w' => ∃ g, e = .returned (.pointer (some ⟨g, 0, none⟩)) ∧ RdrLo w' 99 g 0 l w.heap.size ∧ Below w.heap.size w w' := by
  have hcl : Calls Try.prog 37 #[.slice a n c] w fun e w' => ∃ a' c', e = .returned (.slice a' n c') ∧ Rd w' a' n l ∧ n ≤ c' ∧ Below w.heap.size w w' ∧ ∀ b o, a' = some ⟨b, o, none⟩ → w.heap.size ≤ b := by
    refine (clone_any a n c l w h hn).mono ?_
    rintro e w' ⟨v, rfl, ho, hb⟩
    obtain ⟨a', c', rfl, hr, hc, hlo⟩ := ho.lies
    rw [h.1] at hr hc ⊢
    exact ⟨a', c', rfl, hr, hc, hb, hlo⟩
  have HC := Lib.hid hcl
  clear h hcl
  go_enter Try.func18, Try.ntmps18
  go_wp2_with fail
  refine HC.out.mono ?_
  rintro e w1 ⟨a', c', rfl, hr, hc, hb, hlo⟩
  have HRd := Lib.hid hr
  have HLo := Lib.hid hlo
  clear hr hlo
  go_wp2
  go_ret
  exact ⟨_, rfl, ⟨a', n, c', heap_alloc_new w1 _, HRd.out.later (Below.alloc0 _ _), hc, hn, hb.size, HLo.out⟩, hb.alloc hb.size _⟩

theorem rNum_put (x : Nat) (r : List Nat) (hx : x ≤ 18446744073709551615) : rNum 0 (vEnc x ++ r) 18446744073709551615 = (x, 0, r) := by
  obtain ⟨h1, h2, h3⟩ := vRead (n := x) r (by omega)
  rw [rNum_ok h1 (by omega), h2, h3]
  simp

end Go.Proofs.Ytaijldcfoaeogaa

/- The contract of a reader's Bytes, over any world. -/
namespace Go.Proofs.Ytaijldcfoaeogaa
open Go.RowKit

/-- The string that is read: it, the first error then, and what is left. -/
def rByt (E : Nat) (l : List Nat) (most : Nat) : List Nat × Nat × List Nat :=
  if (rNum E l most).2.1 ≠ 0 then ([], (rNum E l most).2.1, (rNum E l most).2.2)
  else if (rNum E l most).2.2.length < (rNum E l most).1 then ([], 2, (rNum E l most).2.2)
  else ((rNum E l most).2.2.take (rNum E l most).1, 0, (rNum E l most).2.2.drop (rNum E l most).1)

theorem rByt_err {E : Nat} {l : List Nat} {most k E1 : Nat} {l1 : List Nat} (h : rNum E l most = (k, E1, l1)) (hE : E1 ≠ 0) : rByt E l most = ([], E1, l1) := by simp [rByt, h, hE]

theorem rByt_cut {E : Nat} {l : List Nat} {most k : Nat} {l1 : List Nat} (h : rNum E l most = (k, 0, l1)) (hk : l1.length < k) : rByt E l most = ([], 2, l1) := by simp [rByt, h, hk]

theorem rByt_ok {E : Nat} {l : List Nat} {most k : Nat} {l1 : List Nat} (h : rNum E l most = (k, 0, l1)) (hk : ¬ l1.length < k) : rByt E l most = (l1.take k, 0, l1.drop k) := by simp [rByt, h, hk]

theorem u64_wrap {m : Nat} (h : m ≤ 1000000) : IntKind.u64.wrap (m : Int) = m := by rw [IntKind.wrap_u64]; omega

set_option maxHeartbeats 400000 in
theorem bytes_any (w : World) (g E : Nat) (l : List Nat) (m : Int) (most : Nat) (hm : m = most ∨ (m < 0 ∧ most = 0)) (hm2 : most ≤ 1000000) (h : Rdr w 99 g E l) :
    Calls Try.prog 49 #[.pointer (some ⟨g, 0, none⟩), .int .i64 m] w fun e w' => ∃ a n c, e = .returned (.slice a n c) ∧ Rd w' a n (rByt E l most).1 ∧ Rdr w' 99 g (rByt E l most).2.1 (rByt E l most).2.2 ∧ w.grownBy w' (some g) := by
  have hN := number_any w g E l most h
  obtain ⟨⟨k, E1, l1⟩, hk⟩ : ∃ k, k = rNum E l most := ⟨_, rfl⟩
  rw [← hk] at hN
  dsimp only at hN
  have HN : Hid (∀ x : Int, x = most → Calls Try.prog 66 #[.pointer (some ⟨g, 0, none⟩), .int .u64 x] w fun e w' => e = .returned (.int .u64 (k : Int)) ∧ Rdr w' 99 g E1 l1 ∧ w.grownBy w' (some g)) := by
    intro x hx
    rw [hx]; exact hN
  have HK := Lib.hid hk.symm
  clear hN hk h
  go_enter Try.func49, Try.ntmps49
  go_wp2_with fail
  all_goals
    refine (HN.out _ (by omega)).mono ?_
    rintro e w1 ⟨rfl, hr1, hg1⟩
    have HR := Lib.hid hr1
    obtain ⟨a, n, c, hg, hr, hc, hmx⟩ := hr1
    have h0 : w1.cell? ⟨g, 0, none⟩ = some (.slice a n c) := by rw [cell_of_row w1 g 0 _ 99 (0, 0) hg]; rfl
    have h1 : w1.cell? ⟨g, 1, none⟩ = some (.int .i64 (E1 : Int)) := by rw [cell_of_row w1 g 1 _ 99 (0, 0) hg]; rfl
    have f0 : w1.frozen? ⟨g, 0, none⟩ = false := by simp [World.frozen?, hg]
    have f1 : w1.frozen? ⟨g, 1, none⟩ = false := by simp [World.frozen?, hg]
    have HG := Lib.hid hg
    have HRd := Lib.hid hr
    have HL := Lib.hid hr.1
    clear hg hr
    by_cases hE : E1 = 0
    · subst hE
      by_cases hk : n < k
      · have hk' : (n : Int) < (k : Int) := by omega
        have HB := Lib.hid (rByt_cut HK.out (by have := HL.out; omega))
        go_wp2_with fail
        refine (failed_any w1 g 0 l1 HR.out).mono ?_
        rintro e w' ⟨rfl, rfl⟩
        go_wp2
        go_ret
        rw [HB.out]
        exact ⟨_, _, _, rfl, ⟨rfl, by simp, by omega⟩, Rdr.fail 2 HG.out HRd.out hc hmx, hg1.trans (grown_set _ _ _ _)⟩
      · have hk' : (k : Int) ≤ (n : Int) := by omega
        have HB := Lib.hid (rByt_ok HK.out (by have := HL.out; omega))
        have hs := fun W => slice_from a n c k .u64 (by omega) W
        have hs2 := fun W => slice_to a n c k .u64 (by omega) W
        go_wp2_with fail
        refine (failed_any w1 g 0 l1 HR.out).mono ?_
        rintro e w' ⟨rfl, rfl⟩
        go_wp2_with fail
        refine (clone_sl a k c (l1.take k) w1 (HRd.out.first (by omega)) (by omega)).mono ?_
        rintro e w2 ⟨a2, c2, rfl, hr2, _, hb2⟩
        have hgl : g < w1.heap.size := World.block_lt_of_cell? w1 _ h0
        have HG2 : Hid (w2.heap[g]? = some (.cells #[.slice a n c, .int .i64 ((0 : Nat) : Int)] 99 (0, 0))) := (hb2.block g hgl).trans HG.out
        have HRd2 := Lib.hid (HRd.out.later hb2)
        have HR2 := Lib.hid hr2
        have HW := Lib.hid hb2
        have g0 : w2.cell? ⟨g, 0, none⟩ = some (.slice a n c) := by rw [cell_of_row w2 g 0 _ 99 (0, 0) HG2.out]; rfl
        have g1 : w2.frozen? ⟨g, 0, none⟩ = false := by simp [World.frozen?, HG2.out]
        clear hr2 hb2 h0 h1 f0 f1
        go_wp2
        go_ret
        rw [HB.out]
        exact ⟨_, _, _, rfl, HR2.out.beside HG2.out (grown_set _ _ _ _), Rdr.move (E := 0) (by omega) HG2.out HRd2.out hc hmx, (hg1.trans (grownBy_of_below HW.out _)).trans (grown_set _ _ _ _)⟩
    · have hE' : ((E1 : Int) != 0) = true := by simp; omega
      have HB := Lib.hid (rByt_err HK.out hE)
      go_wp2_with fail
      refine (failed_any w1 g E1 l1 HR.out).mono ?_
      rintro e w' ⟨rfl, rfl⟩
      go_wp2
      go_ret
      rw [HB.out]
      exact ⟨_, _, _, rfl, ⟨rfl, by simp, by omega⟩, HR.out, hg1⟩

end Go.Proofs.Ytaijldcfoaeogaa

/- The contract of a reader's Bytes, with what room there is, over any world. -/
namespace Go.Proofs.Ytaijldcfoaeogaa
open Go.RowKit

set_option maxHeartbeats 400000 in
theorem bytesC_any (w : World) (g E : Nat) (l : List Nat) (m : Int) (most : Nat) (hm : m = most ∨ (m < 0 ∧ most = 0)) (hm2 : most ≤ 1000000) (h : Rdr w 99 g E l) :
    Calls Try.prog 49 #[.pointer (some ⟨g, 0, none⟩), .int .i64 m] w fun e w' => ∃ a n c, e = .returned (.slice a n c) ∧ n ≤ c ∧ Rd w' a n (rByt E l most).1 ∧ Rdr w' 99 g (rByt E l most).2.1 (rByt E l most).2.2 ∧ w.grownBy w' (some g) := by
  have hN := number_any w g E l most h
  obtain ⟨⟨k, E1, l1⟩, hk⟩ : ∃ k, k = rNum E l most := ⟨_, rfl⟩
  rw [← hk] at hN
  dsimp only at hN
  have HN : Hid (∀ x : Int, x = most → Calls Try.prog 66 #[.pointer (some ⟨g, 0, none⟩), .int .u64 x] w fun e w' => e = .returned (.int .u64 (k : Int)) ∧ Rdr w' 99 g E1 l1 ∧ w.grownBy w' (some g)) := by
    intro x hx
    rw [hx]; exact hN
  have HK := Lib.hid hk.symm
  clear hN hk h
  go_enter Try.func49, Try.ntmps49
  go_wp2_with fail
  all_goals
    refine (HN.out _ (by omega)).mono ?_
    rintro e w1 ⟨rfl, hr1, hg1⟩
    have HR := Lib.hid hr1
    obtain ⟨a, n, c, hg, hr, hc, hmx⟩ := hr1
    have h0 : w1.cell? ⟨g, 0, none⟩ = some (.slice a n c) := by rw [cell_of_row w1 g 0 _ 99 (0, 0) hg]; rfl
    have h1 : w1.cell? ⟨g, 1, none⟩ = some (.int .i64 (E1 : Int)) := by rw [cell_of_row w1 g 1 _ 99 (0, 0) hg]; rfl
    have f0 : w1.frozen? ⟨g, 0, none⟩ = false := by simp [World.frozen?, hg]
    have f1 : w1.frozen? ⟨g, 1, none⟩ = false := by simp [World.frozen?, hg]
    have HG := Lib.hid hg
    have HRd := Lib.hid hr
    have HL := Lib.hid hr.1
    clear hg hr
    by_cases hE : E1 = 0
    · subst hE
      by_cases hk : n < k
      · have hk' : (n : Int) < (k : Int) := by omega
        have HB := Lib.hid (rByt_cut HK.out (by have := HL.out; omega))
        go_wp2_with fail
        refine (failed_any w1 g 0 l1 HR.out).mono ?_
        rintro e w' ⟨rfl, rfl⟩
        go_wp2
        go_ret
        rw [HB.out]
        exact ⟨_, _, _, rfl, by omega, ⟨rfl, by simp, by omega⟩, Rdr.fail 2 HG.out HRd.out hc hmx, hg1.trans (grown_set _ _ _ _)⟩
      · have hk' : (k : Int) ≤ (n : Int) := by omega
        have HB := Lib.hid (rByt_ok HK.out (by have := HL.out; omega))
        have hs := fun W => slice_from a n c k .u64 (by omega) W
        have hs2 := fun W => slice_to a n c k .u64 (by omega) W
        go_wp2_with fail
        refine (failed_any w1 g 0 l1 HR.out).mono ?_
        rintro e w' ⟨rfl, rfl⟩
        go_wp2_with fail
        refine (clone_sl a k c (l1.take k) w1 (HRd.out.first (by omega)) (by omega)).mono ?_
        rintro e w2 ⟨a2, c2, rfl, hr2, hc2, hb2⟩
        have hgl : g < w1.heap.size := World.block_lt_of_cell? w1 _ h0
        have HG2 : Hid (w2.heap[g]? = some (.cells #[.slice a n c, .int .i64 ((0 : Nat) : Int)] 99 (0, 0))) := (hb2.block g hgl).trans HG.out
        have HRd2 := Lib.hid (HRd.out.later hb2)
        have HR2 := Lib.hid hr2
        have HW := Lib.hid hb2
        have g0 : w2.cell? ⟨g, 0, none⟩ = some (.slice a n c) := by rw [cell_of_row w2 g 0 _ 99 (0, 0) HG2.out]; rfl
        have g1 : w2.frozen? ⟨g, 0, none⟩ = false := by simp [World.frozen?, HG2.out]
        clear hr2 hb2 h0 h1 f0 f1
        go_wp2
        go_ret
        rw [HB.out]
        exact ⟨_, _, _, rfl, by omega, HR2.out.beside HG2.out (grown_set _ _ _ _), Rdr.move (E := 0) (by omega) HG2.out HRd2.out hc hmx, (hg1.trans (grownBy_of_below HW.out _)).trans (grown_set _ _ _ _)⟩
    · have hE' : ((E1 : Int) != 0) = true := by simp; omega
      have HB := Lib.hid (rByt_err HK.out hE)
      go_wp2_with fail
      refine (failed_any w1 g E1 l1 HR.out).mono ?_
      rintro e w' ⟨rfl, rfl⟩
      go_wp2
      go_ret
      rw [HB.out]
      exact ⟨_, _, _, rfl, by omega, ⟨rfl, by simp, by omega⟩, HR.out, hg1⟩

end Go.Proofs.Ytaijldcfoaeogaa
