/- The contracts of the document's own Number, of Open, End, Bytes, and of the document's own Bytes, over any world. -/
import Derived.Test.YtidbdfioadchaaaRdr
import Derived.Test.YtidbdfioadchaaaLives
namespace Go.Proofs.Ytidbdfioadchaaa
open Go.RowKit

set_option maxHeartbeats 400000 in
theorem refNumber_any (w : World) (g E : Nat) (l : List Nat) (most : Nat) (h : Rdr w 41 g E l) :
    Calls Try.prog 16 #[.pointer (some ⟨g, 0, none⟩), .int .u64 (most : Int)] w fun e w' => e = .returned (.int .u64 ((rNum E l most).1 : Int)) ∧ Rdr w' 41 g (rNum E l most).2.1 (rNum E l most).2.2 ∧ w.grownBy w' (some g) := by
  have HR := Lib.hid h
  obtain ⟨a, n, c, hg, hr, hc, hm⟩ := h
  have h0 : w.cell? ⟨g, 0, none⟩ = some (.slice a n c) := by rw [cell_of_row w g 0 _ 41 (0, 0) hg]; rfl
  have h1 : w.cell? ⟨g, 1, none⟩ = some (.int .i64 (E : Int)) := by rw [cell_of_row w g 1 _ 41 (0, 0) hg]; rfl
  have f0 : w.frozen? ⟨g, 0, none⟩ = false := by simp [World.frozen?, hg]
  have f1 : w.frozen? ⟨g, 1, none⟩ = false := by simp [World.frozen?, hg]
  have HG := Lib.hid hg
  have HRd := Lib.hid hr
  clear hg hr
  by_cases hE : E = 0
  · subst hE
    have hN := refNext_any a n c l w HRd.out hm
    obtain ⟨e, he⟩ : ∃ e, e = vErr l := ⟨_, rfl⟩
    obtain ⟨K, hK⟩ : ∃ K, K = vLen l := ⟨_, rfl⟩
    obtain ⟨X, hX⟩ : ∃ X, X = vNum l := ⟨_, rfl⟩
    rw [← he, ← hK, ← hX] at hN
    have HN := Lib.hid hN
    have HE := Lib.hid he
    have HK := Lib.hid hK
    have HX := Lib.hid hX
    clear hN he hK hX
    by_cases hz : e = 0
    · subst hz
      have hKn : K ≤ n := by
        have := (vOne HRd.out.2.1 HE.out.symm).2.2.2.1
        have h2 := HRd.out.1
        have h3 := HK.out
        omega
      have hs := fun W => slice_from a n c K .i64 hKn W
      by_cases hlong : most < X
      · have hlong' : (most : Int) < (X : Int) := by omega
        go_enter Try.func16, Try.ntmps16
        go_wp2_with fail
        refine HN.out.mono ?_
        rintro e w' ⟨rfl, rfl⟩
        go_wp2
        go_ret
        rw [rNum_long HE.out.symm (by rw [← HX.out]; exact hlong)]
        exact ⟨rfl, Rdr.fail 5 HG.out HRd.out hc hm, grown_set _ _ _ _⟩
      · have hlong' : (X : Int) ≤ (most : Int) := by omega
        go_enter Try.func16, Try.ntmps16
        go_wp2_with fail
        refine HN.out.mono ?_
        rintro e w' ⟨rfl, rfl⟩
        go_wp2
        go_ret
        rw [rNum_ok HE.out.symm (by rw [← HX.out]; exact hlong), ← HX.out, ← HK.out]
        exact ⟨rfl, Rdr.move hKn HG.out HRd.out hc hm, grown_set _ _ _ _⟩
    · have hz1 : ((e : Int) == 0) = false := by simp; omega
      have hz2 : ((e : Int) != 0) = true := by simp; omega
      go_enter Try.func16, Try.ntmps16
      go_wp2_with fail
      refine HN.out.mono ?_
      rintro e w' ⟨rfl, rfl⟩
      go_wp2
      go_ret
      rw [rNum_err (by rw [← HE.out]; exact hz), ← HE.out]
      exact ⟨rfl, Rdr.fail _ HG.out HRd.out hc hm, grown_set _ _ _ _⟩
  · have hE' : ((E : Int) != 0) = true := by simp; omega
    go_enter Try.func16, Try.ntmps16
    go_wp2
    go_ret
    rw [rNum_failed hE]
    exact ⟨rfl, HR.out, World.grownBy.refl _ _⟩

/-- The end's error. -/
def rEnd (E : Nat) (l : List Nat) : Nat := if E ≠ 0 then E else if l = [] then 0 else 5

set_option maxHeartbeats 400000 in
theorem end_any (w : World) (g E : Nat) (l : List Nat) (h : Rdr w 52 g E l) : Calls Try.prog 15 #[.pointer (some ⟨g, 0, none⟩)] w fun e w' => e = .returned (.int .i64 (rEnd E l : Int)) ∧ w = w' := by
  have HR := Lib.hid h
  obtain ⟨a, n, c, hg, hr, hc, hm⟩ := h
  have h0 : w.cell? ⟨g, 0, none⟩ = some (.slice a n c) := by rw [cell_of_row w g 0 _ 52 (0, 0) hg]; rfl
  have HL := Lib.hid hr.1
  clear hg hr
  by_cases hE : E = 0
  · subst hE
    by_cases hn : n = 0
    · subst hn
      have : l = [] := List.eq_nil_of_length_eq_zero HL.out
      subst this
      go_enter Try.func15, Try.ntmps15
      go_wp2_with fail
      refine (failed_any w g 0 [] HR.out).mono ?_
      rintro e w' ⟨rfl, rfl⟩
      go_wp2
      go_ret
      exact ⟨rfl, rfl⟩
    · have hn' : 0 < (n : Int) := by omega
      have hl : l ≠ [] := by rintro rfl; have := HL.out; simp at this; omega
      have e5 : rEnd 0 l = 5 := by simp [rEnd, hl]
      rw [e5]
      clear e5
      go_enter Try.func15, Try.ntmps15
      go_wp2_with fail
      refine (failed_any w g 0 l HR.out).mono ?_
      rintro e w' ⟨rfl, rfl⟩
      go_wp2
      go_ret
      exact ⟨rfl, rfl⟩
  · have hE' : ((E : Int) != 0) = true := by simp; omega
    have e5 : rEnd E l = E := by simp [rEnd, hE]
    rw [e5]
    clear e5
    go_enter Try.func15, Try.ntmps15
    go_wp2_with fail
    refine (failed_any w g E l HR.out).mono ?_
    rintro e w' ⟨rfl, rfl⟩
    go_wp2
    go_ret
    exact ⟨rfl, rfl⟩

theorem grownBy_of_below {w w' : World} (h : Below w.heap.size w w') (row : Option Nat) : w.grownBy w' row := ⟨h.os, h.tape, h.output, h.size, fun k hk _ => h.block k hk⟩

theorem Rd.first {w : World} {a : Option Addr} {n k : Nat} {l : List Nat} (h : Rd w a n l) (hk : k ≤ n) : Rd w a k (l.take k) := by
  refine ⟨by rw [List.length_take, h.1]; omega, fun x hx => h.2.1 x (List.mem_of_mem_take hx), fun h0 => ?_⟩
  obtain ⟨b, o, e, hc⟩ := h.2.2 (by omega)
  refine ⟨b, o, e, fun j hj => ?_⟩
  rw [hc j (by omega)]
  have h1 : j < l.length := by rw [h.1]; omega
  simp [List.getD, h1, hj]

theorem Own.sl {w : World} {base : Nat} {v : Value} {l : List Nat} (h : Own w base v l) : ∃ a c, v = .slice a l.length c ∧ Rd w a l.length l ∧ l.length ≤ c := by
  obtain ⟨a, c, rfl, hr⟩ := h.rd
  refine ⟨a, c, rfl, hr, ?_⟩
  rcases h.2.2 with ⟨hv, hl⟩ | ⟨g, cap, cur, hv, _, _, hc, _⟩
  · omega
  · injection hv with _ _ h3
    omega

theorem clone_sl (a : Option Addr) (n c : Nat) (l : List Nat) (w : World) (h : Rd w a n l) (hn : n ≤ 1000000) :
    Calls Try.prog 21 #[.slice a n c] w fun e w' => ∃ a' c', e = .returned (.slice a' n c') ∧ Rd w' a' n l ∧ n ≤ c' ∧ Below w.heap.size w w' := by
  refine (clone_any a n c l w h hn).mono ?_
  rintro e w' ⟨v, rfl, ho, hb⟩
  obtain ⟨a', c', rfl, hr, hc⟩ := ho.sl
  rw [h.1] at hr hc ⊢
  exact ⟨a', c', rfl, hr, hc, hb⟩

set_option maxHeartbeats 400000 in
theorem open_any (a : Option Addr) (n c : Nat) (l : List Nat) (w : World) (h : Rd w a n l) (hn : n ≤ 1000000) :
    Calls Try.prog 12 #[.slice a n c] w fun e w' => ∃ g, e = .returned (.pointer (some ⟨g, 0, none⟩)) ∧ w.heap.size ≤ g ∧ Rdr w' 52 g 0 l ∧ Below w.heap.size w w' := by
  have HR := Lib.hid h
  clear h
  go_enter Try.func12, Try.ntmps12
  go_wp2_with fail
  refine (clone_sl a n c l w HR.out hn).mono ?_
  rintro e w1 ⟨a', c', rfl, hr, hc, hb⟩
  have HRd := Lib.hid hr
  clear hr
  go_wp2
  go_ret
  exact ⟨_, rfl, hb.size, ⟨a', n, c', heap_alloc_new w1 _, HRd.out.later (Below.alloc0 _ _), hc, hn⟩, hb.alloc hb.size _⟩

/-- The string that is read: it, the first error then, and what is left. -/
def rByt (E : Nat) (l : List Nat) (most : Nat) : List Nat × Nat × List Nat :=
  if (rNum E l most).2.1 ≠ 0 then ([], (rNum E l most).2.1, (rNum E l most).2.2)
  else if (rNum E l most).2.2.length < (rNum E l most).1 then ([], 2, (rNum E l most).2.2)
  else ((rNum E l most).2.2.take (rNum E l most).1, 0, (rNum E l most).2.2.drop (rNum E l most).1)

theorem rByt_err {E : Nat} {l : List Nat} {most k E1 : Nat} {l1 : List Nat} (h : rNum E l most = (k, E1, l1)) (hE : E1 ≠ 0) : rByt E l most = ([], E1, l1) := by simp [rByt, h, hE]
theorem rByt_cut {E : Nat} {l : List Nat} {most k : Nat} {l1 : List Nat} (h : rNum E l most = (k, 0, l1)) (hk : l1.length < k) : rByt E l most = ([], 2, l1) := by simp [rByt, h, hk]
theorem rByt_ok {E : Nat} {l : List Nat} {most k : Nat} {l1 : List Nat} (h : rNum E l most = (k, 0, l1)) (hk : ¬ l1.length < k) : rByt E l most = (l1.take k, 0, l1.drop k) := by simp [rByt, h, hk]

theorem u64_wrap {m : Nat} (h : m ≤ 1000000) : IntKind.u64.wrap (m : Int) = m := by rw [IntKind.wrap_u64]; omega

set_option maxHeartbeats 400000 in
theorem bytes_any (w : World) (g E : Nat) (l : List Nat) (m : Int) (most : Nat) (hm : m = most ∨ (m < 0 ∧ most = 0)) (hm2 : most ≤ 1000000) (h : Rdr w 52 g E l) :
    Calls Try.prog 14 #[.pointer (some ⟨g, 0, none⟩), .int .i64 m] w fun e w' => ∃ a n c, e = .returned (.slice a n c) ∧ Rd w' a n (rByt E l most).1 ∧ Rdr w' 52 g (rByt E l most).2.1 (rByt E l most).2.2 ∧ w.grownBy w' (some g) := by
  have hN := number_any w g E l most h
  obtain ⟨⟨k, E1, l1⟩, hk⟩ : ∃ k, k = rNum E l most := ⟨_, rfl⟩
  rw [← hk] at hN
  dsimp only at hN
  have HN : Hid (∀ x : Int, x = most → Calls Try.prog 13 #[.pointer (some ⟨g, 0, none⟩), .int .u64 x] w fun e w' => e = .returned (.int .u64 (k : Int)) ∧ Rdr w' 52 g E1 l1 ∧ w.grownBy w' (some g)) := by
    intro x hx
    rw [hx]; exact hN
  have HK := Lib.hid hk.symm
  clear hN hk h
  go_enter Try.func14, Try.ntmps14
  go_wp2_with fail
  all_goals
    refine (HN.out _ (by omega)).mono ?_
    rintro e w1 ⟨rfl, hr1, hg1⟩
    have HR := Lib.hid hr1
    obtain ⟨a, n, c, hg, hr, hc, hmx⟩ := hr1
    have h0 : w1.cell? ⟨g, 0, none⟩ = some (.slice a n c) := by rw [cell_of_row w1 g 0 _ 52 (0, 0) hg]; rfl
    have h1 : w1.cell? ⟨g, 1, none⟩ = some (.int .i64 (E1 : Int)) := by rw [cell_of_row w1 g 1 _ 52 (0, 0) hg]; rfl
    have f0 : w1.frozen? ⟨g, 0, none⟩ = false := by simp [World.frozen?, hg]
    have f1 : w1.frozen? ⟨g, 1, none⟩ = false := by simp [World.frozen?, hg]
    have HG := Lib.hid hg
    have HRd := Lib.hid hr
    have HL := Lib.hid hr.1
    clear hg hr
    by_cases hE : E1 = 0
    · subst hE
      by_cases hk : n < k
      · have hk' : (n : Int) < (k : Int) := by omega
        have HB := Lib.hid (rByt_cut HK.out (by have := HL.out; omega))
        go_wp2_with fail
        refine (failed_any w1 g 0 l1 HR.out).mono ?_
        rintro e w' ⟨rfl, rfl⟩
        go_wp2
        go_ret
        rw [HB.out]
        exact ⟨_, _, _, rfl, ⟨rfl, by simp, by omega⟩, Rdr.fail 2 HG.out HRd.out hc hmx, hg1.trans (grown_set _ _ _ _)⟩
      · have hk' : (k : Int) ≤ (n : Int) := by omega
        have HB := Lib.hid (rByt_ok HK.out (by have := HL.out; omega))
        have hs := fun W => slice_from a n c k .u64 (by omega) W
        have hs2 := fun W => slice_to a n c k .u64 (by omega) W
        go_wp2_with fail
        refine (failed_any w1 g 0 l1 HR.out).mono ?_
        rintro e w' ⟨rfl, rfl⟩
        go_wp2_with fail
        refine (clone_sl a k c (l1.take k) w1 (HRd.out.first (by omega)) (by omega)).mono ?_
        rintro e w2 ⟨a2, c2, rfl, hr2, _, hb2⟩
        have hgl : g < w1.heap.size := World.block_lt_of_cell? w1 _ h0
        have HG2 : Hid (w2.heap[g]? = some (.cells #[.slice a n c, .int .i64 ((0 : Nat) : Int)] 52 (0, 0))) := (hb2.block g hgl).trans HG.out
        have HRd2 := Lib.hid (HRd.out.later hb2)
        have HR2 := Lib.hid hr2
        have HW := Lib.hid hb2
        have g0 : w2.cell? ⟨g, 0, none⟩ = some (.slice a n c) := by rw [cell_of_row w2 g 0 _ 52 (0, 0) HG2.out]; rfl
        have g1 : w2.frozen? ⟨g, 0, none⟩ = false := by simp [World.frozen?, HG2.out]
        clear hr2 hb2 h0 h1 f0 f1
        go_wp2
        go_ret
        rw [HB.out]
        exact ⟨_, _, _, rfl, HR2.out.beside HG2.out (grown_set _ _ _ _), Rdr.move (E := 0) (by omega) HG2.out HRd2.out hc hmx, (hg1.trans (grownBy_of_below HW.out _)).trans (grown_set _ _ _ _)⟩
    · have hE' : ((E1 : Int) != 0) = true := by simp; omega
      have HB := Lib.hid (rByt_err HK.out hE)
      go_wp2_with fail
      refine (failed_any w1 g E1 l1 HR.out).mono ?_
      rintro e w' ⟨rfl, rfl⟩
      go_wp2
      go_ret
      rw [HB.out]
      exact ⟨_, _, _, rfl, ⟨rfl, by simp, by omega⟩, HR.out, hg1⟩
end Go.Proofs.Ytidbdfioadchaaa
