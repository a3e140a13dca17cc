/- A reader in memory; the contracts of Failed, Number, End, Open, over any world. -/
import Derived.Test.YtkfnjekeegebaaaClone
import Derived.Test.YtkfnjekeegebaaaVNext
namespace Go.Proofs.Ytkfnjekeegebaaa
open Go.RowKit

/-- The number that is read: it, the first error then, and what is left. -/
def rNum (E : Nat) (l : List Nat) (most : Nat) : Nat × Nat × List Nat :=
  if E ≠ 0 then (0, E, l) else if vErr l ≠ 0 then (0, vErr l, l) else if most < vNum l then (0, 5, l) else (vNum l, 0, l.drop (vLen l))

theorem rNum_failed {E : Nat} {l : List Nat} {most : Nat} (h : E ≠ 0) : rNum E l most = (0, E, l) := by simp [rNum, h]

theorem rNum_err {l : List Nat} {most : Nat} (h : vErr l ≠ 0) : rNum 0 l most = (0, vErr l, l) := by simp [rNum, h]

theorem rNum_long {l : List Nat} {most : Nat} (h : vErr l = 0) (h2 : most < vNum l) : rNum 0 l most = (0, 5, l) := by simp [rNum, h, h2]

theorem rNum_ok {l : List Nat} {most : Nat} (h : vErr l = 0) (h2 : ¬ most < vNum l) : rNum 0 l most = (vNum l, 0, l.drop (vLen l)) := by simp [rNum, h, h2]

/-- Block g is a reader of type T: its first error is E, the bytes l are left. -/
def Rdr (w : World) (T g E : Nat) (l : List Nat) : Prop :=
  ∃ a n c, w.heap[g]? = some (.cells #[.slice a n c, .int .i64 (E : Int)] T (0, 0)) ∧ Rd w a n l ∧ n ≤ c ∧ n ≤ 1000000

/-- Bytes that lie nowhere in a reader's own block stay, whatever happens there. -/
theorem Rd.beside {w w' : World} {T g n m c : Nat} {E : Int} {a a' : Option Addr} {l : List Nat} (h : Rd w a n l) (hg : w.heap[g]? = some (.cells #[.slice a' m c, .int .i64 E] T (0, 0))) (hw : w.grownBy w' (some g)) : Rd w' a n l := by
  refine ⟨h.1, h.2.1, fun hn => ?_⟩
  obtain ⟨b, o, rfl, hc⟩ := h.2.2 hn
  refine ⟨b, o, rfl, fun j hj => ?_⟩
  have hne : b ≠ g := by
    rintro rfl
    have h1 := hc j hj
    rw [cell_of_row w b _ _ T (0, 0) hg] at h1
    match hq : o + j with
    | 0 => simp [hq] at h1
    | 1 => simp [hq] at h1
    | q + 2 => simp [hq] at h1
  exact hw.cell (hc j hj) (by simpa using hne)

theorem Rdr.beside {w w' : World} {T g E T' g' E' : Nat} {l l' : List Nat} (h : Rdr w T g E l) (h' : Rdr w T' g' E' l') (hne : g ≠ g') (hw : w.grownBy w' (some g')) : Rdr w' T g E l := by
  obtain ⟨a, n, c, hg, hr, hc, hm⟩ := h
  obtain ⟨a', n', c', hg', _⟩ := h'
  refine ⟨a, n, c, ?_, hr.beside hg' hw, hc, hm⟩
  have hlt : g < w.heap.size := by
    rcases Nat.lt_or_ge g w.heap.size with hlt | hge
    · exact hlt
    · rw [Array.getElem?_eq_none hge] at hg; cases hg
  rw [hw.block g hlt (by simpa using hne)]; exact hg

theorem Rdr.fail {w : World} {T g n c : Nat} {a : Option Addr} {l : List Nat} {E0 : Int} (E : Nat) (hg : w.heap[g]? = some (.cells #[.slice a n c, .int .i64 E0] T (0, 0))) (hr : Rd w a n l) (hc : n ≤ c) (hm : n ≤ 1000000) :
    Rdr (w.setCell ⟨g, 1, none⟩ (.int .i64 (E : Int))) T g E l :=
  ⟨a, n, c, by simpa using heap_setCell_same w g 1 _ T (.int .i64 (E : Int)) hg, hr.beside hg (grown_set w g 1 _), hc, hm⟩

theorem Rdr.move {w : World} {T g n c k : Nat} {a : Option Addr} {l : List Nat} {E : Nat} (hk : k ≤ n) (hg : w.heap[g]? = some (.cells #[.slice a n c, .int .i64 (E : Int)] T (0, 0))) (hr : Rd w a n l) (hc : n ≤ c) (hm : n ≤ 1000000) :
    Rdr (w.setCell ⟨g, 0, none⟩ (.slice (cutA a c k) (n - k) (c - k))) T g E (l.drop k) :=
  ⟨_, _, _, by simpa using heap_setCell_same w g 0 _ T (.slice (cutA a c k) (n - k) (c - k)) hg, (hr.cut hk hc).beside hg (grown_set w g 0 _), by omega, by omega⟩

theorem failed_any (w : World) (g E : Nat) (l : List Nat) (h : Rdr w 110 g E l) : Calls Try.prog 57 #[.pointer (some ⟨g, 0, none⟩)] w fun e w' => e = .returned (.int .i64 (E : Int)) ∧ w = w' := by
  obtain ⟨a, n, c, hg, _⟩ := h
  have h1 : w.cell? ⟨g, 1, none⟩ = some (.int .i64 (E : Int)) := by rw [cell_of_row w g 1 _ 110 (0, 0) hg]; rfl
  clear hg
  go_enter Try.func57, Try.ntmps57
  go_wp2
  go_ret
  exact ⟨rfl, rfl⟩

set_option maxHeartbeats 400000 in
theorem number_any (w : World) (g E : Nat) (l : List Nat) (most : Nat) (h : Rdr w 110 g E l) :
    Calls Try.prog 51 #[.pointer (some ⟨g, 0, none⟩), .int .u64 (most : Int)] w fun e w' => e = .returned (.int .u64 ((rNum E l most).1 : Int)) ∧ Rdr w' 110 g (rNum E l most).2.1 (rNum E l most).2.2 ∧ w.grownBy w' (some g) := by
  have HR := Lib.hid h
  obtain ⟨a, n, c, hg, hr, hc, hm⟩ := h
  have h0 : w.cell? ⟨g, 0, none⟩ = some (.slice a n c) := by rw [cell_of_row w g 0 _ 110 (0, 0) hg]; rfl
  have h1 : w.cell? ⟨g, 1, none⟩ = some (.int .i64 (E : Int)) := by rw [cell_of_row w g 1 _ 110 (0, 0) hg]; rfl
  have f0 : w.frozen? ⟨g, 0, none⟩ = false := by simp [World.frozen?, hg]
  have f1 : w.frozen? ⟨g, 1, none⟩ = false := by simp [World.frozen?, hg]
  have HG := Lib.hid hg
  have HRd := Lib.hid hr
  clear hg hr
  by_cases hE : E = 0
  · subst hE
    have hN := next_any a n c l w HRd.out hm
    obtain ⟨e, he⟩ : ∃ e, e = vErr l := ⟨_, rfl⟩
    obtain ⟨K, hK⟩ : ∃ K, K = vLen l := ⟨_, rfl⟩
    obtain ⟨X, hX⟩ : ∃ X, X = vNum l := ⟨_, rfl⟩
    rw [← he, ← hK, ← hX] at hN
    have HN := Lib.hid hN
    have HE := Lib.hid he
    have HK := Lib.hid hK
    have HX := Lib.hid hX
    clear hN he hK hX
    by_cases hz : e = 0
    · subst hz
      have hKn : K ≤ n := by
        have := (vOne HRd.out.2.1 HE.out.symm).2.2.2.1
        have h2 := HRd.out.1
        have h3 := HK.out
        omega
      have hs := fun W => slice_from a n c K .i64 hKn W
      by_cases hlong : most < X
      · have hlong' : (most : Int) < (X : Int) := by omega
        go_enter Try.func51, Try.ntmps51
        go_wp2_with fail
        refine (failed_any w g 0 l HR.out).mono ?_
        rintro e w' ⟨rfl, rfl⟩
        go_wp2_with fail
        refine HN.out.mono ?_
        rintro e w' ⟨rfl, rfl⟩
        go_wp2
        go_ret
        rw [rNum_long HE.out.symm (by rw [← HX.out]; exact hlong)]
        exact ⟨rfl, Rdr.fail 5 HG.out HRd.out hc hm, grown_set _ _ _ _⟩
      · have hlong' : (X : Int) ≤ (most : Int) := by omega
        go_enter Try.func51, Try.ntmps51
        go_wp2_with fail
        refine (failed_any w g 0 l HR.out).mono ?_
        rintro e w' ⟨rfl, rfl⟩
        go_wp2_with fail
        refine HN.out.mono ?_
        rintro e w' ⟨rfl, rfl⟩
        go_wp2
        go_ret
        rw [rNum_ok HE.out.symm (by rw [← HX.out]; exact hlong), ← HX.out, ← HK.out]
        exact ⟨rfl, Rdr.move hKn HG.out HRd.out hc hm, grown_set _ _ _ _⟩
    · have hz1 : ((e : Int) == 0) = false := by simp; omega
      have hz2 : ((e : Int) != 0) = true := by simp; omega
      go_enter Try.func51, Try.ntmps51
      go_wp2_with fail
      refine (failed_any w g 0 l HR.out).mono ?_
      rintro e w' ⟨rfl, rfl⟩
      go_wp2_with fail
      refine HN.out.mono ?_
      rintro e w' ⟨rfl, rfl⟩
      go_wp2
      go_ret
      rw [rNum_err (by rw [← HE.out]; exact hz), ← HE.out]
      exact ⟨rfl, Rdr.fail _ HG.out HRd.out hc hm, grown_set _ _ _ _⟩
  · have hE' : ((E : Int) != 0) = true := by simp; omega
    go_enter Try.func51, Try.ntmps51
    go_wp2_with fail
    refine (failed_any w g E l HR.out).mono ?_
    rintro e w' ⟨rfl, rfl⟩
    go_wp2
    go_ret
    rw [rNum_failed hE]
    exact ⟨rfl, HR.out, World.grownBy.refl _ _⟩

/-- The end's error. -/
def rEnd (E : Nat) (l : List Nat) : Nat := if E ≠ 0 then E else if l = [] then 0 else 5

set_option maxHeartbeats 400000 in
theorem end_any (w : World) (g E : Nat) (l : List Nat) (h : Rdr w 110 g E l) : Calls Try.prog 50 #[.pointer (some ⟨g, 0, none⟩)] w fun e w' => e = .returned (.int .i64 (rEnd E l : Int)) ∧ w = w' := by
  have HR := Lib.hid h
  obtain ⟨a, n, c, hg, hr, hc, hm⟩ := h
  have h0 : w.cell? ⟨g, 0, none⟩ = some (.slice a n c) := by rw [cell_of_row w g 0 _ 110 (0, 0) hg]; rfl
  have HL := Lib.hid hr.1
  clear hg hr
  by_cases hE : E = 0
  · subst hE
    by_cases hn : n = 0
    · subst hn
      have : l = [] := List.eq_nil_of_length_eq_zero HL.out
      subst this
      go_enter Try.func50, Try.ntmps50
      go_wp2_with fail
      refine (failed_any w g 0 [] HR.out).mono ?_
      rintro e w' ⟨rfl, rfl⟩
      go_wp2
      go_ret
      exact ⟨rfl, rfl⟩
    · have hn' : 0 < (n : Int) := by omega
      have hl : l ≠ [] := by rintro rfl; have := HL.out; simp at this; omega
      have e5 : rEnd 0 l = 5 := by simp [rEnd, hl]
      rw [e5]
      clear e5
      go_enter Try.func50, Try.ntmps50
      go_wp2_with fail
      refine (failed_any w g 0 l HR.out).mono ?_
      rintro e w' ⟨rfl, rfl⟩
      go_wp2
      go_ret
      exact ⟨rfl, rfl⟩
  · have hE' : ((E : Int) != 0) = true := by simp; omega
    have e5 : rEnd E l = E := by simp [rEnd, hE]
    rw [e5]
    clear e5
    go_enter Try.func50, Try.ntmps50
    go_wp2_with fail
    refine (failed_any w g E l HR.out).mono ?_
    rintro e w' ⟨rfl, rfl⟩
    go_wp2
    go_ret
    exact ⟨rfl, rfl⟩

set_option maxHeartbeats 400000 in
theorem open_any (a : Option Addr) (n c : Nat) (l : List Nat) (w : World) (h : Rd w a n l) (hn : n ≤ 1000000) :
    Calls Try.prog 48 #[.slice a n c] w fun e w' => ∃ g, e = .returned (.pointer (some ⟨g, 0, none⟩)) ∧ w.heap.size ≤ g ∧ Rdr w' 110 g 0 l ∧ Below w.heap.size w w' := by
  have HR := Lib.hid h
  clear h
  go_enter Try.func48, Try.ntmps48
  go_wp2_with fail
  refine (clone_sl a n c l w HR.out hn).mono ?_
  rintro e w1 ⟨a', c', rfl, hr, hc, hb⟩
  have HRd := Lib.hid hr
  clear hr
  go_wp2
  go_ret
  exact ⟨_, rfl, hb.size, ⟨a', n, c', heap_alloc_new w1 _, HRd.out.later (Below.alloc0 _ _), hc, hn⟩, hb.alloc hb.size _⟩

/-- A reader that lies, with its bytes, from block 'lo' on. -/
def RdrLo (w : World) (T g E : Nat) (l : List Nat) (lo : Nat) : Prop :=
  ∃ a n c, w.heap[g]? = some (.cells #[.slice a n c, .int .i64 (E : Int)] T (0, 0)) ∧ Rd w a n l ∧ n ≤ c ∧ n ≤ 1000000 ∧ lo ≤ g ∧ ∀ b o, a = some ⟨b, o, none⟩ → lo ≤ b

theorem RdrLo.keep {w w' : World} {T g E lo : Nat} {l : List Nat} (h : RdrLo w T g E l lo) (hk : ∀ k, lo ≤ k → k < w.heap.size → w'.heap[k]? = w.heap[k]?) : RdrLo w' T g E l lo := by
  obtain ⟨a, n, c, hg, hr, hc, hm, hlo, hb⟩ := h
  refine ⟨a, n, c, (hk g hlo (lt_of_block hg)).trans hg, ⟨hr.1, hr.2.1, fun hn => ?_⟩, hc, hm, hlo, hb⟩
  obtain ⟨b, o, rfl, hcell⟩ := hr.2.2 hn
  refine ⟨b, o, rfl, fun j hj => ?_⟩
  exact (World.cell?_of_block (w := w) (hk b (hb b o rfl) (World.block_lt_of_cell? w _ (hcell j hj)))).trans (hcell j hj)

theorem RdrLo.rdr {w : World} {T g E lo : Nat} {l : List Nat} (h : RdrLo w T g E l lo) : Rdr w T g E l := by
  obtain ⟨a, n, c, hg, hr, hc, hm, _⟩ := h
  exact ⟨a, n, c, hg, hr, hc, hm⟩

set_option maxHeartbeats 400000 in
theorem openLo_any (a : Option Addr) (n c : Nat) (l : List Nat) (w : World) (h : Rd w a n l) (hn : n ≤ 1000000) :
    Calls Try.prog 48 #[.slice a n c] w fun e w' => ∃ g, e = .returned (.pointer (some ⟨g, 0, none⟩)) ∧ RdrLo w' 110 g 0 l w.heap.size ∧ Below w.heap.size w w' := by
  have hcl : Calls Try.prog 29 #[.slice a n c] w fun e w' => ∃ a' c', e = .returned (.slice a' n c') ∧ Rd w' a' n l ∧ n ≤ c' ∧ Below w.heap.size w w' ∧ ∀ b o, a' = some ⟨b, o, none⟩ → w.heap.size ≤ b := by
    refine (clone_any a n c l w h hn).mono ?_
    rintro e w' ⟨v, rfl, ho, hb⟩
    obtain ⟨a', c', rfl, hr, hc, hlo⟩ := ho.lies
    rw [h.1] at hr hc ⊢
    exact ⟨a', c', rfl, hr, hc, hb, hlo⟩
  have HC := Lib.hid hcl
  clear h hcl
  go_enter Try.func48, Try.ntmps48
  go_wp2_with fail
  refine HC.out.mono ?_
  rintro e w1 ⟨a', c', rfl, hr, hc, hb, hlo⟩
  have HRd := Lib.hid hr
  have HLo := Lib.hid hlo
  clear hr hlo
  go_wp2
  go_ret
  exact ⟨_, rfl, ⟨a', n, c', heap_alloc_new w1 _, HRd.out.later (Below.alloc0 _ _), hc, hn, hb.size, HLo.out⟩, hb.alloc hb.size _⟩

theorem rNum_put (x : Nat) (r : List Nat) (hx : x ≤ 18446744073709551615) : rNum 0 (vEnc x ++ r) 18446744073709551615 = (x, 0, r) := by
  obtain ⟨h1, h2, h3⟩ := vRead (n := x) r (by omega)
  rw [rNum_ok h1 (by omega), h2, h3]
  simp

end Go.Proofs.Ytkfnjekeegebaaa
