/- A reader that lies, with its bytes, beside a block; the contract of Number there; over any world. -/
import Derived.Test.YtcmbnijjkpfhlaaVRdr
import Derived.Test.YtcmbnijjkpfhlaaSave
import Derived.Test.YtcmbnijjkpfhlaaGVBytesC
namespace Go.Proofs.Ytcmbnijjkpfhlaa
open Go.RowKit

/-- A reader that lies, with its bytes, beside block B. -/
def RdrNe (w : World) (T g E : Nat) (l : List Nat) (B : Nat) : Prop :=
  ∃ a n c, w.heap[g]? = some (.cells #[.slice a n c, .int .i64 (E : Int)] T (0, 0)) ∧ Rd w a n l ∧ n ≤ c ∧ n ≤ 1000000 ∧ g ≠ B ∧ ∀ b o, a = some ⟨b, o, none⟩ → 0 < n → b ≠ B

theorem RdrNe.rdr {w : World} {T g E B : Nat} {l : List Nat} (h : RdrNe w T g E l B) : Rdr w T g E l := by
  obtain ⟨a, n, c, hg, hr, hc, hm, _⟩ := h
  exact ⟨a, n, c, hg, hr, hc, hm⟩

/-- What happens in block B alone, or behind all that there is, leaves it as it is. -/
theorem RdrNe.save {w w' : World} {T g E B : Nat} {l : List Nat} (h : RdrNe w T g E l B) (hs : Save [B] w w') : RdrNe w' T g E l B := by
  obtain ⟨a, n, c, hg, hr, hc, hm, hgB, hbB⟩ := h
  refine ⟨a, n, c, (hs.block g (lt_of_block hg) (by simpa using hgB)).trans hg, ⟨hr.1, hr.2.1, fun hn => ?_⟩, hc, hm, hgB, hbB⟩
  obtain ⟨b, o, rfl, hcell⟩ := hr.2.2 hn
  refine ⟨b, o, rfl, fun j hj => ?_⟩
  rw [← hcell j hj]
  simp only [World.cell?, hs.block b (World.block_lt_of_cell? w _ (hcell j hj)) (by simpa using hbB b o rfl hn)]

theorem RdrNe.later {w w' : World} {T g E B : Nat} {l : List Nat} (h : RdrNe w T g E l B) (hb : Below w.heap.size w w') : RdrNe w' T g E l B := h.save (Save.of_below hb _)

/-- A reader that lies from a block on lies not in one ahead of that. -/
theorem RdrLo.ne {w : World} {T g E lo B : Nat} {l : List Nat} (h : RdrLo w T g E l lo) (hB : B < lo) : RdrNe w T g E l B := by
  obtain ⟨a, n, c, hg, hr, hc, hm, hlo, hb⟩ := h
  refine ⟨a, n, c, hg, hr, hc, hm, by omega, fun b o he _ => ?_⟩
  have := hb b o he
  omega

theorem RdrNe.fail {w : World} {T g n c B : Nat} {a : Option Addr} {l : List Nat} {E0 : Int} (E : Nat) (hg : w.heap[g]? = some (.cells #[.slice a n c, .int .i64 E0] T (0, 0))) (hr : Rd w a n l) (hc : n ≤ c) (hm : n ≤ 1000000) (hB : g ≠ B ∧ ∀ b o, a = some ⟨b, o, none⟩ → 0 < n → b ≠ B) :
    RdrNe (w.setCell ⟨g, 1, none⟩ (.int .i64 (E : Int))) T g E l B :=
  ⟨a, n, c, by simpa using heap_setCell_same w g 1 _ T (.int .i64 (E : Int)) hg, hr.beside hg (grown_set w g 1 _), hc, hm, hB.1, hB.2⟩

theorem RdrNe.move {w : World} {T g n c k B : Nat} {a : Option Addr} {l : List Nat} {E : Nat} (hk : k ≤ n) (hg : w.heap[g]? = some (.cells #[.slice a n c, .int .i64 (E : Int)] T (0, 0))) (hr : Rd w a n l) (hc : n ≤ c) (hm : n ≤ 1000000) (hB : g ≠ B ∧ ∀ b o, a = some ⟨b, o, none⟩ → 0 < n → b ≠ B) :
    RdrNe (w.setCell ⟨g, 0, none⟩ (.slice (cutA a c k) (n - k) (c - k))) T g E (l.drop k) B := by
  refine ⟨_, _, _, by simpa using heap_setCell_same w g 0 _ T (.slice (cutA a c k) (n - k) (c - k)) hg, (hr.cut hk hc).beside hg (grown_set w g 0 _), by omega, by omega, hB.1, ?_⟩
  intro b o he hn
  unfold cutA at he
  rw [if_neg (by omega)] at he
  cases a with
  | none => simp at he
  | some ad =>
    obtain ⟨b', o', f'⟩ := ad
    obtain ⟨b2, o2, h2, _⟩ := hr.2.2 (by omega)
    injection h2 with h2
    rw [h2] at he
    simp only [Option.map_some, add_plain] at he
    injection he with he
    injection he with e1 e2
    subst e1
    exact hB.2 b2 o2 (by rw [h2]) (by omega)

set_option maxHeartbeats 400000 in
theorem numberNe_any (w : World) (g E : Nat) (l : List Nat) (most : Nat) (B : Nat) (h : RdrNe w 125 g E l B) :
    Calls Try.prog 60 #[.pointer (some ⟨g, 0, none⟩), .int .u64 (most : Int)] w fun e w' => e = .returned (.int .u64 ((rNum E l most).1 : Int)) ∧ RdrNe w' 125 g (rNum E l most).2.1 (rNum E l most).2.2 B ∧ w.grownBy w' (some g) := by
  have HR := Lib.hid h
  obtain ⟨a, n, c, hg, hr, hc, hm, hgB, hbB⟩ := h
  have HHi := Lib.hid (And.intro hgB hbB)
  have h0 : w.cell? ⟨g, 0, none⟩ = some (.slice a n c) := by rw [cell_of_row w g 0 _ 125 (0, 0) hg]; rfl
  have h1 : w.cell? ⟨g, 1, none⟩ = some (.int .i64 (E : Int)) := by rw [cell_of_row w g 1 _ 125 (0, 0) hg]; rfl
  have f0 : w.frozen? ⟨g, 0, none⟩ = false := by simp [World.frozen?, hg]
  have f1 : w.frozen? ⟨g, 1, none⟩ = false := by simp [World.frozen?, hg]
  have HG := Lib.hid hg
  have HRd := Lib.hid hr
  clear hg hr hgB hbB
  by_cases hE : E = 0
  · subst hE
    have hN := next_any a n c l w HRd.out hm
    obtain ⟨e, he⟩ : ∃ e, e = vErr l := ⟨_, rfl⟩
    obtain ⟨K, hK⟩ : ∃ K, K = vLen l := ⟨_, rfl⟩
    obtain ⟨X, hX⟩ : ∃ X, X = vNum l := ⟨_, rfl⟩
    rw [← he, ← hK, ← hX] at hN
    have HN := Lib.hid hN
    have HE := Lib.hid he
    have HK := Lib.hid hK
    have HX := Lib.hid hX
    clear hN he hK hX
    by_cases hz : e = 0
    · subst hz
      have hKn : K ≤ n := by
        have := (vOne HRd.out.2.1 HE.out.symm).2.2.2.1
        have h2 := HRd.out.1
        have h3 := HK.out
        omega
      have hs := fun W => slice_from a n c K .i64 hKn W
      by_cases hlong : most < X
      · have hlong' : (most : Int) < (X : Int) := by omega
        go_enter Try.func60, Try.ntmps60
        go_wp2_with fail
        refine (failed_any w g 0 l HR.out.rdr).mono ?_
        rintro e w' ⟨rfl, rfl⟩
        go_wp2_with fail
        refine HN.out.mono ?_
        rintro e w' ⟨rfl, rfl⟩
        go_wp2
        go_ret
        rw [rNum_long HE.out.symm (by rw [← HX.out]; exact hlong)]
        exact ⟨rfl, RdrNe.fail 5 HG.out HRd.out hc hm HHi.out, grown_set _ _ _ _⟩
      · have hlong' : (X : Int) ≤ (most : Int) := by omega
        go_enter Try.func60, Try.ntmps60
        go_wp2_with fail
        refine (failed_any w g 0 l HR.out.rdr).mono ?_
        rintro e w' ⟨rfl, rfl⟩
        go_wp2_with fail
        refine HN.out.mono ?_
        rintro e w' ⟨rfl, rfl⟩
        go_wp2
        go_ret
        rw [rNum_ok HE.out.symm (by rw [← HX.out]; exact hlong), ← HX.out, ← HK.out]
        exact ⟨rfl, RdrNe.move hKn HG.out HRd.out hc hm HHi.out, grown_set _ _ _ _⟩
    · have hz1 : ((e : Int) == 0) = false := by simp; omega
      have hz2 : ((e : Int) != 0) = true := by simp; omega
      go_enter Try.func60, Try.ntmps60
      go_wp2_with fail
      refine (failed_any w g 0 l HR.out.rdr).mono ?_
      rintro e w' ⟨rfl, rfl⟩
      go_wp2_with fail
      refine HN.out.mono ?_
      rintro e w' ⟨rfl, rfl⟩
      go_wp2
      go_ret
      rw [rNum_err (by rw [← HE.out]; exact hz), ← HE.out]
      exact ⟨rfl, RdrNe.fail _ HG.out HRd.out hc hm HHi.out, grown_set _ _ _ _⟩
  · have hE' : ((E : Int) != 0) = true := by simp; omega
    go_enter Try.func60, Try.ntmps60
    go_wp2_with fail
    refine (failed_any w g E l HR.out.rdr).mono ?_
    rintro e w' ⟨rfl, rfl⟩
    go_wp2
    go_ret
    rw [rNum_failed hE]
    exact ⟨rfl, HR.out, World.grownBy.refl _ _⟩

end Go.Proofs.Ytcmbnijjkpfhlaa

/- The contract of a reader's Bytes, of a reader that lies beside a block. -/
namespace Go.Proofs.Ytcmbnijjkpfhlaa
open Go.RowKit

set_option maxHeartbeats 400000 in
theorem bytesNe_any (w : World) (g E : Nat) (l : List Nat) (m : Int) (most B : Nat) (hm : m = most ∨ (m < 0 ∧ most = 0)) (hm2 : most ≤ 1000000) (h : RdrNe w 125 g E l B) :
    Calls Try.prog 59 #[.pointer (some ⟨g, 0, none⟩), .int .i64 m] w fun e w' => ∃ a n c, e = .returned (.slice a n c) ∧ n ≤ c ∧ Rd w' a n (rByt E l most).1 ∧ RdrNe w' 125 g (rByt E l most).2.1 (rByt E l most).2.2 B ∧ w.grownBy w' (some g) := by
  have hN := numberNe_any w g E l most B h
  obtain ⟨⟨k, E1, l1⟩, hk⟩ : ∃ k, k = rNum E l most := ⟨_, rfl⟩
  rw [← hk] at hN
  dsimp only at hN
  have HN : Hid (∀ x : Int, x = most → Calls Try.prog 60 #[.pointer (some ⟨g, 0, none⟩), .int .u64 x] w fun e w' => e = .returned (.int .u64 (k : Int)) ∧ RdrNe w' 125 g E1 l1 B ∧ w.grownBy w' (some g)) := by
    intro x hx
    rw [hx]; exact hN
  have HK := Lib.hid hk.symm
  clear hN hk h
  go_enter Try.func59, Try.ntmps59
  go_wp2_with fail
  all_goals
    refine (HN.out _ (by omega)).mono ?_
    rintro e w1 ⟨rfl, hr1, hg1⟩
    have HR := Lib.hid hr1
    obtain ⟨a, n, c, hg, hr, hc, hmx, hgB, hbB⟩ := hr1
    have HHi := Lib.hid (And.intro hgB hbB)
    clear hgB hbB
    have h0 : w1.cell? ⟨g, 0, none⟩ = some (.slice a n c) := by rw [cell_of_row w1 g 0 _ 125 (0, 0) hg]; rfl
    have h1 : w1.cell? ⟨g, 1, none⟩ = some (.int .i64 (E1 : Int)) := by rw [cell_of_row w1 g 1 _ 125 (0, 0) hg]; rfl
    have f0 : w1.frozen? ⟨g, 0, none⟩ = false := by simp [World.frozen?, hg]
    have f1 : w1.frozen? ⟨g, 1, none⟩ = false := by simp [World.frozen?, hg]
    have HG := Lib.hid hg
    have HRd := Lib.hid hr
    have HL := Lib.hid hr.1
    clear hg hr
    by_cases hE : E1 = 0
    · subst hE
      by_cases hk : n < k
      · have hk' : (n : Int) < (k : Int) := by omega
        have HB := Lib.hid (rByt_cut HK.out (by have := HL.out; omega))
        go_wp2_with fail
        refine (failed_any w1 g 0 l1 HR.out.rdr).mono ?_
        rintro e w' ⟨rfl, rfl⟩
        go_wp2
        go_ret
        rw [HB.out]
        exact ⟨_, _, _, rfl, by omega, ⟨rfl, by simp, by omega⟩, RdrNe.fail 2 HG.out HRd.out hc hmx HHi.out, hg1.trans (grown_set _ _ _ _)⟩
      · have hk' : (k : Int) ≤ (n : Int) := by omega
        have HB := Lib.hid (rByt_ok HK.out (by have := HL.out; omega))
        have hs := fun W => slice_from a n c k .u64 (by omega) W
        have hs2 := fun W => slice_to a n c k .u64 (by omega) W
        go_wp2_with fail
        refine (failed_any w1 g 0 l1 HR.out.rdr).mono ?_
        rintro e w' ⟨rfl, rfl⟩
        go_wp2_with fail
        refine (clone_sl a k c (l1.take k) w1 (HRd.out.first (by omega)) (by omega)).mono ?_
        rintro e w2 ⟨a2, c2, rfl, hr2, hc2, hb2⟩
        have hgl : g < w1.heap.size := World.block_lt_of_cell? w1 _ h0
        have HG2 : Hid (w2.heap[g]? = some (.cells #[.slice a n c, .int .i64 ((0 : Nat) : Int)] 125 (0, 0))) := (hb2.block g hgl).trans HG.out
        have HRd2 := Lib.hid (HRd.out.later hb2)
        have HR2 := Lib.hid hr2
        have HW := Lib.hid hb2
        have g0 : w2.cell? ⟨g, 0, none⟩ = some (.slice a n c) := by rw [cell_of_row w2 g 0 _ 125 (0, 0) HG2.out]; rfl
        have g1 : w2.frozen? ⟨g, 0, none⟩ = false := by simp [World.frozen?, HG2.out]
        clear hr2 hb2 h0 h1 f0 f1
        go_wp2
        go_ret
        rw [HB.out]
        exact ⟨_, _, _, rfl, by omega, HR2.out.beside HG2.out (grown_set _ _ _ _), RdrNe.move (E := 0) (by omega) HG2.out HRd2.out hc hmx HHi.out, (hg1.trans (grownBy_of_below HW.out _)).trans (grown_set _ _ _ _)⟩
    · have hE' : ((E1 : Int) != 0) = true := by simp; omega
      have HB := Lib.hid (rByt_err HK.out hE)
      go_wp2_with fail
      refine (failed_any w1 g E1 l1 HR.out.rdr).mono ?_
      rintro e w' ⟨rfl, rfl⟩
      go_wp2
      go_ret
      rw [HB.out]
      exact ⟨_, _, _, rfl, by omega, ⟨rfl, by simp, by omega⟩, HR.out, hg1⟩

end Go.Proofs.Ytcmbnijjkpfhlaa

/- A reader that lies, with its bytes, below a block; the contract of Number there; over any world. -/
namespace Go.Proofs.Ytcmbnijjkpfhlaa
open Go.RowKit

/-- A reader that lies, with its bytes, below block B. -/
def RdrHi (w : World) (T g E : Nat) (l : List Nat) (B : Nat) : Prop :=
  ∃ a n c, w.heap[g]? = some (.cells #[.slice a n c, .int .i64 (E : Int)] T (0, 0)) ∧ Rd w a n l ∧ n ≤ c ∧ n ≤ 1000000 ∧ g < B ∧ ∀ b o, a = some ⟨b, o, none⟩ → 0 < n → b < B

theorem RdrHi.rdr {w : World} {T g E B : Nat} {l : List Nat} (h : RdrHi w T g E l B) : Rdr w T g E l := by
  obtain ⟨a, n, c, hg, hr, hc, hm, _⟩ := h
  exact ⟨a, n, c, hg, hr, hc, hm⟩

theorem Rdr.hi {w : World} {T g E : Nat} {l : List Nat} (h : Rdr w T g E l) : RdrHi w T g E l w.heap.size := by
  obtain ⟨a, n, c, hg, hr, hc, hm⟩ := h
  refine ⟨a, n, c, hg, hr, hc, hm, lt_of_block hg, ?_⟩
  rintro b o rfl hn
  obtain ⟨b', o', he, hcell⟩ := hr.2.2 hn
  injection he with he
  injection he with e1 e2
  subst e1
  exact World.block_lt_of_cell? w _ (hcell 0 hn)

theorem RdrHi.below {w w' : World} {T g E B : Nat} {l : List Nat} (h : RdrHi w T g E l B) (hb : Below B w w') : RdrHi w' T g E l B := by
  obtain ⟨a, n, c, hg, hr, hc, hm, hgB, hbB⟩ := h
  refine ⟨a, n, c, (hb.block g hgB).trans hg, ⟨hr.1, hr.2.1, fun hn => ?_⟩, hc, hm, hgB, hbB⟩
  obtain ⟨b, o, rfl, hcell⟩ := hr.2.2 hn
  exact ⟨b, o, rfl, fun j hj => (hb.cell (p := ⟨b, o + j, none⟩) (hbB b o rfl hn)).trans (hcell j hj)⟩

theorem RdrHi.fail {w : World} {T g n c B : Nat} {a : Option Addr} {l : List Nat} {E0 : Int} (E : Nat) (hg : w.heap[g]? = some (.cells #[.slice a n c, .int .i64 E0] T (0, 0))) (hr : Rd w a n l) (hc : n ≤ c) (hm : n ≤ 1000000) (hB : g < B ∧ ∀ b o, a = some ⟨b, o, none⟩ → 0 < n → b < B) :
    RdrHi (w.setCell ⟨g, 1, none⟩ (.int .i64 (E : Int))) T g E l B :=
  ⟨a, n, c, by simpa using heap_setCell_same w g 1 _ T (.int .i64 (E : Int)) hg, hr.beside hg (grown_set w g 1 _), hc, hm, hB.1, hB.2⟩

theorem RdrHi.move {w : World} {T g n c k B : Nat} {a : Option Addr} {l : List Nat} {E : Nat} (hk : k ≤ n) (hg : w.heap[g]? = some (.cells #[.slice a n c, .int .i64 (E : Int)] T (0, 0))) (hr : Rd w a n l) (hc : n ≤ c) (hm : n ≤ 1000000) (hB : g < B ∧ ∀ b o, a = some ⟨b, o, none⟩ → 0 < n → b < B) :
    RdrHi (w.setCell ⟨g, 0, none⟩ (.slice (cutA a c k) (n - k) (c - k))) T g E (l.drop k) B := by
  refine ⟨_, _, _, by simpa using heap_setCell_same w g 0 _ T (.slice (cutA a c k) (n - k) (c - k)) hg, (hr.cut hk hc).beside hg (grown_set w g 0 _), by omega, by omega, hB.1, ?_⟩
  intro b o he hn
  unfold cutA at he
  rw [if_neg (by omega)] at he
  cases a with
  | none => simp at he
  | some ad =>
    obtain ⟨b', o', f'⟩ := ad
    obtain ⟨b2, o2, h2, _⟩ := hr.2.2 (by omega)
    injection h2 with h2
    rw [h2] at he
    simp only [Option.map_some, add_plain] at he
    injection he with he
    injection he with e1 e2
    subst e1
    exact hB.2 b2 o2 (by rw [h2]) (by omega)

set_option maxHeartbeats 400000 in
theorem numberHi_any (w : World) (g E : Nat) (l : List Nat) (most : Nat) (B : Nat) (h : RdrHi w 125 g E l B) :
    Calls Try.prog 60 #[.pointer (some ⟨g, 0, none⟩), .int .u64 (most : Int)] w fun e w' => e = .returned (.int .u64 ((rNum E l most).1 : Int)) ∧ RdrHi w' 125 g (rNum E l most).2.1 (rNum E l most).2.2 B ∧ w.grownBy w' (some g) := by
  have HR := Lib.hid h
  obtain ⟨a, n, c, hg, hr, hc, hm, hgB, hbB⟩ := h
  have HHi := Lib.hid (And.intro hgB hbB)
  have h0 : w.cell? ⟨g, 0, none⟩ = some (.slice a n c) := by rw [cell_of_row w g 0 _ 125 (0, 0) hg]; rfl
  have h1 : w.cell? ⟨g, 1, none⟩ = some (.int .i64 (E : Int)) := by rw [cell_of_row w g 1 _ 125 (0, 0) hg]; rfl
  have f0 : w.frozen? ⟨g, 0, none⟩ = false := by simp [World.frozen?, hg]
  have f1 : w.frozen? ⟨g, 1, none⟩ = false := by simp [World.frozen?, hg]
  have HG := Lib.hid hg
  have HRd := Lib.hid hr
  clear hg hr hgB hbB
  by_cases hE : E = 0
  · subst hE
    have hN := next_any a n c l w HRd.out hm
    obtain ⟨e, he⟩ : ∃ e, e = vErr l := ⟨_, rfl⟩
    obtain ⟨K, hK⟩ : ∃ K, K = vLen l := ⟨_, rfl⟩
    obtain ⟨X, hX⟩ : ∃ X, X = vNum l := ⟨_, rfl⟩
    rw [← he, ← hK, ← hX] at hN
    have HN := Lib.hid hN
    have HE := Lib.hid he
    have HK := Lib.hid hK
    have HX := Lib.hid hX
    clear hN he hK hX
    by_cases hz : e = 0
    · subst hz
      have hKn : K ≤ n := by
        have := (vOne HRd.out.2.1 HE.out.symm).2.2.2.1
        have h2 := HRd.out.1
        have h3 := HK.out
        omega
      have hs := fun W => slice_from a n c K .i64 hKn W
      by_cases hlong : most < X
      · have hlong' : (most : Int) < (X : Int) := by omega
        go_enter Try.func60, Try.ntmps60
        go_wp2_with fail
        refine (failed_any w g 0 l HR.out.rdr).mono ?_
        rintro e w' ⟨rfl, rfl⟩
        go_wp2_with fail
        refine HN.out.mono ?_
        rintro e w' ⟨rfl, rfl⟩
        go_wp2
        go_ret
        rw [rNum_long HE.out.symm (by rw [← HX.out]; exact hlong)]
        exact ⟨rfl, RdrHi.fail 5 HG.out HRd.out hc hm HHi.out, grown_set _ _ _ _⟩
      · have hlong' : (X : Int) ≤ (most : Int) := by omega
        go_enter Try.func60, Try.ntmps60
        go_wp2_with fail
        refine (failed_any w g 0 l HR.out.rdr).mono ?_
        rintro e w' ⟨rfl, rfl⟩
        go_wp2_with fail
        refine HN.out.mono ?_
        rintro e w' ⟨rfl, rfl⟩
        go_wp2
        go_ret
        rw [rNum_ok HE.out.symm (by rw [← HX.out]; exact hlong), ← HX.out, ← HK.out]
        exact ⟨rfl, RdrHi.move hKn HG.out HRd.out hc hm HHi.out, grown_set _ _ _ _⟩
    · have hz1 : ((e : Int) == 0) = false := by simp; omega
      have hz2 : ((e : Int) != 0) = true := by simp; omega
      go_enter Try.func60, Try.ntmps60
      go_wp2_with fail
      refine (failed_any w g 0 l HR.out.rdr).mono ?_
      rintro e w' ⟨rfl, rfl⟩
      go_wp2_with fail
      refine HN.out.mono ?_
      rintro e w' ⟨rfl, rfl⟩
      go_wp2
      go_ret
      rw [rNum_err (by rw [← HE.out]; exact hz), ← HE.out]
      exact ⟨rfl, RdrHi.fail _ HG.out HRd.out hc hm HHi.out, grown_set _ _ _ _⟩
  · have hE' : ((E : Int) != 0) = true := by simp; omega
    go_enter Try.func60, Try.ntmps60
    go_wp2_with fail
    refine (failed_any w g E l HR.out.rdr).mono ?_
    rintro e w' ⟨rfl, rfl⟩
    go_wp2
    go_ret
    rw [rNum_failed hE]
    exact ⟨rfl, HR.out, World.grownBy.refl _ _⟩

theorem rNum_le (E : Nat) (l : List Nat) (most : Nat) : (rNum E l most).1 ≤ most := by
  unfold rNum
  split
  · simp
  · split
    · simp
    · split
      · simp
      · simp only; omega

theorem rNum_lt {l : List Nat} {most : Nat} (hb : ∀ x ∈ l, x < 256) (h : (rNum 0 l most).2.1 = 0) : (rNum 0 l most).2.2.length < l.length := by
  unfold rNum at h ⊢
  rw [if_neg (by omega)] at h ⊢
  by_cases h1 : vErr l ≠ 0
  · rw [if_pos h1] at h
    exact absurd h h1
  · rw [if_neg h1] at h ⊢
    have h1' : vErr l = 0 := by omega
    obtain ⟨_, g2, _, g4, _⟩ := vOne hb h1'
    split at h
    · simp at h
    · rename_i h3
      rw [if_neg h3]
      simp only [List.length_drop]
      omega

theorem rNum_bytes {E : Nat} {l : List Nat} {most : Nat} (hb : ∀ x ∈ l, x < 256) : ∀ x ∈ (rNum E l most).2.2, x < 256 := by
  unfold rNum
  split
  · exact hb
  · split
    · exact hb
    · split
      · exact hb
      · intro x hx; exact hb x (List.mem_of_mem_drop hx)

theorem rNum_err0 {E : Nat} {l : List Nat} {most : Nat} (h : E ≠ 0) : (rNum E l most).2.1 = E := by rw [rNum_failed h]

theorem rNum_zero {E : Nat} {l : List Nat} {most : Nat} (h : (rNum E l most).2.1 ≠ 0) : (rNum E l most).1 = 0 := by
  unfold rNum at h ⊢
  split
  · rfl
  · split
    · rfl
    · split
      · rfl
      · rename_i h1 h2 h3
        rw [if_neg h1, if_neg h2, if_neg h3] at h
        exact absurd rfl h

end Go.Proofs.Ytcmbnijjkpfhlaa
