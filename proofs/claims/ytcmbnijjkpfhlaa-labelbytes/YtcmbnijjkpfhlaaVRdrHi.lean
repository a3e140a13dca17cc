/- A reader that lies, with its bytes, below a block; the contract of Number there; over any world. -/
import Derived.Test.YtcmbnijjkpfhlaaVRdr
namespace Go.Proofs.Ytcmbnijjkpfhlaa
open Go.RowKit

/-- A reader that lies, with its bytes, below block B. -/
def RdrHi (w : World) (T g E : Nat) (l : List Nat) (B : Nat) : Prop :=
  ∃ a n c, w.heap[g]? = some (.cells #[.slice a n c, .int .i64 (E : Int)] T (0, 0)) ∧ Rd w a n l ∧ n ≤ c ∧ n ≤ 1000000 ∧ g < B ∧ ∀ b o, a = some ⟨b, o, none⟩ → 0 < n → b < B

theorem RdrHi.rdr {w : World} {T g E B : Nat} {l : List Nat} (h : RdrHi w T g E l B) : Rdr w T g E l := by
  obtain ⟨a, n, c, hg, hr, hc, hm, _⟩ := h
  exact ⟨a, n, c, hg, hr, hc, hm⟩

theorem Rdr.hi {w : World} {T g E : Nat} {l : List Nat} (h : Rdr w T g E l) : RdrHi w T g E l w.heap.size := by
  obtain ⟨a, n, c, hg, hr, hc, hm⟩ := h
  refine ⟨a, n, c, hg, hr, hc, hm, lt_of_block hg, ?_⟩
  rintro b o rfl hn
  obtain ⟨b', o', he, hcell⟩ := hr.2.2 hn
  injection he with he
  injection he with e1 e2
  subst e1
  exact World.block_lt_of_cell? w _ (hcell 0 hn)

theorem RdrHi.below {w w' : World} {T g E B : Nat} {l : List Nat} (h : RdrHi w T g E l B) (hb : Below B w w') : RdrHi w' T g E l B := by
  obtain ⟨a, n, c, hg, hr, hc, hm, hgB, hbB⟩ := h
  refine ⟨a, n, c, (hb.block g hgB).trans hg, ⟨hr.1, hr.2.1, fun hn => ?_⟩, hc, hm, hgB, hbB⟩
  obtain ⟨b, o, rfl, hcell⟩ := hr.2.2 hn
  exact ⟨b, o, rfl, fun j hj => (hb.cell (p := ⟨b, o + j, none⟩) (hbB b o rfl hn)).trans (hcell j hj)⟩

theorem RdrHi.fail {w : World} {T g n c B : Nat} {a : Option Addr} {l : List Nat} {E0 : Int} (E : Nat) (hg : w.heap[g]? = some (.cells #[.slice a n c, .int .i64 E0] T (0, 0))) (hr : Rd w a n l) (hc : n ≤ c) (hm : n ≤ 1000000) (hB : g < B ∧ ∀ b o, a = some ⟨b, o, none⟩ → 0 < n → b < B) :
    RdrHi (w.setCell ⟨g, 1, none⟩ (.int .i64 (E : Int))) T g E l B :=
  ⟨a, n, c, by simpa using heap_setCell_same w g 1 _ T (.int .i64 (E : Int)) hg, hr.beside hg (grown_set w g 1 _), hc, hm, hB.1, hB.2⟩

theorem RdrHi.move {w : World} {T g n c k B : Nat} {a : Option Addr} {l : List Nat} {E : Nat} (hk : k ≤ n) (hg : w.heap[g]? = some (.cells #[.slice a n c, .int .i64 (E : Int)] T (0, 0))) (hr : Rd w a n l) (hc : n ≤ c) (hm : n ≤ 1000000) (hB : g < B ∧ ∀ b o, a = some ⟨b, o, none⟩ → 0 < n → b < B) :
    RdrHi (w.setCell ⟨g, 0, none⟩ (.slice (cutA a c k) (n - k) (c - k))) T g E (l.drop k) B := by
  refine ⟨_, _, _, by simpa using heap_setCell_same w g 0 _ T (.slice (cutA a c k) (n - k) (c - k)) hg, (hr.cut hk hc).beside hg (grown_set w g 0 _), by omega, by omega, hB.1, ?_⟩
  intro b o he hn
  unfold cutA at he
  rw [if_neg (by omega)] at he
  cases a with
  | none => simp at he
  | some ad =>
    obtain ⟨b', o', f'⟩ := ad
    obtain ⟨b2, o2, h2, _⟩ := hr.2.2 (by omega)
    injection h2 with h2
    rw [h2] at he
    simp only [Option.map_some, add_plain] at he
    injection he with he
    injection he with e1 e2
    subst e1
    exact hB.2 b2 o2 (by rw [h2]) (by omega)

set_option maxHeartbeats 400000 in
theorem numberHi_any (w : World) (g E : Nat) (l : List Nat) (most : Nat) (B : Nat) (h : RdrHi w 125 g E l B) :
    Calls Try.prog 60 #[.pointer (some ⟨g, 0, none⟩), .int .u64 (most : Int)] w fun e w' => e = .returned (.int .u64 ((rNum E l most).1 : Int)) ∧ RdrHi w' 125 g (rNum E l most).2.1 (rNum E l most).2.2 B ∧ w.grownBy w' (some g) := by
  have HR := Lib.hid h
  obtain ⟨a, n, c, hg, hr, hc, hm, hgB, hbB⟩ := h
  have HHi := Lib.hid (And.intro hgB hbB)
  have h0 : w.cell? ⟨g, 0, none⟩ = some (.slice a n c) := by rw [cell_of_row w g 0 _ 125 (0, 0) hg]; rfl
  have h1 : w.cell? ⟨g, 1, none⟩ = some (.int .i64 (E : Int)) := by rw [cell_of_row w g 1 _ 125 (0, 0) hg]; rfl
  have f0 : w.frozen? ⟨g, 0, none⟩ = false := by simp [World.frozen?, hg]
  have f1 : w.frozen? ⟨g, 1, none⟩ = false := by simp [World.frozen?, hg]
  have HG := Lib.hid hg
  have HRd := Lib.hid hr
  clear hg hr hgB hbB
  by_cases hE : E = 0
  · subst hE
    have hN := next_any a n c l w HRd.out hm
    obtain ⟨e, he⟩ : ∃ e, e = vErr l := ⟨_, rfl⟩
    obtain ⟨K, hK⟩ : ∃ K, K = vLen l := ⟨_, rfl⟩
    obtain ⟨X, hX⟩ : ∃ X, X = vNum l := ⟨_, rfl⟩
    rw [← he, ← hK, ← hX] at hN
    have HN := Lib.hid hN
    have HE := Lib.hid he
    have HK := Lib.hid hK
    have HX := Lib.hid hX
    clear hN he hK hX
    by_cases hz : e = 0
    · subst hz
      have hKn : K ≤ n := by
        have := (vOne HRd.out.2.1 HE.out.symm).2.2.2.1
        have h2 := HRd.out.1
        have h3 := HK.out
        omega
      have hs := fun W => slice_from a n c K .i64 hKn W
      by_cases hlong : most < X
      · have hlong' : (most : Int) < (X : Int) := by omega
        go_enter Try.func60, Try.ntmps60
        go_wp2_with fail
        refine (failed_any w g 0 l HR.out.rdr).mono ?_
        rintro e w' ⟨rfl, rfl⟩
        go_wp2_with fail
        refine HN.out.mono ?_
        rintro e w' ⟨rfl, rfl⟩
        go_wp2
        go_ret
        rw [rNum_long HE.out.symm (by rw [← HX.out]; exact hlong)]
        exact ⟨rfl, RdrHi.fail 5 HG.out HRd.out hc hm HHi.out, grown_set _ _ _ _⟩
      · have hlong' : (X : Int) ≤ (most : Int) := by omega
        go_enter Try.func60, Try.ntmps60
        go_wp2_with fail
        refine (failed_any w g 0 l HR.out.rdr).mono ?_
        rintro e w' ⟨rfl, rfl⟩
        go_wp2_with fail
        refine HN.out.mono ?_
        rintro e w' ⟨rfl, rfl⟩
        go_wp2
        go_ret
        rw [rNum_ok HE.out.symm (by rw [← HX.out]; exact hlong), ← HX.out, ← HK.out]
        exact ⟨rfl, RdrHi.move hKn HG.out HRd.out hc hm HHi.out, grown_set _ _ _ _⟩
    · have hz1 : ((e : Int) == 0) = false := by simp; omega
      have hz2 : ((e : Int) != 0) = true := by simp; omega
      go_enter Try.func60, Try.ntmps60
      go_wp2_with fail
      refine (failed_any w g 0 l HR.out.rdr).mono ?_
      rintro e w' ⟨rfl, rfl⟩
      go_wp2_with fail
      refine HN.out.mono ?_
      rintro e w' ⟨rfl, rfl⟩
      go_wp2
      go_ret
      rw [rNum_err (by rw [← HE.out]; exact hz), ← HE.out]
      exact ⟨rfl, RdrHi.fail _ HG.out HRd.out hc hm HHi.out, grown_set _ _ _ _⟩
  · have hE' : ((E : Int) != 0) = true := by simp; omega
    go_enter Try.func60, Try.ntmps60
    go_wp2_with fail
    refine (failed_any w g E l HR.out.rdr).mono ?_
    rintro e w' ⟨rfl, rfl⟩
    go_wp2
    go_ret
    rw [rNum_failed hE]
    exact ⟨rfl, HR.out, World.grownBy.refl _ _⟩

theorem rNum_le (E : Nat) (l : List Nat) (most : Nat) : (rNum E l most).1 ≤ most := by
  unfold rNum
  split
  · simp
  · split
    · simp
    · split
      · simp
      · simp only; omega

theorem rNum_lt {l : List Nat} {most : Nat} (hb : ∀ x ∈ l, x < 256) (h : (rNum 0 l most).2.1 = 0) : (rNum 0 l most).2.2.length < l.length := by
  unfold rNum at h ⊢
  rw [if_neg (by omega)] at h ⊢
  by_cases h1 : vErr l ≠ 0
  · rw [if_pos h1] at h
    exact absurd h h1
  · rw [if_neg h1] at h ⊢
    have h1' : vErr l = 0 := by omega
    obtain ⟨_, g2, _, g4, _⟩ := vOne hb h1'
    split at h
    · simp at h
    · rename_i h3
      rw [if_neg h3]
      simp only [List.length_drop]
      omega

theorem rNum_bytes {E : Nat} {l : List Nat} {most : Nat} (hb : ∀ x ∈ l, x < 256) : ∀ x ∈ (rNum E l most).2.2, x < 256 := by
  unfold rNum
  split
  · exact hb
  · split
    · exact hb
    · split
      · exact hb
      · intro x hx; exact hb x (List.mem_of_mem_drop hx)

theorem rNum_err0 {E : Nat} {l : List Nat} {most : Nat} (h : E ≠ 0) : (rNum E l most).2.1 = E := by rw [rNum_failed h]

theorem rNum_zero {E : Nat} {l : List Nat} {most : Nat} (h : (rNum E l most).2.1 ≠ 0) : (rNum E l most).1 = 0 := by
  unfold rNum at h ⊢
  split
  · rfl
  · split
    · rfl
    · split
      · rfl
      · rename_i h1 h2 h3
        rw [if_neg h1, if_neg h2, if_neg h3] at h
        exact absurd rfl h

end Go.Proofs.Ytcmbnijjkpfhlaa
