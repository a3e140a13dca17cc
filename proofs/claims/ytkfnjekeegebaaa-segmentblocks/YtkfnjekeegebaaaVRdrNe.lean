/- A reader that lies, with its bytes, beside a block; the contract of Number there; over any world. -/
import Derived.Test.YtkfnjekeegebaaaVRdr
import Derived.Test.YtkfnjekeegebaaaSave
namespace Go.Proofs.Ytkfnjekeegebaaa
open Go.RowKit

/-- A reader that lies, with its bytes, beside block B. -/
def RdrNe (w : World) (T g E : Nat) (l : List Nat) (B : Nat) : Prop :=
  ∃ a n c, w.heap[g]? = some (.cells #[.slice a n c, .int .i64 (E : Int)] T (0, 0)) ∧ Rd w a n l ∧ n ≤ c ∧ n ≤ 1000000 ∧ g ≠ B ∧ ∀ b o, a = some ⟨b, o, none⟩ → 0 < n → b ≠ B

theorem RdrNe.rdr {w : World} {T g E B : Nat} {l : List Nat} (h : RdrNe w T g E l B) : Rdr w T g E l := by
  obtain ⟨a, n, c, hg, hr, hc, hm, _⟩ := h
  exact ⟨a, n, c, hg, hr, hc, hm⟩

/-- What happens in block B alone, or behind all that there is, leaves it as it is. -/
theorem RdrNe.save {w w' : World} {T g E B : Nat} {l : List Nat} (h : RdrNe w T g E l B) (hs : Save [B] w w') : RdrNe w' T g E l B := by
  obtain ⟨a, n, c, hg, hr, hc, hm, hgB, hbB⟩ := h
  refine ⟨a, n, c, (hs.block g (lt_of_block hg) (by simpa using hgB)).trans hg, ⟨hr.1, hr.2.1, fun hn => ?_⟩, hc, hm, hgB, hbB⟩
  obtain ⟨b, o, rfl, hcell⟩ := hr.2.2 hn
  refine ⟨b, o, rfl, fun j hj => ?_⟩
  rw [← hcell j hj]
  simp only [World.cell?, hs.block b (World.block_lt_of_cell? w _ (hcell j hj)) (by simpa using hbB b o rfl hn)]

theorem RdrNe.later {w w' : World} {T g E B : Nat} {l : List Nat} (h : RdrNe w T g E l B) (hb : Below w.heap.size w w') : RdrNe w' T g E l B := h.save (Save.of_below hb _)

/-- A reader that lies from a block on lies not in one ahead of that. -/
theorem RdrLo.ne {w : World} {T g E lo B : Nat} {l : List Nat} (h : RdrLo w T g E l lo) (hB : B < lo) : RdrNe w T g E l B := by
  obtain ⟨a, n, c, hg, hr, hc, hm, hlo, hb⟩ := h
  refine ⟨a, n, c, hg, hr, hc, hm, by omega, fun b o he _ => ?_⟩
  have := hb b o he
  omega

theorem RdrNe.fail {w : World} {T g n c B : Nat} {a : Option Addr} {l : List Nat} {E0 : Int} (E : Nat) (hg : w.heap[g]? = some (.cells #[.slice a n c, .int .i64 E0] T (0, 0))) (hr : Rd w a n l) (hc : n ≤ c) (hm : n ≤ 1000000) (hB : g ≠ B ∧ ∀ b o, a = some ⟨b, o, none⟩ → 0 < n → b ≠ B) :
    RdrNe (w.setCell ⟨g, 1, none⟩ (.int .i64 (E : Int))) T g E l B :=
  ⟨a, n, c, by simpa using heap_setCell_same w g 1 _ T (.int .i64 (E : Int)) hg, hr.beside hg (grown_set w g 1 _), hc, hm, hB.1, hB.2⟩

theorem RdrNe.move {w : World} {T g n c k B : Nat} {a : Option Addr} {l : List Nat} {E : Nat} (hk : k ≤ n) (hg : w.heap[g]? = some (.cells #[.slice a n c, .int .i64 (E : Int)] T (0, 0))) (hr : Rd w a n l) (hc : n ≤ c) (hm : n ≤ 1000000) (hB : g ≠ B ∧ ∀ b o, a = some ⟨b, o, none⟩ → 0 < n → b ≠ B) :
    RdrNe (w.setCell ⟨g, 0, none⟩ (.slice (cutA a c k) (n - k) (c - k))) T g E (l.drop k) B := by
  refine ⟨_, _, _, by simpa using heap_setCell_same w g 0 _ T (.slice (cutA a c k) (n - k) (c - k)) hg, (hr.cut hk hc).beside hg (grown_set w g 0 _), by omega, by omega, hB.1, ?_⟩
  intro b o he hn
  unfold cutA at he
  rw [if_neg (by omega)] at he
  cases a with
  | none => simp at he
  | some ad =>
    obtain ⟨b', o', f'⟩ := ad
    obtain ⟨b2, o2, h2, _⟩ := hr.2.2 (by omega)
    injection h2 with h2
    rw [h2] at he
    simp only [Option.map_some, add_plain] at he
    injection he with he
    injection he with e1 e2
    subst e1
    exact hB.2 b2 o2 (by rw [h2]) (by omega)

set_option maxHeartbeats 400000 in
theorem numberNe_any (w : World) (g E : Nat) (l : List Nat) (most : Nat) (B : Nat) (h : RdrNe w 110 g E l B) :
    Calls Try.prog 51 #[.pointer (some ⟨g, 0, none⟩), .int .u64 (most : Int)] w fun e w' => e = .returned (.int .u64 ((rNum E l most).1 : Int)) ∧ RdrNe w' 110 g (rNum E l most).2.1 (rNum E l most).2.2 B ∧ w.grownBy w' (some g) := by
  have HR := Lib.hid h
  obtain ⟨a, n, c, hg, hr, hc, hm, hgB, hbB⟩ := h
  have HHi := Lib.hid (And.intro hgB hbB)
  have h0 : w.cell? ⟨g, 0, none⟩ = some (.slice a n c) := by rw [cell_of_row w g 0 _ 110 (0, 0) hg]; rfl
  have h1 : w.cell? ⟨g, 1, none⟩ = some (.int .i64 (E : Int)) := by rw [cell_of_row w g 1 _ 110 (0, 0) hg]; rfl
  have f0 : w.frozen? ⟨g, 0, none⟩ = false := by simp [World.frozen?, hg]
  have f1 : w.frozen? ⟨g, 1, none⟩ = false := by simp [World.frozen?, hg]
  have HG := Lib.hid hg
  have HRd := Lib.hid hr
  clear hg hr hgB hbB
  by_cases hE : E = 0
  · subst hE
    have hN := next_any a n c l w HRd.out hm
    obtain ⟨e, he⟩ : ∃ e, e = vErr l := ⟨_, rfl⟩
    obtain ⟨K, hK⟩ : ∃ K, K = vLen l := ⟨_, rfl⟩
    obtain ⟨X, hX⟩ : ∃ X, X = vNum l := ⟨_, rfl⟩
    rw [← he, ← hK, ← hX] at hN
    have HN := Lib.hid hN
    have HE := Lib.hid he
    have HK := Lib.hid hK
    have HX := Lib.hid hX
    clear hN he hK hX
    by_cases hz : e = 0
    · subst hz
      have hKn : K ≤ n := by
        have := (vOne HRd.out.2.1 HE.out.symm).2.2.2.1
        have h2 := HRd.out.1
        have h3 := HK.out
        omega
      have hs := fun W => slice_from a n c K .i64 hKn W
      by_cases hlong : most < X
      · have hlong' : (most : Int) < (X : Int) := by omega
        go_enter Try.func51, Try.ntmps51
        go_wp2_with fail
        refine (failed_any w g 0 l HR.out.rdr).mono ?_
        rintro e w' ⟨rfl, rfl⟩
        go_wp2_with fail
        refine HN.out.mono ?_
        rintro e w' ⟨rfl, rfl⟩
        go_wp2
        go_ret
        rw [rNum_long HE.out.symm (by rw [← HX.out]; exact hlong)]
        exact ⟨rfl, RdrNe.fail 5 HG.out HRd.out hc hm HHi.out, grown_set _ _ _ _⟩
      · have hlong' : (X : Int) ≤ (most : Int) := by omega
        go_enter Try.func51, Try.ntmps51
        go_wp2_with fail
        refine (failed_any w g 0 l HR.out.rdr).mono ?_
        rintro e w' ⟨rfl, rfl⟩
        go_wp2_with fail
        refine HN.out.mono ?_
        rintro e w' ⟨rfl, rfl⟩
        go_wp2
        go_ret
        rw [rNum_ok HE.out.symm (by rw [← HX.out]; exact hlong), ← HX.out, ← HK.out]
        exact ⟨rfl, RdrNe.move hKn HG.out HRd.out hc hm HHi.out, grown_set _ _ _ _⟩
    · have hz1 : ((e : Int) == 0) = false := by simp; omega
      have hz2 : ((e : Int) != 0) = true := by simp; omega
      go_enter Try.func51, Try.ntmps51
      go_wp2_with fail
      refine (failed_any w g 0 l HR.out.rdr).mono ?_
      rintro e w' ⟨rfl, rfl⟩
      go_wp2_with fail
      refine HN.out.mono ?_
      rintro e w' ⟨rfl, rfl⟩
      go_wp2
      go_ret
      rw [rNum_err (by rw [← HE.out]; exact hz), ← HE.out]
      exact ⟨rfl, RdrNe.fail _ HG.out HRd.out hc hm HHi.out, grown_set _ _ _ _⟩
  · have hE' : ((E : Int) != 0) = true := by simp; omega
    go_enter Try.func51, Try.ntmps51
    go_wp2_with fail
    refine (failed_any w g E l HR.out.rdr).mono ?_
    rintro e w' ⟨rfl, rfl⟩
    go_wp2
    go_ret
    rw [rNum_failed hE]
    exact ⟨rfl, HR.out, World.grownBy.refl _ _⟩

end Go.Proofs.Ytkfnjekeegebaaa
