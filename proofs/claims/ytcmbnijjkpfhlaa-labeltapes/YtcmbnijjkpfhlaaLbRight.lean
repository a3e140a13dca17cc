/- Whether a label may be: both functions' contracts; the document's label of a label; over any world. -/
import Derived.Test.YtcmbnijjkpfhlaaLbPool
import Derived.Handy
namespace Go.Proofs.Ytcmbnijjkpfhlaa
open Go.RowKit
set_option linter.unusedSimpArgs false

/-- A label's cells. -/
theorem lab_cells {w : World} {q : Nat} {v0 v1 v2 : Value} {T : TypeId} (h : w.heap[q]? = some (.cells #[v0, v1, v2] T (0, 0))) :
    w.cell? ⟨q, 0, none⟩ = some v0 ∧ w.cell? ⟨q, 1, none⟩ = some v1 ∧ w.cell? ⟨q, 2, none⟩ = some v2 := by
  refine ⟨?_, ?_, ?_⟩ <;> simp [World.cell?, h]

theorem lab_frozen {w : World} {q : Nat} {v0 v1 v2 : Value} {T : TypeId} (h : w.heap[q]? = some (.cells #[v0, v1, v2] T (0, 0))) :
    w.frozen? ⟨q, 0, none⟩ = false ∧ w.frozen? ⟨q, 1, none⟩ = false ∧ w.frozen? ⟨q, 2, none⟩ = false := by
  refine ⟨?_, ?_, ?_⟩ <;> simp [World.frozen?, h]

set_option maxHeartbeats 1000000 in
set_option maxRecDepth 100000 in
theorem right_any (x : Lab) (w : World) (hf : x.fits) (hl : x.p.length ≤ 1000000) :
    Calls Try.prog 11 #[lbV x] w fun e w' => e = .returned (.bool x.ok) ∧ Below w.heap.size w w' := by
  obtain ⟨p, g, m⟩ := x
  have HP : Hid (∀ W, Below w.heap.size w W → Calls Try.prog 12 #[.string (strB p)] W fun e w' => e = .returned (.bool (poolB p)) ∧ Hid (Below w.heap.size w w' ∧ Below W.heap.size W w')) := by
    refine Lib.hid fun W hW => (pool_any p W hf hl).mono ?_
    rintro e w' ⟨rfl, hb⟩
    exact ⟨rfl, Lib.hid ⟨hW.trans (hb.mono hW.size), hb⟩⟩
  have HO : Hid (Lab.ok ⟨p, g, m⟩ = (poolB p && (decide (1 ≤ g) && (decide (g ≤ 1073741824) && (decide (0 ≤ m) && decide (m ≤ 1073741824)))))) := Lib.hid rfl
  obtain ⟨B, hB⟩ : ∃ B, B = poolB p := ⟨_, rfl⟩
  obtain ⟨R, hR⟩ : ∃ R, R = Lab.ok ⟨p, g, m⟩ := ⟨_, rfl⟩
  obtain ⟨s, hs⟩ : ∃ s, s = strB p := ⟨_, rfl⟩
  rw [← hB] at HP HO
  rw [← hR] at HO ⊢
  simp only [lbV]
  rw [← hs] at HP ⊢
  clear hB hR hs hf hl
  cases B with
  | false =>
    have hR : R = false := by rw [HO.out]; rfl
    subst hR
    go_enter Try.func11, Try.ntmps11
    go_wp2_with fail
    refine (HP.out _ (Below.alloc0 _ _)).mono ?_
    rintro e w1 ⟨rfl, HB⟩
    go_wp2
    go_ret
    exact ⟨rfl, HB.out.1⟩
  | true =>
    have hR : R = (decide (1 ≤ g) && (decide (g ≤ 1073741824) && (decide (0 ≤ m) && decide (m ≤ 1073741824)))) := by rw [HO.out]; simp
    have HR := Lib.hid hR
    clear hR HO
    go_enter Try.func11, Try.ntmps11
    go_wp2_with fail
    refine (HP.out _ (Below.alloc0 _ _)).mono ?_
    rintro e w1 ⟨rfl, HB⟩
    obtain ⟨c0, c1, c2⟩ := lab_cells ((HB.out.2.block w.heap.size (by simp)).trans (heap_alloc_new w _))
    by_cases k1 : 1 ≤ g
    · by_cases k2 : g ≤ 1073741824
      · by_cases k3 : 0 ≤ m
        · by_cases k4 : m ≤ 1073741824
          · have hR : R = true := by rw [HR.out]; simp; omega
            subst hR
            go_wp2
            go_ret
            exact ⟨rfl, HB.out.1⟩
          · have hR : R = false := by rw [HR.out]; simp; omega
            subst hR
            have hd : decide (m ≤ 1073741824) = false := decide_eq_false k4
            go_wp2
            go_ret
            exact ⟨rfl, HB.out.1⟩
        · have hR : R = false := by rw [HR.out]; simp; omega
          subst hR
          go_wp2
          go_ret
          exact ⟨rfl, HB.out.1⟩
      · have hR : R = false := by rw [HR.out]; simp; omega
        subst hR
        go_wp2
        go_ret
        exact ⟨rfl, HB.out.1⟩
    · have hR : R = false := by rw [HR.out]; simp; omega
      subst hR
      go_wp2
      go_ret
      exact ⟨rfl, HB.out.1⟩

set_option maxHeartbeats 1000000 in
set_option maxRecDepth 100000 in
theorem refRight_any (x : Lab) (w : World) (hf : x.fits) (hl : x.p.length ≤ 1000000) :
    Calls Try.prog 9 #[lbV x] w fun e w' => e = .returned (.bool x.ok) ∧ Below w.heap.size w w' := by
  obtain ⟨p, g, m⟩ := x
  have HP : Hid (∀ W, Calls Try.prog 13 #[.string (strB p)] W fun e w' => e = .returned (.bool (poolB p)) ∧ W = w') :=
    Lib.hid fun W => refPool_any p W hf hl
  have HO : Hid (Lab.ok ⟨p, g, m⟩ = (poolB p && (decide (1 ≤ g) && (decide (g ≤ 1073741824) && (decide (0 ≤ m) && decide (m ≤ 1073741824)))))) := Lib.hid rfl
  obtain ⟨B, hB⟩ : ∃ B, B = poolB p := ⟨_, rfl⟩
  obtain ⟨R, hR⟩ : ∃ R, R = Lab.ok ⟨p, g, m⟩ := ⟨_, rfl⟩
  obtain ⟨s, hs⟩ : ∃ s, s = strB p := ⟨_, rfl⟩
  rw [← hB] at HP HO
  rw [← hR] at HO ⊢
  simp only [lbV]
  rw [← hs] at HP ⊢
  clear hB hR hs hf hl
  cases B with
  | false =>
    have hR : R = false := by rw [HO.out]; rfl
    subst hR
    go_enter Try.func9, Try.ntmps9
    go_wp2_with fail
    refine (HP.out _).mono ?_
    rintro e w1 ⟨rfl, rfl⟩
    go_wp2
    go_ret
    exact ⟨rfl, Below.alloc0 _ _⟩
  | true =>
    have hR : R = (decide (1 ≤ g) && (decide (g ≤ 1073741824) && (decide (0 ≤ m) && decide (m ≤ 1073741824)))) := by rw [HO.out]; simp
    have HR := Lib.hid hR
    clear hR HO
    go_enter Try.func9, Try.ntmps9
    go_wp2_with fail
    refine (HP.out _).mono ?_
    rintro e w1 ⟨rfl, rfl⟩
    by_cases k1 : 1 ≤ g
    · by_cases k2 : g ≤ 1073741824
      · by_cases k3 : 0 ≤ m
        · by_cases k4 : m ≤ 1073741824
          · have hR : R = true := by rw [HR.out]; simp; omega
            subst hR
            go_wp2
            go_ret
            exact ⟨rfl, Below.alloc0 _ _⟩
          · have hR : R = false := by rw [HR.out]; simp; omega
            subst hR
            have hd : decide (m ≤ 1073741824) = false := decide_eq_false k4
            go_wp2
            go_ret
            exact ⟨rfl, Below.alloc0 _ _⟩
        · have hR : R = false := by rw [HR.out]; simp; omega
          subst hR
          go_wp2
          go_ret
          exact ⟨rfl, Below.alloc0 _ _⟩
      · have hR : R = false := by rw [HR.out]; simp; omega
        subst hR
        go_wp2
        go_ret
        exact ⟨rfl, Below.alloc0 _ _⟩
    · have hR : R = false := by rw [HR.out]; simp; omega
      subst hR
      go_wp2
      go_ret
      exact ⟨rfl, Below.alloc0 _ _⟩

set_option maxHeartbeats 1000000 in
set_option maxRecDepth 100000 in
/-- The document's label of a label. -/
theorem of_any (x : Lab) (w : World) :
    Calls Try.prog 10 #[lbV x] w fun e w' => e = .returned (lbV x) ∧ Below w.heap.size w w' := by
  obtain ⟨p, g, m⟩ := x
  simp only [lbV]
  go_enter Try.func10, Try.ntmps10
  go_wp2
  go_returns
  exact ⟨rfl, ((Below.refl _ _).alloc (Nat.le_refl _) _).alloc (by simp) _⟩

end Go.Proofs.Ytcmbnijjkpfhlaa
