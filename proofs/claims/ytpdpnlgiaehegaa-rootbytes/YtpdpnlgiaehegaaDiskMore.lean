/- The contracts of a disk's GetAll, Get, PutAll, Erase. -/
import Derived.Test.YtpdpnlgiaehegaaDiskPut
namespace Go.Proofs.Ytpdpnlgiaehegaa
open Go.RowKit
set_option linter.unusedSimpArgs false

theorem slice_two (a : Option Addr) (n c k m : Nat) (q r : IntKind) (hk : k ≤ m) (hm : m ≤ c) (w : World) :
    (Instr.slice 32 (.slice a n c) (some (.int q (k : Int))) (some (.int r (m : Int))) none).run Try.prog w = .ok (.slice (cutA a c k) (m - k) (c - k)) w := by
  obtain ⟨i0, hi0, hz0, hz1, hz2⟩ := info_parts info5
  rw [run_slice_lh w 32 a n c (by kernel_rfl) q r k m (by omega) (by omega) (by omega)]
  simp [sizeOf, typeInfo, elem22, hi0, hz1, sliced, cutA]

/-- The bytes that are read. -/
def dCut (L : List Nat) (i n : Nat) : List Nat := (L.drop (64 * i)).take n

theorem getAll_no (w : World) (gd gp gb k : Nat) (s : Pw) (L : List Nat) (i z : Int) (h : Dsk w gd gp gb s L k) (hi : z < 0 ∨ i < 0 ∨ (k : Int) < i ∨ 64 * ((k : Int) - i) < z) :
    Calls Try.prog 14 #[.pointer (some ⟨gd, 0, none⟩), .int .i64 i, .int .i64 z] w fun e w' => e = .returned (.tuple #[.slice none 0 0, .int .i64 1]) ∧ w' = w := by
  by_cases h0 : z < 0
  · clear h hi
    go_enter Try.func14, Try.ntmps14
    go_wp2
    go_ret2
    exact ⟨rfl, rfl⟩
  by_cases h1 : i < 0 ∨ (k : Int) < i
  · have HR := Lib.hid (room_no w gd gp gb k s L i h h1)
    have hz : 0 ≤ z := by omega
    have hd : decide (-1 < z) = true := by simp; omega
    clear h h1 hi h0
    go_enter Try.func14, Try.ntmps14
    go_wp2_with fail
    refine HR.out.mono ?_
    rintro e w1 ⟨rfl, rfl⟩
    go_wp2
    go_ret2
    exact ⟨rfl, rfl⟩
  · obtain ⟨j, rfl⟩ : ∃ j : Nat, i = (j : Int) := ⟨i.toNat, by omega⟩
    have hj : j ≤ k := by omega
    have HR := Lib.hid (room_yes w gd gp gb k s L j h hj)
    obtain ⟨R, hR⟩ : ∃ R : Nat, R = 64 * (k - j) := ⟨_, rfl⟩
    rw [← hR] at HR
    have hor : (R : Int) < z := by omega
    have hz : 0 ≤ z := by omega
    clear h h1 hi hR hj h0
    go_enter Try.func14, Try.ntmps14
    go_wp2_with fail
    refine HR.out.mono ?_
    rintro e w1 ⟨rfl, rfl⟩
    go_wp2
    go_ret2
    exact ⟨rfl, rfl⟩

theorem getAll_down (w : World) (gd gp gb k : Nat) (s : Pw) (L : List Nat) (i n : Nat) (h : Dsk w gd gp gb s L k) (hi : i ≤ k) (hn : n ≤ 64 * (k - i)) (ho : s.on = false) :
    Calls Try.prog 14 #[.pointer (some ⟨gd, 0, none⟩), .int .i64 (i : Int), .int .i64 (n : Int)] w fun e w' => e = .returned (.tuple #[.slice none 0 0, .int .i64 11]) ∧ w' = w := by
  have HR := Lib.hid (room_yes w gd gp gb k s L i h hi)
  obtain ⟨R, hR⟩ : ∃ R : Nat, R = 64 * (k - i) := ⟨_, rfl⟩
  rw [← hR] at HR hn
  have HO := Lib.hid (on_any w gp s h.pow)
  rw [ho] at HO
  have c0 := h.cells.1
  clear h hR hi ho
  go_enter Try.func14, Try.ntmps14
  go_wp2_with fail
  refine HR.out.mono ?_
  rintro e w1 ⟨rfl, rfl⟩
  go_wp2_with fail
  refine HO.out.mono ?_
  rintro e w1 ⟨rfl, rfl⟩
  go_wp2
  go_ret2
  exact ⟨rfl, rfl⟩

theorem getAll_yes (w : World) (gd gp gb k : Nat) (s : Pw) (L : List Nat) (i n : Nat) (h : Dsk w gd gp gb s L k) (hi : i ≤ k) (hn : n ≤ 64 * (k - i)) (ho : s.on = true) (hn1 : n ≤ 1000000) :
    Calls Try.prog 14 #[.pointer (some ⟨gd, 0, none⟩), .int .i64 (i : Int), .int .i64 (n : Int)] w fun e w' => ∃ v, e = .returned (.tuple #[v, .int .i64 0]) ∧ Own w' w.heap.size v (dCut L i n) ∧ Below w.heap.size w w' := by
  have HR := Lib.hid (room_yes w gd gp gb k s L i h hi)
  obtain ⟨R, hR⟩ : ∃ R : Nat, R = 64 * (k - i) := ⟨_, rfl⟩
  have hlen := h.len
  rw [← hR] at HR
  have HO := Lib.hid (on_any w gp s h.pow)
  rw [ho] at HO
  obtain ⟨c0, c1⟩ := h.cells
  obtain ⟨K, hK⟩ : ∃ K : Nat, K = 64 * k := ⟨_, rfl⟩
  obtain ⟨I, hI⟩ : ∃ I : Nat, I = 64 * i := ⟨_, rfl⟩
  have hk := h.ksmall
  have hw : IntKind.i64.wrap ((i : Int) * 64) = (I : Int) := by rw [IntKind.wrap_i64] <;> omega
  have hw2 : IntKind.i64.wrap ((I : Int) + (n : Int)) = ((I + n : Nat) : Int) := by rw [IntKind.wrap_i64] <;> omega
  rw [← hK] at c1
  have hsl : ∀ W : World, (Instr.slice 32 (.slice (some ⟨gb, 0, none⟩) K K) (some (.int .i64 (I : Int))) (some (.int .i64 ((I + n : Nat) : Int))) none).run Try.prog W = .ok (.slice (cutA (some ⟨gb, 0, none⟩) K I) (I + n - I) (K - I)) W := fun W => slice_two _ _ _ _ _ .i64 .i64 (by omega) (by omega) W
  rw [show I + n - I = n by omega] at hsl
  have hrd := h.rd
  rw [← hK] at hrd
  have hrd2 : Rd w (cutA (some ⟨gb, 0, none⟩) K I) n (dCut L i n) := by
    unfold dCut
    rw [← hI]
    exact (hrd.cut (by omega) (Nat.le_refl _)).first (by omega)
  have HC := Lib.hid (clone_any _ n (K - I) _ w hrd2 hn1)
  have hnR : (n : Int) ≤ (R : Int) := by omega
  obtain ⟨A, hA⟩ : ∃ A, A = cutA (some ⟨gb, 0, none⟩) K I := ⟨_, rfl⟩
  obtain ⟨J, hJ⟩ : ∃ J : Nat, J = I + n := ⟨_, rfl⟩
  obtain ⟨D, hD⟩ : ∃ D : Nat, D = K - I := ⟨_, rfl⟩
  obtain ⟨l, hl⟩ : ∃ l, l = dCut L i n := ⟨_, rfl⟩
  rw [← hA, ← hJ, ← hD] at hsl
  rw [← hA, ← hD, ← hl] at HC
  rw [← hJ] at hw2
  rw [← hl]
  clear hA hJ hD hl hrd2 hrd hK hI hk hR hi ho hlen h hn
  go_enter Try.func14, Try.ntmps14
  go_wp2_with fail
  refine HR.out.mono ?_
  rintro e w1 ⟨rfl, rfl⟩
  go_wp2_with fail
  refine HO.out.mono ?_
  rintro e w1 ⟨rfl, rfl⟩
  go_wp2_with fail
  refine HC.out.mono ?_
  rintro e w2 ⟨v, rfl, hv, hb⟩
  have HV := Lib.hid (And.intro hv hb)
  clear hv hb HC HO HR
  go_wp2
  go_ret2
  exact ⟨v, rfl, HV.out.1, HV.out.2⟩

/-- Get is GetAll of 64 bytes. -/
theorem get_of (w : World) (gd : Nat) (i : Int) (Q : Ending → World → Prop) (h : Calls Try.prog 14 #[.pointer (some ⟨gd, 0, none⟩), .int .i64 i, .int .i64 64] w fun e w' => ∃ v E, e = .returned (.tuple #[v, .int .i64 E]) ∧ Q e w') :
    Calls Try.prog 19 #[.pointer (some ⟨gd, 0, none⟩), .int .i64 i] w Q := by
  have H := Lib.hid h
  clear h
  go_enter Try.func19, Try.ntmps19
  go_wp2_with fail
  refine H.out.mono ?_
  rintro e w2 ⟨v, E, rfl, hq⟩
  have HQ := Lib.hid hq
  clear hq H
  go_wp2
  exact HQ.out

end Go.Proofs.Ytpdpnlgiaehegaa
