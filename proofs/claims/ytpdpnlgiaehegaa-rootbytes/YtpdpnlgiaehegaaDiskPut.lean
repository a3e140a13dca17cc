/- The contract of a disk's Put. -/
import Derived.Test.YtpdpnlgiaehegaaDisk
import Derived.Deep.DeepCutAuto
import Derived.StillTailTactics
import Derived.BigRegion
namespace Go.Proofs.Ytpdpnlgiaehegaa
open Go.RowKit
set_option linter.unusedSimpArgs false

/-- A sector's bytes: those of b, and bytes 0 behind them. -/
def secOf (b : List Nat) : List Nat := b ++ List.replicate (64 - b.length) 0

theorem secOf_length {b : List Nat} (h : b.length ≤ 64) : (secOf b).length = 64 := by simp [secOf]; omega

theorem secOf_byte {b : List Nat} (h : ∀ x ∈ b, x < 256) : ∀ x ∈ secOf b, x < 256 := by
  intro x hx
  simp only [secOf, List.mem_append] at hx
  rcases hx with hx | hx
  · exact h x hx
  · exact byte_zeros _ x hx

/-- A sector put: power behind it, the bytes, the error. -/
def dPut (s : Pw) (L : List Nat) (i : Nat) (b : List Nat) : Pw × List Nat × Nat :=
  ((s.write 64).1, splice L (64 * i) ((secOf b).take (s.write 64).2.1.toNat), (s.write 64).2.2)

theorem put_no (w : World) (gd gp gb k : Nat) (s : Pw) (L : List Nat) (i : Int) (a : Option Addr) (n c : Nat) (h : Dsk w gd gp gb s L k) (hi : i < 0 ∨ (k : Int) ≤ i ∨ 64 < n) :
    Calls Try.prog 17 #[.pointer (some ⟨gd, 0, none⟩), .int .i64 i, .slice a n c] w fun e w' => e = .returned (.int .i64 1) ∧ w' = w := by
  by_cases h1 : i < 0 ∨ (k : Int) < i
  · have HR := Lib.hid (room_no w gd gp gb k s L i h h1)
    clear h h1 hi
    go_enter Try.func17, Try.ntmps17
    go_wp2_with fail
    refine HR.out.mono ?_
    rintro e w1 ⟨rfl, rfl⟩
    go_wp2
    go_ret
    exact ⟨rfl, rfl⟩
  · obtain ⟨j, rfl⟩ : ∃ j : Nat, i = (j : Int) := ⟨i.toNat, by omega⟩
    have hj : j ≤ k := by omega
    have HR := Lib.hid (room_yes w gd gp gb k s L j h hj)
    obtain ⟨R, hR⟩ : ∃ R : Nat, R = 64 * (k - j) := ⟨_, rfl⟩
    rw [← hR] at HR
    have hor : R < 64 ∨ 64 < n := by omega
    clear h h1 hi hR hj
    by_cases h2 : R < 64
    · clear hor
      go_enter Try.func17, Try.ntmps17
      go_wp2_with fail
      refine HR.out.mono ?_
      rintro e w1 ⟨rfl, rfl⟩
      go_wp2
      go_ret
      exact ⟨rfl, rfl⟩
    · have h3 : 64 < n := by omega
      have h4 : 64 ≤ R := by omega
      clear hor h2
      go_enter Try.func17, Try.ntmps17
      go_wp2_with fail
      refine HR.out.mono ?_
      rintro e w1 ⟨rfl, rfl⟩
      go_wp2
      go_ret
      exact ⟨rfl, rfl⟩

theorem write_range (s : Pw) : ∃ M : Nat, (s.write 64).2.1 = (M : Int) ∧ M ≤ 64 := by
  unfold Pw.write
  rw [if_neg (by omega)]
  split
  · exact ⟨0, rfl, by omega⟩
  · split
    · exact ⟨64, rfl, by omega⟩
    · rename_i t _
      exact ⟨(min (max t 0) 64).toNat, by simp only; omega, by omega⟩
    · exact ⟨64, rfl, by omega⟩

theorem splice_byte {L x : List Nat} (hL : ∀ y ∈ L, y < 256) (hx : ∀ y ∈ x, y < 256) (o : Nat) : ∀ y ∈ splice L o x, y < 256 := by
  intro y hy
  simp only [splice, List.mem_append] at hy
  rcases hy with hy | hy | hy
  · exact hL y (List.mem_of_mem_take hy)
  · exact hx y hy
  · exact hL y (List.mem_of_mem_drop hy)

theorem arr_all (g : Nat) (W : World) : (Instr.sliceAt 65 (.pointer (some ⟨g, 0, none⟩)) none none none).run Try.prog W = .ok (.slice (some ⟨g, 0, none⟩) 64 64) W := by
  obtain ⟨i0, hi0, hz0, hz1, hz2⟩ := info_parts info5
  rw [run_sliceAt_array_all (P := Try.prog) W 65 ⟨g, 0, none⟩ (by kernel_rfl)]
  simp [sizeOf, typeInfo, show Try.prog.elem 65 = 5 by kernel_rfl, show Try.prog.arrayLen 65 = 64 by kernel_rfl, hi0, slicedAt, sliced, Addr.add]

theorem arr_to (g M : Nat) (hM : M ≤ 64) (W : World) : (Instr.sliceAt 65 (.pointer (some ⟨g, 0, none⟩)) none (some (.int .i64 (M : Int))) none).run Try.prog W = .ok (.slice (some ⟨g, 0, none⟩) M 64) W := by
  obtain ⟨i0, hi0, hz0, hz1, hz2⟩ := info_parts info5
  rw [run_sliceAt_array_h (P := Try.prog) W 65 ⟨g, 0, none⟩ (by kernel_rfl) .i64 (M : Int) (by omega) (by rw [show Try.prog.arrayLen 65 = 64 by kernel_rfl]; omega)]
  simp [sizeOf, typeInfo, show Try.prog.elem 65 = 5 by kernel_rfl, show Try.prog.arrayLen 65 = 64 by kernel_rfl, hi0, slicedAt, sliced, Addr.add]

theorem sec_spliced {b : List Nat} (h : b.length ≤ 64) : splice (List.replicate 64 0) 0 (b.take (min b.length 64)) = secOf b := by
  rw [show min b.length 64 = b.length by omega, List.take_length]
  unfold splice secOf
  rw [List.take_zero, List.nil_append, Nat.zero_add, List.drop_replicate]

set_option maxRecDepth 100000 in
theorem put_yes (w : World) (gd gp gb k : Nat) (s : Pw) (L : List Nat) (i : Nat) (a : Option Addr) (n c : Nat) (b : List Nat) (h : Dsk w gd gp gb s L k) (hok : s.ok) (hi : i < k) (hn : n ≤ 64) (hr : Rd w a n b) :
    Calls Try.prog 17 #[.pointer (some ⟨gd, 0, none⟩), .int .i64 (i : Int), .slice a n c] w fun e w' => e = .returned (.int .i64 ((dPut s L i b).2.2 : Int)) ∧ Dsk w' gd gp gb (dPut s L i b).1 (dPut s L i b).2.1 k ∧ Save [gp, gb] w w' := by
  have HR := Lib.hid (room_yes w gd gp gb k s L i h (by omega))
  obtain ⟨R, hR⟩ : ∃ R : Nat, R = 64 * (k - i) := ⟨_, rfl⟩
  rw [← hR] at HR
  have hR64 : 64 ≤ R := by omega
  have HH := Lib.hid h
  have HI := Lib.hid hi
  have HRD := Lib.hid hr
  have HWA : Hid (∀ W, Pow W gp s → _) := Lib.hid fun W hW => write_any W gp s 64 hW hok
  obtain ⟨M, hM, hM64⟩ := write_range s
  obtain ⟨E, hE2⟩ : ∃ E, E = (s.write 64).2.2 := ⟨_, rfl⟩
  obtain ⟨s', hs'⟩ : ∃ s', s' = (s.write 64).1 := ⟨_, rfl⟩
  have hD : dPut s L i b = (s', splice L (64 * i) ((secOf b).take M), E) := by
    simp only [dPut, hM, hE2, hs']
    simp
  rw [hD]
  rw [hM, ← hE2, ← hs'] at HWA
  obtain ⟨I, hI⟩ : ∃ I : Nat, I = 64 * i := ⟨_, rfl⟩
  rw [← hI]
  have HI0 := Lib.hid hI
  clear hR h hr hi hM hE2 hs' hD hI
  go_enter Try.func17, Try.ntmps17
  go_wp2_with fail
  refine HR.out.mono ?_
  rintro e w1 ⟨rfl, rfl⟩
  go_upto_region 4 with fail
  change Code.wp _ _ _ _ (w1.alloc (rowObj 65 (List.replicate 64 0)))
  obtain ⟨w2, h2⟩ : ∃ w2, w2 = w1.alloc (rowObj 65 (List.replicate 64 0)) := ⟨_, rfl⟩
  obtain ⟨g7, hg7⟩ : ∃ g7, g7 = w1.heap.size := ⟨_, rfl⟩
  rw [← h2, ← hg7]
  have HB2 : Hid (Below w1.heap.size w1 w2) := by rw [h2]; exact Lib.hid (Below.alloc0 _ _)
  have HS2 : Hid (w2.heap[g7]? = some (rowObj 65 (List.replicate 64 0))) := by rw [h2, hg7]; exact Lib.hid (heap_alloc_new _ _)
  have HG7 := Lib.hid hg7
  have HRD2 := Lib.hid (HRD.out.later HB2.out)
  clear h2 hg7
  have HE : Hid (splice (List.replicate 64 0) 0 (b.take (min n 64)) = secOf b) := by
    have := sec_spliced (b := b) (by rw [HRD.out.1]; exact hn)
    rw [HRD.out.1] at this
    exact Lib.hid this
  have hs1 := arr_all g7
  go_wp2_with (refine wpList_copy_bytes rfl (.tmp 19) (.tmp 20) rfl _ _ _ _ _ _ rfl rfl g7 0 65 (List.replicate 64 0) b HS2.out HRD2.out (fun _ => rfl) ?fit (secOf b) HE.out ?next)
  case fit => simp; omega
  case next =>
    intro w3 H3
    have h3 := H3.out
    clear H3
    have hlt := HH.out.lts
    have HS3 : Hid (w3.heap[g7]? = some (rowObj 65 (secOf b))) := by rw [h3]; exact Lib.hid (put_same HS2.out)
    have HB3 : Hid (Below w1.heap.size w1 w3) := by rw [h3]; exact Lib.hid (HB2.out.trans (put_below _ (by rw [HG7.out]; exact Nat.le_refl _)))
    have HH3 := Lib.hid (HH.out.later HB3.out)
    obtain ⟨c0, c1⟩ := HH3.out.cells
    have HW := Lib.hid (HWA.out w3 HH3.out.pow)
    clear h3 hlt
    go_wp2_with fail
    refine HW.out.mono ?_
    rintro e w4 ⟨rfl, h4⟩
    have HH4 : Hid (Dsk w4 gd gp gb s' L k) := by rw [h4]; exact Lib.hid (HH3.out.setPow s')
    have HSV4 : Hid (Save [gp, gb] w1 w4) := by rw [h4]; exact Lib.hid ((Save.of_below HB3.out _).put (by simp) _)
    have HS4 : Hid (w4.heap[g7]? = some (rowObj 65 (secOf b))) := by
      rw [h4]
      exact Lib.hid ((put_other (by have := HH.out.lts; have := HG7.out; omega)).trans HS3.out)
    clear h4 HW c0 c1
    obtain ⟨c0, c1⟩ := HH4.out.cells
    obtain ⟨K, hK⟩ : ∃ K : Nat, K = 64 * k := ⟨_, rfl⟩
    have hI := HI0.out
    have hik := HI.out
    have hk := HH4.out.ksmall
    have hw : IntKind.i64.wrap ((i : Int) * 64) = (I : Int) := by rw [IntKind.wrap_i64] <;> omega
    have hIK : I + 64 ≤ K := by omega
    rw [← hK] at c1
    have hsl : ∀ W : World, (Instr.slice 32 (.slice (some ⟨gb, 0, none⟩) K K) (some (.int .i64 (I : Int))) none none).run Try.prog W = .ok (.slice (cutA (some ⟨gb, 0, none⟩) K I) (K - I) (K - I)) W := fun W => slice_from _ _ _ _ .i64 (by omega) W
    have hcut : cutA (some ⟨gb, 0, none⟩) K I = some ⟨gb, I, none⟩ := by
      unfold cutA
      rw [if_neg (by omega)]
      simp [add_plain]
    rw [hcut] at hsl
    have hs2 := arr_to g7 M hM64
    have HIK := Lib.hid (And.intro hI (And.intro hK (And.intro hk hik)))
    clear hcut hI hK hk hik hs1
    go_upto_region 6 with fail
    refine wp_region_still_tail 9 (by kernel_rfl) (by kernel_rfl) ?_
    simp only [List.take_succ_cons, List.take_zero, List.drop_succ_cons, List.drop_zero]
    change wpStill _ _ w4.drew _ _ _
    have e0 : w4.drew.cell? ⟨gd, 1, none⟩ = some (.slice (some ⟨gb, 0, none⟩) K K) := c1
    obtain ⟨w5, h5⟩ : ∃ w5, w5 = w4.drew := ⟨_, rfl⟩
    have HH5 : Hid (Dsk w5 gd gp gb s' L k) := by rw [h5]; exact Lib.hid (HH4.out.kept rfl rfl rfl)
    have HSV5 : Hid (Save [gp, gb] w1 w5) := by rw [h5]; exact Lib.hid HSV4.out.drew
    have HS5 : Hid (Rd w5 (some ⟨g7, 0, none⟩) M ((secOf b).take M)) := by
      rw [h5]
      exact Lib.hid ((rd_rowObj (w := w4.drew) HS4.out (secOf_length (by rw [HRD.out.1]; exact hn)) (secOf_byte HRD.out.2.1)).first hM64)
    rw [← h5] at e0 ⊢
    have H5 := Lib.hid h5
    clear h5 c0 c1
    repeat still_step
    refine wpStill_nil ?_
    change wpList _ _ _ _ _ w4.drew
    rw [← H5.out]
    refine wpList_copy_bytes rfl (.tmp 36) (.tmp 38) rfl _ _ _ _ _ _ rfl rfl gb I 5 L ((secOf b).take M) HH5.out.row HS5.out (fun _ => rfl) ?fit2 (splice L I ((secOf b).take M)) ?eq2 ?next2
    case fit2 => rw [HH5.out.len, ← HIK.out.2.1]; omega
    case eq2 =>
      have hmin : min M (K - I) = M := by omega
      rw [hmin, List.take_take, Nat.min_self]
    case next2 =>
      intro w6 H6
      have h6 := H6.out
      clear H6
      have hlen : (splice L I ((secOf b).take M)).length = 64 * k := by
        rw [length_splice, HH5.out.len]
        rw [HH5.out.len, List.length_take]
        have := HIK.out.2.1
        omega
      have HH6 : Hid (Dsk w6 gd gp gb s' (splice L I ((secOf b).take M)) k) := by
        rw [h6]
        exact Lib.hid (HH5.out.setRow hlen (splice_byte HH5.out.byte (fun y hy => secOf_byte HRD.out.2.1 y (List.mem_of_mem_take hy)) I))
      have HSV6 : Hid (Save [gp, gb] w1 w6) := by rw [h6]; exact Lib.hid (HSV5.out.put (by simp) _)
      clear h6 hlen
      go_wp2
      go_ret
      exact ⟨rfl, HH6.out, HSV6.out⟩
end Go.Proofs.Ytpdpnlgiaehegaa
