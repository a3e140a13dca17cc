/- A tape's pieces from the position on, dropped: slices.Delete, cut. -/
import Derived.Test.YtkfnjekeegebaaaTape
import Derived.BigRegion
import Derived.Laws.CopyOwn
import Derived.Lib.SliceRun
namespace Go.Proofs.Ytkfnjekeegebaaa
open Go.RowKit
set_option linter.unusedSimpArgs false

theorem infoP : (Try.prog.info? 99).map (fun i => (i.zero, i.size, i.bytes)) = some (some (.agg #[.slice none 0 0, .int .i64 0]), 2, 32) := by kernel_rfl

theorem elemP : Try.prog.elem 78 = 99 := by kernel_rfl

theorem sliceP_to (a : Option Addr) (n c k : Nat) (q : IntKind) (hk : k ≤ c) (w : World) :
    (Instr.slice 78 (.slice a n c) none (some (.int q (k : Int))) none).run Try.prog w = .ok (.slice a k c) w := by
  obtain ⟨i0, hi0, hz0, hz1, hz2⟩ := info_parts infoP
  rw [run_slice_h w 78 a n c (by kernel_rfl) q k (by omega) (by omega)]
  simp [sizeOf, typeInfo, elemP, hi0, sliced]
  intro _
  cases a <;> simp [Addr.add]

theorem sliceP_all3 (a : Option Addr) (n c k : Nat) (hk : k ≤ n) (hc : n ≤ c) :
    ∃ V, ∀ w, (Instr.slice 78 (.slice a n c) (some (.int .i64 (k : Int))) (some (.int .i64 (n : Int))) (some (.int .i64 (n : Int)))).run Try.prog w = .ok V w := by
  obtain ⟨i0, hi0, hz0, hz1, hz2⟩ := info_parts infoP
  refine ⟨sliced a k n n 2, fun w => ?_⟩
  rw [run_slice_lhm w 78 a n c (by kernel_rfl) .i64 .i64 .i64 k n n (by omega) (by omega) (by omega) (by omega)]
  simp [sizeOf, typeInfo, elemP, hi0, hz1, sliced]

theorem sliceP_end (a : Option Addr) (n c : Nat) :
    ∃ A, ∀ w, (Instr.slice 78 (.slice a n c) (some (.int .i64 (n : Int))) none none).run Try.prog w = .ok (.slice A 0 (c - n)) w := by
  obtain ⟨i0, hi0, hz0, hz1, hz2⟩ := info_parts infoP
  refine ⟨if c = n then a else a.map (·.add (n * 2)), fun w => ?_⟩
  rw [run_slice_l w 78 a n c (by kernel_rfl) .i64 n (by omega) (by omega)]
  simp [sizeOf, typeInfo, elemP, hi0, hz1, sliced]

theorem sliceP_mid (g n c k : Nat) (hk : k < n) (hc : n ≤ c) (w : World) :
    (Instr.slice 78 (.slice (some ⟨g, 0, none⟩) k c) (some (.int .i64 (k : Int))) (some (.int .i64 (n : Int))) none).run Try.prog w = .ok (.slice (some ⟨g, k * 2, none⟩) (n - k) (c - k)) w := by
  obtain ⟨i0, hi0, hz0, hz1, hz2⟩ := info_parts infoP
  rw [run_slice_lh w 78 (some ⟨g, 0, none⟩) k c (by kernel_rfl) .i64 .i64 k n (by omega) (by omega) (by omega)]
  simp [sizeOf, typeInfo, elemP, hi0, hz1, sliced, add_plain]
  omega

theorem appendP_none (g n c m : Nat) (A : Option Addr) (hc : n ≤ c) (ty : TypeId) (w : World) :
    (Builtin.append_ #[78, 78] ty #[.slice (some ⟨g, 0, none⟩) n c, .slice A 0 m]).run Try.prog w = .ok (.slice (some ⟨g, 0, none⟩) n c) w := by
  obtain ⟨i0, hi0, hz0, hz1, hz2⟩ := info_parts infoP
  cases A <;> simp [Builtin.append_, run_underlying Try.underlying78, sizeOf, typeInfo, hi0, Builtin.lenOf, Builtin.firstCells, hc, storeCells, loadCells, loadCellsFrom]

theorem zeroP_one (m : Nat) : ∀ u ∈ (Builtin.zeroCells #[Value.slice none 0 0, .int .i64 0] m).toList, u.oneCell' = true := by
  intro u hu
  simp only [Builtin.zeroCells] at hu
  simp at hu
  obtain ⟨i, _, rfl⟩ := hu
  rcases Nat.mod_two_eq_zero_or_one i with h | h <;> simp [h] <;> rfl

theorem clearP (w : World) (ty : TypeId) (g n k d : Nat) (cur : Array Value) (hg : w.heap[g]? = some (.cells cur 99 (0, 0))) (hk : k < n) (hn : n * 2 ≤ cur.size) :
    ∃ cur' : Array Value, (Builtin.clear_ #[78] ty #[.slice (some ⟨g, k * 2, none⟩) (n - k) d]).run Try.prog w = .ok (.tuple #[]) (put w g (.cells cur' 99 (0, 0))) ∧ cur'.size = cur.size ∧ cur'.toList.take (k * 2) = cur.toList.take (k * 2) := by
  obtain ⟨i0, hi0, hz0, hz1, hz2⟩ := info_parts infoP
  have hzs : (Builtin.zeroCells #[Value.slice none 0 0, .int .i64 0] (n - k)).toList.length = (n - k) * 2 := by
    rw [Array.length_toList, size_zeroCells]; rfl
  have hst := run_storeCells_at Try.prog g (k * 2) 99 (Builtin.zeroCells #[Value.slice none 0 0, .int .i64 0] (n - k)).toList 0 cur w hg (by rw [hzs]; omega) (zeroP_one _)
  rw [Nat.add_zero] at hst
  obtain ⟨cur', hcur'⟩ : ∃ cur', cur' = (cur.toList.take (k * 2) ++ (Builtin.zeroCells #[Value.slice none 0 0, .int .i64 0] (n - k)).toList ++ cur.toList.drop (k * 2 + (Builtin.zeroCells #[Value.slice none 0 0, .int .i64 0] (n - k)).toList.length)).toArray := ⟨_, rfl⟩
  rw [← hcur'] at hst
  have hput : w.setRow g cur' = put w g (.cells cur' 99 (0, 0)) := by
    have hlt : g < w.heap.size := (Array.getElem?_eq_some_iff.1 hg).1
    have e : ∀ f : Obj → Obj, w.heap.modify g f = w.heap.setIfInBounds g (f (.cells cur 99 (0, 0))) := by
      intro f
      apply Array.ext_getElem?
      intro i
      rw [Array.getElem?_modify]
      by_cases hi : g = i
      · subst hi; rw [hg]; simp [hlt]
      · rw [if_neg hi, Array.getElem?_setIfInBounds_ne hi]
    simp only [World.setRow, e, put]
  rw [hput] at hst
  refine ⟨cur', ?_, ?_, ?_⟩
  · obtain ⟨m, hm⟩ : ∃ m, n - k = m + 1 := ⟨n - k - 1, by omega⟩
    rw [hm] at hst ⊢
    simp [Builtin.clear_, run_underlying Try.underlying78, zeroValue, typeInfo, hi0, hz0, Value.cells, hst]
  · rw [hcur']
    simp only [List.size_toArray, List.length_append, List.length_take, List.length_drop, Array.length_toList, hzs]
    omega
  · rw [hcur']
    have : (cur.toList.take (k * 2)).length = k * 2 := by rw [List.length_take, Array.length_toList]; omega
    rw [List.append_assoc, List.take_append_of_le_length (by omega), List.take_of_length_le (by omega)]

theorem delete_same (w : World) (a : Option Addr) (n c : Nat) (hc : n ≤ c) :
    Calls Try.prog 60 #[.slice a n c, .int .i64 (n : Int), .int .i64 (n : Int)] w fun e w' => e = .returned (.slice a n c) ∧ w' = w := by
  obtain ⟨V, hV⟩ := sliceP_all3 a n c n (Nat.le_refl _) hc
  go_enter Try.func60, Try.ntmps60
  go_wp2
  go_ret
  exact ⟨rfl, rfl⟩

theorem delete_tail (w : World) (g n c k : Nat) (cur : Array Value) (hg : w.heap[g]? = some (.cells cur 99 (0, 0))) (hk : k < n) (hc : n ≤ c) (hs : n * 2 ≤ cur.size) :
    Calls Try.prog 60 #[.slice (some ⟨g, 0, none⟩) n c, .int .i64 (k : Int), .int .i64 (n : Int)] w fun e w' => e = .returned (.slice (some ⟨g, 0, none⟩) k c) ∧ ∃ m cur', w' = put (w.drewN m) g (.cells cur' 99 (0, 0)) ∧ cur'.size = cur.size ∧ cur'.toList.take (k * 2) = cur.toList.take (k * 2) := by
  obtain ⟨V, hV⟩ := sliceP_all3 (some ⟨g, 0, none⟩) n c k (by omega) hc
  obtain ⟨A, hA⟩ := sliceP_end (some ⟨g, 0, none⟩) n c
  have h2 := sliceP_to (some ⟨g, 0, none⟩) n c k .i64 (by omega)
  have hkc : k ≤ c := by omega
  have h4 := sliceP_mid g n c k hk hc
  have HC : Hid (∀ ty, _) := Lib.hid fun ty => clearP w.drew ty g n k (c - k) cur hg hk hs
  have hne : ((k : Int) == (n : Int)) = false := by simp; omega
  obtain ⟨D, hD⟩ : ∃ D, D = c - n := ⟨_, rfl⟩
  obtain ⟨E, hE⟩ : ∃ E, E = n - k := ⟨_, rfl⟩
  obtain ⟨J, hJ⟩ : ∃ J, J = c - k := ⟨_, rfl⟩
  rw [← hD] at hA
  rw [← hE, ← hJ] at h4 HC
  clear hg hD hE hJ hs
  go_enter Try.func60, Try.ntmps60
  go_upto_region 5 with fail
  rcases A with _ | A
  · go_region
    obtain ⟨cur', hcl, hz, ht⟩ := HC.out 0
    go_wp2
    go_ret
    exact ⟨rfl, 1, cur', rfl, hz, ht⟩
  · go_region
    obtain ⟨cur', hcl, hz, ht⟩ := HC.out 0
    go_wp2
    go_ret
    exact ⟨rfl, 1, cur', rfl, hz, ht⟩

end Go.Proofs.Ytkfnjekeegebaaa
