/- The contract of 'lives', the chapter's example, over any world. -/
import Derived.Test.YtidbdfioadchaaaPut
import Derived.Test.YtidbdfioadchaaaNext
namespace Go.Proofs.Ytidbdfioadchaaa
open Go.RowKit

/-- The bytes l as a string. -/
def strB (l : List Nat) : ByteArray := strOfNums (l.map fun x : Nat => (x : Int))

theorem conv_rd {w : World} {a : Option Addr} {n : Nat} {l : List Nat} (h : Rd w a n l) (c : Nat) : (convert 22 9 (.slice a n c)).run Try.prog w = .ok (.string (strB l)) w := by
  rcases Nat.eq_zero_or_pos n with h0 | h0
  · have hl : l = [] := List.eq_nil_of_length_eq_zero (by rw [h.1]; exact h0)
    subst hl
    subst h0
    cases a with
    | none => exact run_convert_bytes_nil w 22 5 Try.underlying22 Try.underlying5 0 c 9 Try.underlying9
    | some ad =>
      obtain ⟨b, o, e⟩ := ad
      rw [run_convert_bytes_string w 22 9 5 _ 0 c Try.underlying22 Try.underlying5 Try.underlying9, run_bytesToString w _ 0 c [] (by simp [loadCells, loadCellsFrom])]
      rfl
  · obtain ⟨b, o, rfl, hc⟩ := h.2.2 h0
    exact run_convert_bytes_arg w 22 5 Try.underlying22 Try.underlying5 b o n c (l.map fun x : Nat => (x : Int)) (by simpa using h.1) (fun i hi => by
      rw [hc i hi]
      have : i < l.length := by rw [h.1]; exact hi
      simp [List.getD, this]) 9 Try.underlying9

theorem strB_inj {l m : List Nat} (hl : ∀ x ∈ l, x < 256) (hm : ∀ x ∈ m, x < 256) (h : strB l = strB m) : l = m := by
  have h1 : (strB l).data.toList = (strB m).data.toList := by rw [h]
  simp only [strB, strOfNums_data, List.map_map] at h1
  have key : ∀ (l : List Nat), (∀ x ∈ l, x < 256) → (l.map ((fun n : Int => UInt8.ofNat n.toNat) ∘ fun x : Nat => (x : Int))).map UInt8.toNat = l := by
    intro l hl
    induction l with
    | nil => rfl
    | cons x r ih =>
      simp only [List.map_cons, Function.comp_apply, Int.toNat_natCast]
      rw [ih fun y hy => hl y (by simp [hy])]
      congr 1
      have := hl x (by simp)
      simp; omega
  rw [← key l hl, h1, key m hm]

theorem lives_next : vNum [172, 2, 9] = 300 ∧ vLen [172, 2, 9] = 2 ∧ vErr [172, 2, 9] = 0 := by decide
theorem lives_put : [7] ++ [300].flatMap vEnc = [7, 172, 2] := by
  simp only [List.flatMap_cons, List.flatMap_nil]
  rw [vEnc_large (by omega), vEnc_small (by omega)]
  rfl
theorem lives_str : strB [7, 172, 2] = ⟨#[7, 172, 2]⟩ := by rfl

theorem Own.conv {w : World} {base : Nat} {v : Value} {l : List Nat} (h : Own w base v l) : (convert 22 9 v).run Try.prog w = .ok (.string (strB l)) w := by
  obtain ⟨a, c, rfl, hr⟩ := h.rd
  exact conv_rd hr c

theorem rd_new (w : World) (l : List Nat) (h : ∀ x ∈ l, x < 256) : Rd (w.alloc (.cells (cB l).toArray 5)) (some ⟨w.heap.size, 0, none⟩) l.length l := by
  refine ⟨rfl, h, fun _ => ⟨_, _, rfl, fun j hj => ?_⟩⟩
  rw [World.cell?_alloc_new]
  simp [cB, List.getD, hj]

theorem rdU_new (w : World) (l : List Nat) (h : ∀ x ∈ l, x ≤ 18446744073709551615) : RdU (w.alloc (.cells (l.map fun x : Nat => Value.int .u64 (x : Int)).toArray 26)) (some ⟨w.heap.size, 0, none⟩) l.length l := by
  refine ⟨rfl, h, fun _ => ⟨_, _, rfl, fun j hj => ?_⟩⟩
  rw [World.cell?_alloc_new]
  simp [List.getD, hj]

theorem lives_next_call (w : World) : Calls Try.prog 19 #[.slice (some ⟨w.heap.size, 0, none⟩) 3 3] (w.alloc (.cells #[.int .u8 172, .int .u8 2, .int .u8 9] 5))
    fun e w' => e = .returned (.tuple #[.int .u64 300, .int .i64 2, .int .i64 0]) ∧ w.alloc (.cells #[.int .u8 172, .int .u8 2, .int .u8 9] 5) = w' := by
  have h := next_any (some ⟨w.heap.size, 0, none⟩) 3 3 [172, 2, 9] (w.alloc (.cells #[.int .u8 172, .int .u8 2, .int .u8 9] 5)) (rd_new w [172, 2, 9] (by simp)) (by omega)
  rw [lives_next.1, lives_next.2.1, lives_next.2.2] at h
  exact h

theorem Below.alloc0 (w : World) (o : Obj) : Below w.heap.size w (w.alloc o) := (Below.refl _ _).alloc (Nat.le_refl _) _

theorem lives_put_call (W : World) (n : Nat) (hn : n = W.heap.size) : Calls Try.prog 10 #[.slice (some ⟨n, 0, none⟩) 1 1, .slice (some ⟨n + 1, 0, none⟩) 1 1] ((W.alloc (.cells #[.int .u8 7] 5)).alloc (.cells #[.int .u64 300] 26))
    fun e w' => ∃ v, e = .returned v ∧ (convert 22 9 v).run Try.prog w' = .ok (.string ⟨#[7, 172, 2]⟩) w' ∧ Below W.heap.size W w' := by
  subst hn
  have r1 : Rd ((W.alloc (.cells #[.int .u8 7] 5)).alloc (.cells #[.int .u64 300] 26)) (some ⟨W.heap.size, 0, none⟩) 1 [7] := (rd_new W [7] (by simp)).later (Below.alloc0 _ _)
  have r2 : RdU ((W.alloc (.cells #[.int .u8 7] 5)).alloc (.cells #[.int .u64 300] 26)) (some ⟨W.heap.size + 1, 0, none⟩) 1 [300] := by
    have := rdU_new (W.alloc (.cells #[.int .u8 7] 5)) [300] (by simp)
    simpa using this
  refine (put_any _ 1 1 [7] _ 1 1 [300] _ r1 r2 (by omega) (by omega)).mono ?_
  rintro e w' ⟨v, rfl, ho, hb⟩
  rw [lives_put] at ho
  refine ⟨v, rfl, ?_, ?_⟩
  · rw [← lives_str]; exact ho.conv
  · exact ((Below.alloc0 W _).trans ((Below.alloc0 _ _).mono (by simp))).trans (hb.mono (by simp; omega))

set_option maxHeartbeats 400000 in
set_option maxRecDepth 100000 in
theorem lives_any (w : World) : Calls Try.prog 7 #[] w fun e w' => e = .returned (.bool true) ∧ Below w.heap.size w w' := by
  go_enter Try.func7, Try.ntmps7
  go_wp2_with fail
  refine (lives_next_call w).mono ?_
  rintro e w1 ⟨rfl, rfl⟩
  go_wp2_with fail
  refine (lives_put_call _ _ (by simp)).mono ?_
  rintro e w1 ⟨v, rfl, hcv, hb⟩
  go_wp2
  go_ret
  exact ⟨rfl, (Below.alloc0 w _).trans (hb.mono (by simp))⟩
end Go.Proofs.Ytidbdfioadchaaa
