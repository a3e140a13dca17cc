/- The contract of the document's own Number (revenantref01), over any world. -/
import Derived.Test.YtkfnjekeegebaaaVPut
namespace Go.Proofs.Ytkfnjekeegebaaa
open Go.RowKit

set_option maxHeartbeats 400000 in
set_option maxRecDepth 100000 in
theorem refNum_any (N : Nat) : ∀ (x : Int) (w : World), x = N → N ≤ 18446744073709551615 → Calls Try.prog 36 #[.int .u64 x] w fun e w' => ∃ g m c, e = .returned (.slice (some ⟨g, 0, none⟩) m c) ∧ m = (vEnc N).length ∧ Own w' w.heap.size (.slice (some ⟨g, 0, none⟩) m c) (vEnc N) ∧ Below w.heap.size w w' := by
  induction N using Nat.strongRecOn with
  | _ N ih =>
    rintro x w rfl hN
    obtain ⟨i0, hi0, hz0, hz1, hz2⟩ := info_parts info5
    have h10 : (vEnc (N / 128)).length ≤ 10 := vEnc_len10 (by omega)
    have HN := Lib.hid hN
    have HI := Lib.hid ih
    clear hN ih
    by_cases hlt : N < 128
    · have hlt' : (N : Int) < 128 := by omega
      go_enter Try.func36, Try.ntmps36
      go_wp2
      go_ret
      rw [vEnc_small hlt]
      exact ⟨_, _, _, rfl, rfl, own_one (by omega) (heap_alloc_new w _), Below.alloc0 _ _⟩
    · have hlt' : 128 ≤ (N : Int) := by omega
      go_enter Try.func36, Try.ntmps36
      go_wp2_with fail
      refine (HI.out (N / 128) (by omega) _ _ (u64_quo HN.out) (by have := HN.out; omega)).mono ?_
      rintro e w1 ⟨g, m, c, rfl, hm, ho, hb⟩
      have HM := Lib.hid hm
      have HO := Lib.hid ho
      have HB := Lib.hid hb
      have hm10 : m ≤ 10 := by omega
      have HD : Hid (w1.heap[w.heap.size]? = some (.cells #[.int .u8 ((N % 128 + 128 : Nat) : Int)] 5 (0, 0))) := by
        rw [show Hid (w1.heap[w.heap.size]? = some (.cells #[.int .u8 ((N % 128 + 128 : Nat) : Int)] 5 (0, 0))) = (w1.heap[w.heap.size]? = some (.cells #[.int .u8 ((N % 128 + 128 : Nat) : Int)] 5 (0, 0))) from rfl]
        rw [hb.block w.heap.size (by simp), heap_alloc_new]
        congr 3
      have HP := Lib.hid (own_one (x := N % 128 + 128) (by omega) HD.out)
      clear hm ho hb
      go_wp2_with (at_builtin; refine wpList_append_own_at _ rfl (.tmp 12) (.tmp 15) 26 rfl w.heap.size 5 i0 _ 1 1 Try.underlying26 hi0 hz0 hz1 hz2 rfl (by omega) (.slice (some ⟨w.heap.size, 0, none⟩) 1 1) 1 (cB [N % 128 + 128]) rfl HP.out.2 ⟨g, 0, none⟩ m c (cB (vEnc (N / 128))) rfl ?hlen ?hcells (cB_one _) ?h63 ?hby ?hbase ?next)
      case hlen => rw [cB_length, HM.out]; omega
      case hcells => exact rd_cells (HO.out.asSlice1 HM.out.symm)
      case h63 => unfold maxLen; omega
      case hby => omega
      case hbase => have := HB.out.size; simp at this; omega
      case next =>
        intro v' w' hown hg _ _
        have HO' : Hid (Own w' w.heap.size v' (vEnc N)) := by
          refine ⟨vEnc_byte N, ?_⟩
          rw [vEnc_large hlt]
          have e : ((N % 128 + 128) :: vEnc (N / 128)).length = 1 + m := by simp [HM.out]; omega
          rw [e]
          have e2 : cB ((N % 128 + 128) :: vEnc (N / 128)) = cB [N % 128 + 128] ++ cB (vEnc (N / 128)) := by simp [cB]
          rw [e2]; exact hown
        have HB' : Hid (Below w.heap.size w w') := ((Below.alloc0 w _).trans (HB.out.mono (by simp))).grown hg (by have := HB.out.size; simp at this; omega) (by simp [Value.ownBlock])
        obtain ⟨g', c', hv⟩ := HO'.out.held (vEnc_pos N)
        rw [hv]
        rw [hv] at HO'
        clear hown hg hv
        go_wp2
        go_ret
        exact ⟨_, _, _, rfl, rfl, HO'.out, HB'.out⟩
end Go.Proofs.Ytkfnjekeegebaaa
