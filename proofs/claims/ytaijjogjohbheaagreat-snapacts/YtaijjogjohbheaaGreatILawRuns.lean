/- The contracts of the statement's own runs, and of the document's Blocks, over any world. -/
import Derived.Test.YtaijjogjohbheaaGreatIRuns
import Derived.Test.YtaijjogjohbheaaGreatGOwnVarToStillIn
import Derived.Test.YtaijjogjohbheaaGreatILike
import Derived.Deep.DeepCutAuto
namespace Go.Proofs.YtaijjogjohbheaaGreat
open Go.RowKit
set_option maxRecDepth 100000
set_option linter.unusedSimpArgs false

theorem run_mk256 (w : World) : (Instr.makeSlice 125 (.int .i64 256) (.int .i64 256)).run Tryz.prog w = .ok (.slice (some ⟨w.heap.size, 0, none⟩) 256 256) (w.alloc (.cells (bcells 256 fun _ => false) 4)) := by
  obtain ⟨i0, hi0, hz0, hz1, hz2⟩ := info_parts info_bool
  have h := run_make (P := Tryz.prog) w 125 4 i0 _ Tryz.underlying125 hi0 hz0 .i64 .i64 256 256 (by omega) (by omega) (by rw [hz2]; omega) (by omega)
  have e : madeCells #[Value.bool false] 256 = bcells 256 fun _ => false := by kernel_rfl
  simpa [hz1, Value.cells, e] using h

/-- Whether a text is empty. -/
theorem strB_neq (l : List Nat) : ((strB l).toList == ([] : List UInt8)) = !decide (l ≠ []) := by
  by_cases h : l = []
  · subst h
    have : (strB []).toList = [] := by rw [ByteArray.toList_eq]; rfl
    simp [this]
  · have := strB_ne h
    simp [h, this]

/-- The truths up to i are those of Q, the others false. -/
def upB (Q : Nat → Bool) (i : Nat) : Nat → Bool := fun j => decide (j < i) && Q j

theorem upB_succ (Q : Nat → Bool) (i : Nat) : ∀ j, j < 256 → updB (upB Q i) i (Q i) j = upB Q (i + 1) j := by
  intro j _
  unfold updB upB
  by_cases h : j = i
  · subst h; simp
  · rw [if_neg h]
    by_cases h2 : j < i
    · simp [h2, show j < i + 1 by omega]
    · simp [h2, show ¬ j < i + 1 by omega]

set_option maxHeartbeats 1000000 in
set_option maxRecDepth 100000 in
theorem refBlocks_any (w : World) (F : List (List Nat)) (hF : okF F) :
    Calls Tryz.prog 83 #[.agg (cS F).toArray] w fun e w' => ∃ v M, e = .returned v ∧ OwnR w' w.heap.size 127 v M ∧ SetF F M ∧ Below w.heap.size w w' := by
  have HF := Lib.hid hF
  obtain ⟨g3, hg3⟩ : ∃ g3, g3 = w.heap.size := ⟨_, rfl⟩
  clear hF
  go_enter Tryz.func83, Tryz.ntmps83
  go_upto_region 1 with fail
  change Code.wp _ _ _ _ (w.alloc (arrObj F))
  obtain ⟨w2, h2⟩ : ∃ w2, w2 = w.alloc (arrObj F) := ⟨_, rfl⟩
  rw [← h2, ← hg3]
  have HB2 : Hid (Below g3 w w2) := Lib.hid (by rw [h2, hg3]; exact Below.alloc0 _ _)
  have HS2 : Hid (w2.heap.size = g3 + 1) := Lib.hid (by rw [h2, hg3]; simp)
  have HA2 : Hid (w2.heap[g3]? = some (arrObj F)) := Lib.hid (by rw [h2, hg3]; exact heap_alloc_last _ _)
  have HG := Lib.hid hg3
  have hmk := run_mk256 w2
  have hs2 := HS2.out
  rw [hs2] at hmk
  clear h2 hg3 hs2
  obtain ⟨w4, h4⟩ : ∃ w4, w4 = w2.alloc (.cells (bcells 256 fun _ => false) 4) := ⟨_, rfl⟩
  rw [← h4] at hmk
  have HBl4 : Hid (Bl w4 (g3 + 1) 256 (upB (hasF F) 0)) := Lib.hid (by
    have := bl_new w2 256 (fun _ => false)
    rw [← h4, HS2.out] at this
    exact this.same fun j _ => by simp [upB])
  have HA4 : Hid (w4.heap[g3]? = some (arrObj F)) := Lib.hid (by rw [h4]; exact ((Below.alloc0 w2 _).block g3 (by rw [HS2.out]; omega)).trans HA2.out)
  have HB4 : Hid (Below g3 w w4) := Lib.hid (HB2.out.trans (by rw [h4]; exact (Below.alloc0 w2 _).mono (by rw [HS2.out]; omega)))
  have HS4 : Hid (w4.heap.size = g3 + 2) := Lib.hid (by rw [h4]; simp [HS2.out])
  clear h4
  go_wp2
  go_loopg [4] 256 (fun gk i wr => ∃ k : Nat, gk = 256 - k ∧ k ≤ 256 ∧ i = .int .i64 (k : Int) ∧ Hid (Bl wr (g3 + 1) 256 (upB (hasF F) k)) ∧ Hid (wr.heap[g3]? = some (arrObj F)) ∧ Hid (Below g3 w wr) ∧ Hid (wr.heap.size = g3 + 2))
  case atStart => exact ⟨0, rfl, by omega, rfl, HBl4, HA4, HB4, HS4⟩
  case round =>
    obtain ⟨k, hgk, hk, rfl, HBl, HA, HB, HS⟩ := hrel
    have HGK := Lib.hid hgk
    clear hgk
    by_cases hlt : k < 256
    · have hlt' : (k : Int) < 256 := by omega
      have hc := arr_cell (w := wr) (j := k) HA.out (by rw [HF.out.1]; exact hlt)
      have hq := HBl.out.at_ hlt
      have hfr := HBl.out.frozen k
      obtain ⟨l, hl⟩ : ∃ l, l = F.getD k [] := ⟨_, rfl⟩
      rw [← hl] at hc
      have hne := strB_neq l
      have hQ : (decide (l ≠ [])) = hasF F k := by rw [hl]; rfl
      rw [hQ] at hne
      obtain ⟨Q, hQ2⟩ : ∃ Q, Q = hasF F k := ⟨_, rfl⟩
      rw [← hQ2] at hne
      generalize strB l = sl at hc hne
      have HBl3 : Hid (Bl (wr.setCell ⟨g3 + 1, k, none⟩ (.bool Q)) (g3 + 1) 256 (upB (hasF F) (k + 1))) := Lib.hid ((HBl.out.set k Q).same (by rw [hQ2]; exact upB_succ _ _))
      have HA3 : Hid ((wr.setCell ⟨g3 + 1, k, none⟩ (.bool Q)).heap[g3]? = some (arrObj F)) := Lib.hid ((Below.heap_setCell wr _ _ g3 (by simp)).trans HA.out)
      have HB3 : Hid (Below g3 w (wr.setCell ⟨g3 + 1, k, none⟩ (.bool Q))) := Lib.hid (HB.out.trans (below_set (by simp) _ _))
      have HS3 : Hid ((wr.setCell ⟨g3 + 1, k, none⟩ (.bool Q)).heap.size = g3 + 2) := Lib.hid (by simp [HS.out])
      clear hl hQ hQ2
      go_wp2
      go_roundg (256 - (k + 1))
      case measure => have := HGK.out; omega
      case rel => exact ⟨k + 1, rfl, by omega, by go_num, HBl3, HA3, HB3, HS3⟩
    · obtain rfl : k = 256 := by omega
      have HBl5 : Hid (Bl wr (g3 + 1) 256 (hasF F)) := Lib.hid (HBl.out.same fun j hj => by simp [upB, hj])
      go_wp2_with fail
      refine (refRuns256_any _ _ _ HBl5.out).mono ?_
      rintro e w6 ⟨v, M, rfl, ho, hu, hb⟩
      have HO := Lib.hid (ho.mono (base' := w.heap.size) (by rw [HS.out, HG.out]; omega))
      have HU := Lib.hid (SetF.of_up HF.out.1 hu)
      have HB6 := Lib.hid (HB.out.trans (hb.mono (by rw [HS.out]; omega)))
      clear ho hu hb
      go_wp2
      go_ret
      exact ⟨_, M, rfl, HO.out, HU.out, by rw [← HG.out]; exact HB6.out⟩

end Go.Proofs.YtaijjogjohbheaaGreat
