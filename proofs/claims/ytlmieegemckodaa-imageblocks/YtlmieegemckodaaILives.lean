/- The chapter's example (lives), over any world. -/
import Derived.Test.YtlmieegemckodaaIBytes
namespace Go.Proofs.Ytlmieegemckodaa
open Go.RowKit Go.Shelf
set_option linter.unusedSimpArgs false

def oneF : List (List Nat) := holes.set 3 (padB [7])

theorem oneF_at (z : Int) : fAt oneF z = if z = 3 then padB [7] else [] := by
  unfold oneF
  have := fAt_set holes 3 (padB [7]) (by rw [holes_ok.1]; omega) z
  rw [this, fAt_holes]
  rfl

theorem oneF_set : SetF oneF [⟨3, 4⟩] := by
  refine ⟨⟨0, by simp [Canon]⟩, fun z => ?_⟩
  rw [oneF_at, inR_cons]
  constructor
  · rintro (h | h)
    · have h1 := h.1
      have h2 := h.2
      simp only at h1 h2
      rw [if_pos (by omega)]
      exact padB_ne _
    · exact absurd h (inR_nil z)
  · intro h
    by_cases e : z = 3
    · subst e
      exact .inl ⟨by simp, by simp⟩
    · rw [if_neg e] at h
      exact absurd rfl h

theorem oneF_bytes {M : List Rn} (h : SetF oneF M) : tEnc (bytesF oneF M) = [35, 1, 3, 1, 7] ++ List.replicate 31 0 := by
  rw [h.unique oneF_set]
  have e1 : (setNums [⟨3, 4⟩]).flatMap vEnc = [1, 3, 1] := by
    simp [setNums, numsGo, vEnc_small]
  have e2 : numsR [⟨3, 4⟩] = [3] := by
    simp [numsR, segR]
  have e3 : bytesF oneF [⟨3, 4⟩] = [1, 3, 1] ++ padB [7] := by
    unfold bytesF
    rw [e1, e2, List.flatMap_cons, List.flatMap_nil, List.append_nil, oneF_at, if_pos rfl]
  rw [e3]
  unfold tEnc
  have e4 : ([1, 3, 1] ++ padB [7]).length = 35 := by simp [padB]
  rw [e4, vEnc_small (by omega)]
  rfl

set_option maxHeartbeats 1000000 in
set_option maxRecDepth 100000 in
theorem lives9_any (w : World) : Calls Try.prog 6 #[] w fun e w' => e = .returned (.bool true) ∧ Below w.heap.size w w' := by
  have HN := Lib.hid (imgNew_any w)
  go_enter Try.func6, Try.ntmps6
  go_wp2_with fail
  refine HN.out.mono ?_
  rintro e w1 ⟨g, b, rfl, hg, hb, himg, hb1⟩
  have HP := Lib.hid (imgPut_yes (w1.alloc (.cells #[.int .u8 7] 5)) g b 0 holes 3 (some ⟨w1.heap.size, 0, none⟩) 1 1 [7] (himg.later (Below.alloc0 _ _)) (by omega) (by omega) (by omega) (rd_new w1 [7] (by simp)))
  have HGB := Lib.hid (And.intro hg hb)
  have HB1 := Lib.hid hb1
  clear hg hb himg hb1 HN
  go_wp2_with fail
  refine HP.out.mono ?_
  rintro e w2 ⟨rfl, himg2, hs2⟩
  have HB2 : Hid (Below w.heap.size w w2) := Lib.hid ((HB1.out.trans ((Below.alloc0 w1 _).mono HB1.out.size)).trans (hs2.below (by have := HB1.out.size; simp; omega) (by have := HGB.out; simp; omega)))
  have HBy := Lib.hid (imgBytes_any w2 g b 1 oneF himg2)
  clear himg2 hs2 HP
  go_wp2_with fail
  refine HBy.out.mono ?_
  rintro e w3 ⟨v, M, rfl, hsf, ho, hb3⟩
  rw [oneF_bytes hsf] at ho
  obtain ⟨a, c, rfl, hr, hc⟩ := ho.sl
  have hl : ([35, 1, 3, 1, 7] ++ List.replicate 31 0 : List Nat).length = 36 := rfl
  rw [hl] at hr hc ⊢
  have hs5 : ∀ W : World, (Instr.slice 23 (.slice a 36 c) none (some (.int .i64 5)) none).run Try.prog W = .ok (.slice a 5 c) W := fun W => slice_to a 36 c 5 .i64 (by omega) W
  have hcv := conv_rd (hr.first (k := 5) (by omega)) c
  have ht : ([35, 1, 3, 1, 7] ++ List.replicate 31 0 : List Nat).take 5 = [35, 1, 3, 1, 7] := rfl
  rw [ht] at hcv
  have hzz : ((strB [35, 1, 3, 1, 7]).toList == ([35, 1, 3, 1, 7] : List UInt8)) = true := by rw [ByteArray.toList_eq]; rfl
  generalize strB [35, 1, 3, 1, 7] = sl at hcv hzz
  have HB3 : Hid (Below w.heap.size w w3) := Lib.hid (HB2.out.trans (hb3.mono HB2.out.size))
  clear hsf ho hr hc hl ht hb3
  go_wp2
  go_ret
  exact ⟨rfl, HB3.out⟩

end Go.Proofs.Ytlmieegemckodaa
