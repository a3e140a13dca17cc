/- The document's Put into an image. -/
import Derived.Test.YtaijldcfoaeogaaGreatGKeepToINew
namespace Go.Proofs.YtaijldcfoaeogaaGreat
open Go.RowKit
set_option maxRecDepth 100000
set_option linter.unusedSimpArgs false

theorem cS_set (F : List (List Nat)) (j : Nat) (l : List Nat) : cS (F.set j l) = (cS F).set j (.string (strB l)) := by simp [cS, List.map_set]

theorem arr_set {w : World} {g j : Nat} {F : List (List Nat)} (l : List Nat) (h : w.heap[g]? = some (arrObj F)) : w.setCell ⟨g, j, none⟩ (.string (strB l)) = put w g (arrObj (F.set j l)) := by
  rw [set_put _ h]
  unfold arrObj
  rw [cS_set]
  simp

theorem arr_cell {w : World} {g j : Nat} {F : List (List Nat)} (h : w.heap[g]? = some (arrObj F)) (hj : j < F.length) : w.cell? ⟨g, j, none⟩ = some (.string (strB (F.getD j []))) := by
  rw [cell_of_row w g j _ _ _ h]
  simp [cS, List.getD, hj]

theorem arr_frozen {w : World} {g j : Nat} {F : List (List Nat)} (h : w.heap[g]? = some (arrObj F)) : w.frozen? ⟨g, j, none⟩ = false := by
  simp [World.frozen?, h, arrObj]

theorem pad_more (x : List Nat) (k : Nat) (h : x.length + k = 32) : x ++ List.replicate k 0 = padB x := by
  unfold padB
  rw [show 32 - x.length = k by omega]

set_option maxHeartbeats 1000000 in
set_option maxRecDepth 100000 in
theorem refPut_any (w : World) (F : List (List Nat)) (j : Nat) (a : Option Addr) (m c : Nat) (x : List Nat) (hF : F.length = 256) (hj : j < 256) (hm : m ≤ 32) (hr : Rd w a m x) :
    Calls Tryz.prog 19 #[.agg (cS F).toArray, .int .i64 (j : Int), .slice a m c] w fun e w' => e = .returned (.agg (cS (F.set j (padB x))).toArray) ∧ Below w.heap.size w w' := by
  have HR := Lib.hid hr
  have HF := Lib.hid hF
  obtain ⟨g3, hg3⟩ : ∃ g3, g3 = w.heap.size := ⟨_, rfl⟩
  clear hr hF
  go_enter Tryz.func19, Tryz.ntmps19
  go_upto_region 1 with fail
  rw [zero_img]
  change Code.wp _ _ _ _ ((w.alloc (arrObj F)).alloc (arrObj holes))
  obtain ⟨w2, h2⟩ : ∃ w2, w2 = (w.alloc (arrObj F)).alloc (arrObj holes) := ⟨_, rfl⟩
  rw [← h2, ← hg3]
  have HB2 : Hid (Below g3 w w2) := Lib.hid (by rw [h2, hg3]; exact ((Below.refl _ _).alloc (Nat.le_refl _) _).alloc (by simp) _)
  have HS2 : Hid (w2.heap.size = g3 + 1 + 1) := Lib.hid (by rw [h2, hg3]; simp)
  have HA2 : Hid (w2.heap[g3]? = some (arrObj F)) := Lib.hid (by rw [h2, hg3]; exact (Below.heap_alloc _ _ _ (by simp)).trans (heap_alloc_last _ _))
  have HZ2 : Hid (w2.heap[g3 + 1]? = some (arrObj holes)) := Lib.hid (by
    rw [h2, hg3]
    have := heap_alloc_last (w.alloc (arrObj F)) (arrObj holes)
    rw [World.size_alloc] at this
    exact this)
  have HG := Lib.hid hg3
  have HR2 := Lib.hid (HR.out.below HB2.out (by intro b o _ hlt; rw [HG.out]; exact hlt))
  clear h2 hg3
  go_wp2_with (at_builtin; have _t := hm; refine wpList_fresh rfl (.tmp 8) (.tmp 9) rfl w2.heap.size rfl a m c rfl (heap_alloc_new w2 _) x (HR2.out.later (Below.alloc0 _ _)) (by omega) ?next)
  case next =>
    intro g cap w4 hge hown hgr
    have HO : Hid (Own w4 w2.heap.size (.slice (some ⟨g, 0, none⟩) m cap) x) := Lib.hid hown
    have HB4 : Hid (Below w2.heap.size w2 w4) := Lib.hid ((Below.alloc0 w2 _).grown hgr (by simp) (fun k hk => by injection hk with hk; omega))
    clear hge hown hgr
    go_wp2
    go_loopg [7] 32 (fun gk v wr => ∃ k : Nat, gk = 32 - k ∧ Hid (m + k ≤ 32) ∧ Hid (Own wr w2.heap.size v (x ++ List.replicate k 0)) ∧ Hid (Below w2.heap.size w2 wr))
    case atStart => exact ⟨0, rfl, Lib.hid (by omega), Lib.hid (by simpa using HO.out), HB4⟩
    case round =>
      obtain ⟨k, hgk, HK, HOw, HB⟩ := hrel
      have HGK := Lib.hid hgk
      clear hgk
      have hlen : (x ++ List.replicate k 0).length = m + k := by rw [List.length_append, List.length_replicate, HR.out.1]
      obtain ⟨L, hL⟩ : ∃ L, L = m + k := ⟨_, rfl⟩
      obtain ⟨va, vc, rfl, hvr, hvc⟩ := HOw.out.sl
      rw [hlen, ← hL] at HOw hvr hvc ⊢
      have HVR := Lib.hid hvr
      have HLen := Lib.hid hlen
      have HLE := Lib.hid hL
      clear hvr hvc hlen hL
      by_cases hlt : L < 32
      · have hlt' : (L : Int) < 32 := by omega
        go_wp2_with (at_builtin; refine wpList_append_rd rfl (.tmp 14) (.tmp 15) rfl _ rfl (some ⟨wr.heap.size, 0, none⟩) 1 1 rfl w2.heap.size (x ++ List.replicate k 0) (HOw.out.alloc _) ?hb [0] (rd_new wr [0] (by simp)) ?hl ?next2)
        case hb => have := HB.out.size; simp; omega
        case hl => rw [HLen.out, ← HLE.out]; omega
        case next2 =>
          intro v' w5 ho5 hb5
          have H5 := Lib.hid (And.intro ho5 hb5)
          clear ho5 hb5
          go_wp2
          go_roundg (32 - (k + 1))
          case measure => have := HGK.out; have := HLE.out; omega
          case rel =>
            refine ⟨k + 1, rfl, Lib.hid ?_, Lib.hid ?_, Lib.hid ((HB.out.alloc HB.out.size _).trans (H5.out.2.mono (Nat.le_refl _)))⟩
            · have := HLE.out; omega
            · have := H5.out.1
              rw [List.replicate_succ']
              first
                | exact this
                | (rw [List.append_assoc] at this; exact this)
      · have hge : (32 : Int) ≤ (L : Int) := by omega
        have hx32 : x ++ List.replicate k 0 = padB x := pad_more x k (by have := HR.out.1; have := HK.out; have := HLE.out; omega)
        rw [hx32] at HOw
        have hcv := conv_rd (by have := HVR.out; rw [hx32] at this; exact this) vc
        have HX := Lib.hid hx32
        have HA : Hid (wr.heap[g3]? = some (arrObj F)) := Lib.hid ((HB.out.block _ (by rw [HS2.out]; omega)).trans HA2.out)
        have HZ : Hid (wr.heap[g3 + 1]? = some (arrObj holes)) := Lib.hid ((HB.out.block _ (by rw [HS2.out]; omega)).trans HZ2.out)
        have hc := arr_cell HA.out (j := j) (by rw [HF.out]; exact hj)
        have hf := arr_frozen (j := j) HA.out
        have hset := arr_set (j := j) (padB x) HA.out
        obtain ⟨w6, hw6⟩ : ∃ w6, w6 = put wr g3 (arrObj (F.set j (padB x))) := ⟨_, rfl⟩
        have HA6 : Hid (w6.heap[g3]? = some (arrObj (F.set j (padB x)))) := Lib.hid (by rw [hw6]; exact put_same HA.out)
        have HZ6 : Hid (w6.heap[g3 + 1]? = some (arrObj holes)) := Lib.hid (by rw [hw6]; exact (put_other (by omega)).trans HZ.out)
        have HB6 : Hid (Below g3 w w6) := Lib.hid (by rw [hw6]; exact ((HB2.out.trans (HB.out.mono (by rw [HS2.out]; omega))).trans (put_below _ (Nat.le_refl _))))
        rw [← hw6] at hset
        clear hw6 hx32
        go_wp2_with (first
          | (refine wpList_load_img rfl (.tmp 3) rfl g3 (F.set j (padB x)) rfl HA6.out (by rw [List.length_set]; exact HF.out) ?_)
          | (refine wpList_store_img rfl (.tmp 6) (.tmp 21) rfl (g3 + 1) holes (F.set j (padB x)) rfl rfl HZ6.out List.length_replicate (by rw [List.length_set]; exact HF.out) ?_; intro w7 H7))
        have HA7 : Hid (w7.heap[g3 + 1]? = some (arrObj (F.set j (padB x)))) := Lib.hid (by rw [H7.out]; exact put_same HZ6.out)
        have HB7 : Hid (Below g3 w w7) := Lib.hid (by rw [H7.out]; exact HB6.out.trans (put_below _ (by omega)))
        refine bodyPost_ret (v := .agg (cS (F.set j (padB x))).toArray) ?_ rfl ⟨rfl, by rw [← HG.out]; exact HB7.out⟩
        exact ret_img rfl rfl HA7.out (by rw [List.length_set]; exact HF.out)

end Go.Proofs.YtaijldcfoaeogaaGreat
