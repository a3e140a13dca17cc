/- maps.DeleteFunc at Diff's own test; the contract of image's Diff, over any world. -/
import Derived.Test.YtlmieegemckodaaISame
import Derived.Test.YtlmieegemckodaaIBytes
import Derived.Test.YtlmieegemckodaaINew
import Derived.Test.YtlmieegemckodaaESets
namespace Go.Proofs.Ytlmieegemckodaa
open Go.RowKit
set_option linter.unusedSimpArgs false

set_option maxRecDepth 100000 in
theorem delFn_any (w : World) (gt b n : Nat) (G : List (List Nat)) (x : Int) (l : List Nat) (hl : okB l) (hwx : (Lit.int .i64 x).wf = true) (hgt : w.heap[gt]? = some (.cells #[.map (some b)] 74 (0, 0))) (h : Mp w b n G) :
    Calls Try.prog 48 #[.int .i64 x, .agg (cB l).toArray, .pointer (some ⟨gt, 0, none⟩)] w fun e w' => e = .returned (.bool (decide (fAt G x = l))) ∧ Below w.heap.size w w' := by
  obtain ⟨g4, hg4⟩ : ∃ g4, g4 = w.heap.size := ⟨_, rfl⟩
  have hglt : gt < w.heap.size := lt_of_block hgt
  have HL := Lib.hid hl
  have HM := Lib.hid h
  obtain ⟨Y, hY⟩ : ∃ Y, Y = decide (fAt G x = l) := ⟨_, rfl⟩
  rw [← hY]
  have HY := Lib.hid hY
  clear hl h hY
  go_enter Try.func48, Try.ntmps48
  go_upto_region 1 with fail
  change Code.wp _ _ _ _ (w.alloc (rowObj 80 l))
  obtain ⟨w2, h2⟩ : ∃ w2, w2 = w.alloc (rowObj 80 l) := ⟨_, rfl⟩
  rw [← h2, ← hg4]
  have HB2 : Hid (Below w.heap.size w w2) := Lib.hid (by rw [h2]; exact Below.alloc0 _ _)
  have HX2 : Hid (w2.heap[g4]? = some (rowObj 80 l)) := Lib.hid (by rw [h2, hg4]; exact heap_alloc_last _ _)
  have hgt2 : w2.cell? ⟨gt, 0, none⟩ = some (.map (some b)) := by
    simp [World.cell?, (HB2.out.block gt hglt).trans hgt]
  obtain ⟨lG, hlG, hGe, hlook, _⟩ := (HM.out.later HB2.out).look x hwx
  have HLG := Lib.hid (And.intro hlG hGe)
  clear h2 hgt hlG hGe hg4
  obtain ⟨g6, hg6⟩ : ∃ g6, g6 = w2.heap.size := ⟨_, rfl⟩
  obtain ⟨K, hK⟩ : ∃ K, K = decide (fAt G x ≠ []) := ⟨_, rfl⟩
  rw [← hK] at hlook
  have HK := Lib.hid hK
  clear hK
  go_upto_region 2 with (refine wpList_store_blk rfl (.tmp 6) (.tmp 12) rfl _ 80 (List.replicate 32 0) lG rfl rfl (heap_alloc_last _ _) List.length_replicate HLG.out.1.1 ?_; intro w3 H3)
  rw [← hg6]
  have HX36 : Hid (w3.heap[g6]? = some (rowObj 80 lG)) := Lib.hid (by rw [H3.out, hg6]; exact put_same (heap_alloc_last _ _))
  have HG3 : Hid (w2.grownBy w3 none) := Lib.hid (by rw [H3.out]; exact grown_new _ _ _)
  have HX34 : Hid (w3.heap[g4]? = some (rowObj 80 l)) := Lib.hid ((HG3.out.block g4 (lt_of_block HX2.out) (by simp)).trans HX2.out)
  have HB3 : Hid (Below w.heap.size w w3) := Lib.hid (HB2.out.grown HG3.out HB2.out.size (fun k hk => by cases hk))
  clear H3 hg6 hlook hgt2
  cases K with
  | false =>
    have hg0 : fAt G x = [] := by
      have := HK.out
      simpa using this.symm
    have hyf : Y = false := by
      rw [HY.out, hg0]
      exact decide_eq_false fun e => HL.out.ne e.symm
    subst hyf
    clear hg0
    go_wp2
    go_ret
    exact ⟨rfl, HB3.out⟩
  | true =>
    have hg1 : fAt G x ≠ [] := by
      have := HK.out
      simpa using this.symm
    have hlge := HLG.out.2 hg1
    have hye : Y = decide (lG = l) := by rw [HY.out, hlge]
    have heq := fun W => eql_blk lG l HLG.out.1.1 HL.out.1 W
    rw [← hye] at heq
    clear hg1 hlge hye
    go_wp2_with (first
      | (refine wpList_load_blk rfl (.tmp 6) rfl g6 80 lG rfl HX36.out HLG.out.1.1 ?_)
      | (refine wpList_load_blk rfl (.tmp 4) rfl g4 80 l rfl HX34.out HL.out.1 ?_))
    go_ret
    exact ⟨rfl, HB3.out⟩

/-- The blocks of F that are not in G: what Diff keeps. -/
def diffF (F G : List (List Nat)) : List (List Nat) := (List.range 256).map fun k => if G.getD k [] = F.getD k [] then [] else F.getD k []

theorem diffF_len (F G : List (List Nat)) : (diffF F G).length = 256 := by simp [diffF]

theorem fAt_diffF {F G : List (List Nat)} (hF : F.length = 256) (hG : G.length = 256) (x : Int) : fAt (diffF F G) x = if fAt G x = fAt F x then [] else fAt F x := by
  by_cases h : 0 ≤ x ∧ x < 256
  · obtain ⟨k, rfl⟩ : ∃ k : Nat, x = (k : Int) := ⟨x.toNat, by omega⟩
    simp only [fAt_nat]
    have hk : k < 256 := by omega
    by_cases hq : G.getD k [] = F.getD k []
    · rw [if_pos hq]
      simp only [List.getD] at hq
      simp [diffF, List.getD, hk, hq]
    · rw [if_neg hq]
      simp only [List.getD] at hq
      simp [diffF, List.getD, hk, hq]
  · rw [fAt_out (diffF_len F G) (by omega), fAt_out hF (by omega), fAt_out hG (by omega)]
    simp

theorem diffF_ok {F G : List (List Nat)} (hF : okF F) : okF (diffF F G) := by
  refine ⟨diffF_len F G, fun l hl => ?_⟩
  obtain ⟨k, hk, rfl⟩ := List.mem_map.1 hl
  by_cases h : G.getD k [] = F.getD k []
  · rw [if_pos h]; exact .inl rfl
  · rw [if_neg h]
    have := hF.at_ (k : Int)
    rw [fAt_nat] at this
    exact this

set_option maxHeartbeats 2000000 in
set_option maxRecDepth 100000 in
theorem delete_any (w : World) (b n gt c m : Nat) (F G : List (List Nat)) (hF : okF F) (hG : okF G) (h1 : Mp w b n F) (hgt : w.heap[gt]? = some (.cells #[.map (some c)] 74 (0, 0))) (h2 : Mp w c m G) (hbc : b ≠ c) (hbg : b ≠ gt) :
    Calls Try.prog 47 #[.map (some b), .func (.func 48) #[] #[.pointer (some ⟨gt, 0, none⟩)]] w fun e w' => e = .returned (.tuple #[]) ∧ Mp w' b n (diffF F G) ∧ Save [b] w w' := by
  have eg : ∀ args w, (callFunc 48 args).run Try.prog w = .ok (.enter 48 args) w := enters_of Try.func48 (by kernel_rfl) rfl
  obtain ⟨D, hD, hA⟩ := h1
  have HD := Lib.hid (And.intro hD hA)
  have HM := Lib.hid (And.intro h2 hgt)
  have HOk := Lib.hid (And.intro hF hG)
  have HLt := Lib.hid (And.intro hD.lt (And.intro h2.lt (lt_of_block hgt)))
  obtain ⟨r, hr⟩ : ∃ r, r = w.heap.size := ⟨_, rfl⟩
  clear hD hA h2 hgt hF hG
  go_enter Try.func47, Try.ntmps47
  go_wp2_with (at_range; refine wpList_range_own _ rfl _ 74 rfl 3 80 keyedInt Try.underlying74 _ b n D rfl HD.out.1 ?_; intro w0 hrg0 hg0 hs0)
  go_frame
  rw [← hr] at hrg0 ⊢
  have HR := Lib.hid hr
  have H0 := Lib.hid (And.intro hrg0 hg0)
  clear hr hrg0 hg0 hs0
  go_loopw [4] (fun _ wr => ∃ (left : Lit → Bool) (cnt : Nat) (E : DataW (List Nat)) (K : List (List Nat)), Hid (wr.ranges Try.prog 3 blkR b r n E left cnt) ∧ Hid (Agr E K) ∧ Hid (K.length = 256) ∧ Hid (∀ x : Int, fAt K x = if left (.int .i64 x) = true then fAt F x else fAt (diffF F G) x) ∧ Hid (Save [b] w wr)) (fun _ wr => wr.rangeLeft b r)
  case atStart =>
    refine ⟨_, _, D, F, Lib.hid H0.out.1, Lib.hid HD.out.2, Lib.hid HOk.out.1.1, Lib.hid ?_, Lib.hid ((Save.refl [b] w).grown H0.out.2 (by simp))⟩
    intro x
    rw [(HD.out.2 x).1, fAt_diffF HOk.out.1.1 HOk.out.2.1]
    by_cases hx : fAt F x = []
    · simp [hx]
    · simp [hx]
  case round =>
    obtain ⟨left, cnt, E, K, HRg, HE, HKl, HK, HS⟩ := hrel
    go_wp2_with (at_next; refine wpList_next_img rfl _ rfl b r n E K HE.out left cnt rfl HRg.out ?_ ?_)
    · intro hc0 hl0
      have HL0 := Lib.hid hl0
      clear hc0 hl0
      go_wp2
      go_end0
      have hKD : K = diffF F G := F_ext HKl.out (diffF_len F G) fun x => by rw [HK.out x, HL0.out]; simp
      refine ⟨rfl, ⟨E, HRg.out.owns, by rw [← hKD]; exact HE.out⟩, HS.out⟩
    · intro x l w1 cnt1 hwx hokl hlF hlx hat hrg1 hlt hg1 hs1 hen
      have hfx : fAt K x = fAt F x := by rw [HK.out x, hlx]; simp
      have HX := Lib.hid (And.intro hwx (And.intro hokl (hlF.trans hfx)))
      have H1 := Lib.hid (And.intro hrg1 (And.intro hlt hg1))
      have HS1 : Hid (Save [b] w w1) := Lib.hid (HS.out.grown hg1 (by intro k e; injection e with e; left; rw [← e, HR.out]; exact Nat.le_refl _))
      clear hokl hat hrg1 hlt hg1 hlF hlx hs1 hfx
      obtain ⟨g5, hg5⟩ : ∃ g5, g5 = w1.heap.size := ⟨_, rfl⟩
      go_upto_region 3 with (refine wpList_store_blk rfl (.tmp 5) (.tmp 12) rfl _ 80 (List.replicate 32 0) l rfl rfl (heap_alloc_last _ _) List.length_replicate HX.out.2.1.1 ?_; intro w3 H3)
      rw [← hg5]
      have HB3 : Hid (w3.heap[g5]? = some (rowObj 80 l)) := Lib.hid (by rw [H3.out, hg5]; exact put_same (heap_alloc_last _ _))
      have HG3 : Hid (w1.grownBy w3 none) := Lib.hid (by rw [H3.out]; exact grown_new _ _ _)
      have HK3 := Lib.hid ((H1.out.1).kept HG3.out (by simp) (by simp))
      have HS3 : Hid (Save [b] w w3) := Lib.hid (HS1.out.grown HG3.out (by simp))
      have HMc : Hid (Mp w3 c m G) := Lib.hid (HM.out.1.save HS3.out (by simp; exact fun e => hbc e.symm))
      have HCc := Lib.hid ((HS3.out.block gt HLt.out.2.2 (by simp; exact fun e => hbg e.symm)).trans HM.out.2)
      have HW := Lib.hid hwx
      clear H3 hg5 hen hwx
      obtain ⟨Z, hZ⟩ : ∃ Z, Z = decide (fAt G x = l) := ⟨_, rfl⟩
      have HZ := Lib.hid hZ
      have HCall := Lib.hid (delFn_any w3 gt c m G x l HX.out.2.1 HW.out HCc.out HMc.out)
      rw [← hZ] at HCall
      clear hZ
      go_wp2_with (first
        | (refine wpList_load_blk rfl (.tmp 5) rfl g5 80 l rfl HB3.out HX.out.2.1.1 ?_)
        | fail)
      refine HCall.out.mono ?_
      rintro e w4 ⟨rfl, hb4⟩
      have HG4 : Hid (w3.grownBy w4 none) := Lib.hid ⟨hb4.os, hb4.tape, hb4.output, hb4.size, fun k hk _ => hb4.block k hk⟩
      have HK4 := Lib.hid (HK3.out.kept HG4.out (by simp) (by simp))
      have HS4 : Hid (Save [b] w w4) := Lib.hid (HS3.out.grown HG4.out (by simp))
      clear hb4
      cases Z with
      | false =>
        go_wp2
        go_roundw
        case rel =>
          refine ⟨_, cnt1, E, K, HK4, HE, HKl, Lib.hid ?_, HS4⟩
          intro y
          have h9 : fAt G x ≠ l := of_decide_eq_false HZ.out.symm
          rw [HK.out y]
          by_cases e : y = x
          · subst e
            have : (Lit.int .i64 y).sameKey (.int .i64 y) = true := WideAt.sameKey_self (isKey_int y)
            have hd : fAt (diffF F G) y = fAt F y := by rw [fAt_diffF HOk.out.1.1 HOk.out.2.1, if_neg (by rw [← HX.out.2.2]; exact h9)]
            simp [this, hd]
          · have : (Lit.int .i64 y).sameKey (.int .i64 x) = false := Maps.sameKey_ne (lit_ne e)
            simp only [this, Bool.not_false, Bool.and_true]
        case measure => rw [HK4.out.left_eq, HRg.out.left_eq]; exact H1.out.2.1
      | true =>
        have hj : ∃ j : Nat, x = (j : Int) ∧ j < 256 := by
          have h9 : fAt F x ≠ [] := by rw [← HX.out.2.2]; exact HX.out.2.1.ne
          have := fAt_in HOk.out.1.1 h9
          exact ⟨x.toNat, by omega, by omega⟩
        obtain ⟨j, rfl, hj⟩ := hj
        have hkey : keyOf Try.prog 3 (.int .i64 (j : Int)) = some (.int .i64 (j : Int)) := Maps.keyOf_int_mk Try.underlying3 HW.out
        go_wp2_with (at_delete; refine wpList_delete_ranges _ rfl _ _ 74 3 rfl 80 keyedInt Try.underlying74 blkR b r n E _ cnt1 rfl HK4.out _ _ rfl hkey ?_; intro w5 cnt2 hrg5 hle5 hturn5; go_frame)
        rw [Maps.strike_twice] at hrg5
        have HG5 := Lib.hid hturn5.grown
        have HK5 := Lib.hid (And.intro hrg5 hle5)
        clear hrg5 hturn5 hle5
        go_roundw
        case rel =>
          refine ⟨_, cnt2, _, K.set j [], Lib.hid HK5.out.1, Lib.hid (HE.out.del (by rw [HKl.out]; exact hj)), Lib.hid (by rw [List.length_set]; exact HKl.out), Lib.hid ?_, Lib.hid (HS4.out.grown HG5.out (by intro k e; injection e with e; right; simp [e]))⟩
          intro y
          have h9 : fAt G (j : Int) = l := of_decide_eq_true HZ.out.symm
          rw [fAt_set K j [] (by rw [HKl.out]; exact hj) y]
          by_cases e : y = (j : Int)
          · subst e
            have : (Lit.int .i64 (j : Int)).sameKey (.int .i64 (j : Int)) = true := WideAt.sameKey_self (isKey_int _)
            have hd : fAt (diffF F G) (j : Int) = [] := by rw [fAt_diffF HOk.out.1.1 HOk.out.2.1, if_pos (h9.trans HX.out.2.2)]
            simp [this, hd]
          · have : (Lit.int .i64 y).sameKey (.int .i64 (j : Int)) = false := Maps.sameKey_ne (lit_ne e)
            simp only [this, Bool.not_false, Bool.and_true]
            rw [if_neg e, HK.out y]
        case measure => rw [HK5.out.1.left_eq, HRg.out.left_eq]; have := H1.out.2.1; have := HK5.out.2; omega

end Go.Proofs.Ytlmieegemckodaa
