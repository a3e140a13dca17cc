/- maps.DeleteFunc at Diff's own test; the contract of image's Diff, over any world. -/
import Derived.Test.YtaijldcfoaeogaaGreatGIEqToISame
import Derived.Test.YtaijldcfoaeogaaGreatGOwnVarToIBlk
import Derived.Test.YtaijldcfoaeogaaGreatGKeepToINew
import Derived.Test.YtaijldcfoaeogaaGreatESets
namespace Go.Proofs.YtaijldcfoaeogaaGreat
open Go.RowKit
set_option maxRecDepth 100000
set_option linter.unusedSimpArgs false

set_option maxRecDepth 100000 in
theorem delFn_any (w : World) (gt b n : Nat) (G : List (List Nat)) (x : Int) (l : List Nat) (hl : okB l) (hwx : (Lit.int .i64 x).wf = true) (hgt : w.heap[gt]? = some (.cells #[.map (some b)] 100 (0, 0))) (h : Mp w b n G) :
    Calls Tryz.prog 39 #[.int .i64 x, .agg (cB l).toArray, .pointer (some ⟨gt, 0, none⟩)] w fun e w' => e = .returned (.bool (decide (fAt G x = l))) ∧ Below w.heap.size w w' := by
  obtain ⟨g4, hg4⟩ : ∃ g4, g4 = w.heap.size := ⟨_, rfl⟩
  have hglt : gt < w.heap.size := lt_of_block hgt
  have HL := Lib.hid hl
  have HM := Lib.hid h
  obtain ⟨Y, hY⟩ : ∃ Y, Y = decide (fAt G x = l) := ⟨_, rfl⟩
  rw [← hY]
  have HY := Lib.hid hY
  clear hl h hY
  go_enter Tryz.func39, Tryz.ntmps39
  go_upto_region 1 with fail
  change Code.wp _ _ _ _ (w.alloc (rowObj 105 l))
  obtain ⟨w2, h2⟩ : ∃ w2, w2 = w.alloc (rowObj 105 l) := ⟨_, rfl⟩
  rw [← h2, ← hg4]
  have HB2 : Hid (Below w.heap.size w w2) := Lib.hid (by rw [h2]; exact Below.alloc0 _ _)
  have HX2 : Hid (w2.heap[g4]? = some (rowObj 105 l)) := Lib.hid (by rw [h2, hg4]; exact heap_alloc_last _ _)
  have hgt2 : w2.cell? ⟨gt, 0, none⟩ = some (.map (some b)) := by
    simp [World.cell?, (HB2.out.block gt hglt).trans hgt]
  obtain ⟨lG, hlG, hGe, hlook, _⟩ := (HM.out.later HB2.out).look x hwx
  have HLG := Lib.hid (And.intro hlG hGe)
  clear h2 hgt hlG hGe hg4
  obtain ⟨g6, hg6⟩ : ∃ g6, g6 = w2.heap.size := ⟨_, rfl⟩
  obtain ⟨K, hK⟩ : ∃ K, K = decide (fAt G x ≠ []) := ⟨_, rfl⟩
  rw [← hK] at hlook
  have HK := Lib.hid hK
  clear hK
  go_upto_region 2 with (refine wpList_store_blk rfl (.tmp 6) (.tmp 12) rfl _ 105 (List.replicate 32 0) lG rfl rfl (heap_alloc_last _ _) List.length_replicate HLG.out.1.1 ?_; intro w3 H3)
  rw [← hg6]
  have HX36 : Hid (w3.heap[g6]? = some (rowObj 105 lG)) := Lib.hid (by rw [H3.out, hg6]; exact put_same (heap_alloc_last _ _))
  have HG3 : Hid (w2.grownBy w3 none) := Lib.hid (by rw [H3.out]; exact grown_new _ _ _)
  have HX34 : Hid (w3.heap[g4]? = some (rowObj 105 l)) := Lib.hid ((HG3.out.block g4 (lt_of_block HX2.out) (by simp)).trans HX2.out)
  have HB3 : Hid (Below w.heap.size w w3) := Lib.hid (HB2.out.grown HG3.out HB2.out.size (fun k hk => by cases hk))
  clear H3 hg6 hlook hgt2
  cases K with
  | false =>
    have hg0 : fAt G x = [] := by
      have := HK.out
      simpa using this.symm
    have hyf : Y = false := by
      rw [HY.out, hg0]
      exact decide_eq_false fun e => HL.out.ne e.symm
    subst hyf
    clear hg0
    go_wp2
    go_ret
    exact ⟨rfl, HB3.out⟩
  | true =>
    have hg1 : fAt G x ≠ [] := by
      have := HK.out
      simpa using this.symm
    have hlge := HLG.out.2 hg1
    have hye : Y = decide (lG = l) := by rw [HY.out, hlge]
    have heq := fun W => eql_blk lG l HLG.out.1.1 HL.out.1 W
    rw [← hye] at heq
    clear hg1 hlge hye
    go_wp2_with (first
      | (refine wpList_load_blk rfl (.tmp 6) rfl g6 105 lG rfl HX36.out HLG.out.1.1 ?_)
      | (refine wpList_load_blk rfl (.tmp 4) rfl g4 105 l rfl HX34.out HL.out.1 ?_))
    go_ret
    exact ⟨rfl, HB3.out⟩

/-- The blocks of F that are not in G: what Diff keeps. -/
def diffF (F G : List (List Nat)) : List (List Nat) := (List.range 256).map fun k => if G.getD k [] = F.getD k [] then [] else F.getD k []

theorem diffF_len (F G : List (List Nat)) : (diffF F G).length = 256 := by simp [diffF]

theorem fAt_diffF {F G : List (List Nat)} (hF : F.length = 256) (hG : G.length = 256) (x : Int) : fAt (diffF F G) x = if fAt G x = fAt F x then [] else fAt F x := by
  by_cases h : 0 ≤ x ∧ x < 256
  · obtain ⟨k, rfl⟩ : ∃ k : Nat, x = (k : Int) := ⟨x.toNat, by omega⟩
    simp only [fAt_nat]
    have hk : k < 256 := by omega
    by_cases hq : G.getD k [] = F.getD k []
    · rw [if_pos hq]
      simp only [List.getD] at hq
      simp [diffF, List.getD, hk, hq]
    · rw [if_neg hq]
      simp only [List.getD] at hq
      simp [diffF, List.getD, hk, hq]
  · rw [fAt_out (diffF_len F G) (by omega), fAt_out hF (by omega), fAt_out hG (by omega)]
    simp

theorem diffF_ok {F G : List (List Nat)} (hF : okF F) : okF (diffF F G) := by
  refine ⟨diffF_len F G, fun l hl => ?_⟩
  obtain ⟨k, hk, rfl⟩ := List.mem_map.1 hl
  by_cases h : G.getD k [] = F.getD k []
  · rw [if_pos h]; exact .inl rfl
  · rw [if_neg h]
    have := hF.at_ (k : Int)
    rw [fAt_nat] at this
    exact this

set_option maxHeartbeats 2000000 in
set_option maxRecDepth 100000 in
theorem delete_any (w : World) (b n gt c m : Nat) (F G : List (List Nat)) (hF : okF F) (hG : okF G) (h1 : Mp w b n F) (hgt : w.heap[gt]? = some (.cells #[.map (some c)] 100 (0, 0))) (h2 : Mp w c m G) (hbc : b ≠ c) (hbg : b ≠ gt) :
    Calls Tryz.prog 38 #[.map (some b), .func (.func 39) #[] #[.pointer (some ⟨gt, 0, none⟩)]] w fun e w' => e = .returned (.tuple #[]) ∧ Mp w' b n (diffF F G) ∧ Save [b] w w' := by
  have eg : ∀ args w, (callFunc 39 args).run Tryz.prog w = .ok (.enter 39 args) w := enters_of Tryz.func39 (by kernel_rfl) rfl
  obtain ⟨D, hD, hA⟩ := h1
  have HD := Lib.hid (And.intro hD hA)
  have HM := Lib.hid (And.intro h2 hgt)
  have HOk := Lib.hid (And.intro hF hG)
  have HLt := Lib.hid (And.intro hD.lt (And.intro h2.lt (lt_of_block hgt)))
  obtain ⟨r, hr⟩ : ∃ r, r = w.heap.size := ⟨_, rfl⟩
  clear hD hA h2 hgt hF hG
  go_enter Tryz.func38, Tryz.ntmps38
  go_wp2_with (at_range; refine wpList_range_own _ rfl _ 100 rfl 3 105 keyedInt Tryz.underlying100 _ b n D rfl HD.out.1 ?_; intro w0 hrg0 hg0 hs0)
  go_frame
  rw [← hr] at hrg0 ⊢
  have HR := Lib.hid hr
  have H0 := Lib.hid (And.intro hrg0 hg0)
  clear hr hrg0 hg0 hs0
  go_loopw [4] (fun _ wr => ∃ (left : Lit → Bool) (cnt : Nat) (E : DataW (List Nat)) (K : List (List Nat)), Hid (wr.ranges Tryz.prog 3 blkR b r n E left cnt) ∧ Hid (Agr E K) ∧ Hid (K.length = 256) ∧ Hid (∀ x : Int, fAt K x = if left (.int .i64 x) = true then fAt F x else fAt (diffF F G) x) ∧ Hid (Save [b] w wr)) (fun _ wr => wr.rangeLeft b r)
  case atStart =>
    refine ⟨_, _, D, F, Lib.hid H0.out.1, Lib.hid HD.out.2, Lib.hid HOk.out.1.1, Lib.hid ?_, Lib.hid ((Save.refl [b] w).grown H0.out.2 (by simp))⟩
    intro x
    rw [(HD.out.2 x).1, fAt_diffF HOk.out.1.1 HOk.out.2.1]
    by_cases hx : fAt F x = []
    · simp [hx]
    · simp [hx]
  case round =>
    obtain ⟨left, cnt, E, K, HRg, HE, HKl, HK, HS⟩ := hrel
    go_wp2_with (at_next; refine wpList_next_img rfl _ rfl b r n E K HE.out left cnt rfl HRg.out ?_ ?_)
    · intro hc0 hl0
      have HL0 := Lib.hid hl0
      clear hc0 hl0
      go_wp2
      go_end0
      have hKD : K = diffF F G := F_ext HKl.out (diffF_len F G) fun x => by rw [HK.out x, HL0.out]; simp
      refine ⟨rfl, ⟨E, HRg.out.owns, by rw [← hKD]; exact HE.out⟩, HS.out⟩
    · intro x l w1 cnt1 hwx hokl hlF hlx hat hrg1 hlt hg1 hs1 hen
      have hfx : fAt K x = fAt F x := by rw [HK.out x, hlx]; simp
      have HX := Lib.hid (And.intro hwx (And.intro hokl (hlF.trans hfx)))
      have H1 := Lib.hid (And.intro hrg1 (And.intro hlt hg1))
      have HS1 : Hid (Save [b] w w1) := Lib.hid (HS.out.grown hg1 (by intro k e; injection e with e; left; rw [← e, HR.out]; exact Nat.le_refl _))
      clear hokl hat hrg1 hlt hg1 hlF hlx hs1 hfx
      obtain ⟨g5, hg5⟩ : ∃ g5, g5 = w1.heap.size := ⟨_, rfl⟩
      go_upto_region 3 with (refine wpList_store_blk rfl (.tmp 5) (.tmp 12) rfl _ 105 (List.replicate 32 0) l rfl rfl (heap_alloc_last _ _) List.length_replicate HX.out.2.1.1 ?_; intro w3 H3)
      rw [← hg5]
      have HB3 : Hid (w3.heap[g5]? = some (rowObj 105 l)) := Lib.hid (by rw [H3.out, hg5]; exact put_same (heap_alloc_last _ _))
      have HG3 : Hid (w1.grownBy w3 none) := Lib.hid (by rw [H3.out]; exact grown_new _ _ _)
      have HK3 := Lib.hid ((H1.out.1).kept HG3.out (by simp) (by simp))
      have HS3 : Hid (Save [b] w w3) := Lib.hid (HS1.out.grown HG3.out (by simp))
      have HMc : Hid (Mp w3 c m G) := Lib.hid (HM.out.1.save HS3.out (by simp; exact fun e => hbc e.symm))
      have HCc := Lib.hid ((HS3.out.block gt HLt.out.2.2 (by simp; exact fun e => hbg e.symm)).trans HM.out.2)
      have HW := Lib.hid hwx
      clear H3 hg5 hen hwx
      obtain ⟨Z, hZ⟩ : ∃ Z, Z = decide (fAt G x = l) := ⟨_, rfl⟩
      have HZ := Lib.hid hZ
      have HCall := Lib.hid (delFn_any w3 gt c m G x l HX.out.2.1 HW.out HCc.out HMc.out)
      rw [← hZ] at HCall
      clear hZ
      go_wp2_with (first
        | (refine wpList_load_blk rfl (.tmp 5) rfl g5 105 l rfl HB3.out HX.out.2.1.1 ?_)
        | fail)
      refine HCall.out.mono ?_
      rintro e w4 ⟨rfl, hb4⟩
      have HG4 : Hid (w3.grownBy w4 none) := Lib.hid ⟨hb4.os, hb4.tape, hb4.output, hb4.size, fun k hk _ => hb4.block k hk⟩
      have HK4 := Lib.hid (HK3.out.kept HG4.out (by simp) (by simp))
      have HS4 : Hid (Save [b] w w4) := Lib.hid (HS3.out.grown HG4.out (by simp))
      clear hb4
      cases Z with
      | false =>
        go_wp2
        go_roundw
        case rel =>
          refine ⟨_, cnt1, E, K, HK4, HE, HKl, Lib.hid ?_, HS4⟩
          intro y
          have h9 : fAt G x ≠ l := of_decide_eq_false HZ.out.symm
          rw [HK.out y]
          by_cases e : y = x
          · subst e
            have : (Lit.int .i64 y).sameKey (.int .i64 y) = true := WideAt.sameKey_self (isKey_int y)
            have hd : fAt (diffF F G) y = fAt F y := by rw [fAt_diffF HOk.out.1.1 HOk.out.2.1, if_neg (by rw [← HX.out.2.2]; exact h9)]
            simp [this, hd]
          · have : (Lit.int .i64 y).sameKey (.int .i64 x) = false := Maps.sameKey_ne (lit_ne e)
            simp only [this, Bool.not_false, Bool.and_true]
        case measure => rw [HK4.out.left_eq, HRg.out.left_eq]; exact H1.out.2.1
      | true =>
        have hj : ∃ j : Nat, x = (j : Int) ∧ j < 256 := by
          have h9 : fAt F x ≠ [] := by rw [← HX.out.2.2]; exact HX.out.2.1.ne
          have := fAt_in HOk.out.1.1 h9
          exact ⟨x.toNat, by omega, by omega⟩
        obtain ⟨j, rfl, hj⟩ := hj
        have hkey : keyOf Tryz.prog 3 (.int .i64 (j : Int)) = some (.int .i64 (j : Int)) := Maps.keyOf_int_mk Tryz.underlying3 HW.out
        go_wp2_with (at_delete; refine wpList_delete_ranges _ rfl _ _ 100 3 rfl 105 keyedInt Tryz.underlying100 blkR b r n E _ cnt1 rfl HK4.out _ _ rfl hkey ?_; intro w5 cnt2 hrg5 hle5 hturn5; go_frame)
        rw [Maps.strike_twice] at hrg5
        have HG5 := Lib.hid hturn5.grown
        have HK5 := Lib.hid (And.intro hrg5 hle5)
        clear hrg5 hturn5 hle5
        go_roundw
        case rel =>
          refine ⟨_, cnt2, _, K.set j [], Lib.hid HK5.out.1, Lib.hid (HE.out.del (by rw [HKl.out]; exact hj)), Lib.hid (by rw [List.length_set]; exact HKl.out), Lib.hid ?_, Lib.hid (HS4.out.grown HG5.out (by intro k e; injection e with e; right; simp [e]))⟩
          intro y
          have h9 : fAt G (j : Int) = l := of_decide_eq_true HZ.out.symm
          rw [fAt_set K j [] (by rw [HKl.out]; exact hj) y]
          by_cases e : y = (j : Int)
          · subst e
            have : (Lit.int .i64 (j : Int)).sameKey (.int .i64 (j : Int)) = true := WideAt.sameKey_self (isKey_int _)
            have hd : fAt (diffF F G) (j : Int) = [] := by rw [fAt_diffF HOk.out.1.1 HOk.out.2.1, if_pos (h9.trans HX.out.2.2)]
            simp [this, hd]
          · have : (Lit.int .i64 y).sameKey (.int .i64 (j : Int)) = false := Maps.sameKey_ne (lit_ne e)
            simp only [this, Bool.not_false, Bool.and_true]
            rw [if_neg e, HK.out y]
        case measure => rw [HK5.out.1.left_eq, HRg.out.left_eq]; have := H1.out.2.1; have := HK5.out.2; omega

end Go.Proofs.YtaijldcfoaeogaaGreat

/- The contract of image's Diff, over any world. -/
namespace Go.Proofs.YtaijldcfoaeogaaGreat
open Go.RowKit
set_option maxRecDepth 100000
set_option linter.unusedSimpArgs false

/-- The numbers that are blocks in G and holes in F. -/
def goneF (F G : List (List Nat)) : List (List Nat) := (List.range 256).map fun k => if F.getD k [] = [] then G.getD k [] else []

theorem goneF_len (F G : List (List Nat)) : (goneF F G).length = 256 := by simp [goneF]

theorem fAt_goneF {F G : List (List Nat)} (hF : F.length = 256) (hG : G.length = 256) (x : Int) : fAt (goneF F G) x = if fAt F x = [] then fAt G x else [] := by
  by_cases h : 0 ≤ x ∧ x < 256
  · obtain ⟨k, rfl⟩ : ∃ k : Nat, x = (k : Int) := ⟨x.toNat, by omega⟩
    simp only [fAt_nat]
    have hk : k < 256 := by omega
    by_cases hq : F.getD k [] = []
    · rw [if_pos hq]
      simp only [List.getD] at hq
      simp [goneF, List.getD, hk, hq]
    · rw [if_neg hq]
      simp only [List.getD] at hq
      simp [goneF, List.getD, hk, hq]
  · rw [fAt_out (goneF_len F G) (by omega), fAt_out hF (by omega), fAt_out hG (by omega)]
    simp

theorem rds_one {w : World} {a : Option Addr} {n c : Nat} {M : List Rn} (h : RdR w a n M) (hb : Below w.heap.size w (w.alloc (.cells #[.slice a n c] 71))) : RdS (w.alloc (.cells #[.slice a n c] 71)) (some ⟨w.heap.size, 0, none⟩) 1 [M] := by
  refine ⟨rfl, fun _ => ⟨_, _, rfl, fun j hj => ⟨a, n, c, ?_, ?_⟩⟩⟩
  · obtain rfl : j = 0 := by omega
    change (w.alloc _).cell? ⟨w.heap.size, 0, none⟩ = _
    rw [World.cell?_alloc_new]
    rfl
  · obtain rfl : j = 0 := by omega
    exact h.later hb

set_option maxHeartbeats 2000000 in
set_option maxRecDepth 100000 in
theorem diff_any (w : World) (g b n g' b' n' : Nat) (F G : List (List Nat)) (h1 : Img w g b n F) (h2 : Img w g' b' n' G) (hn : n < 100000) :
    Calls Tryz.prog 21 #[.pointer (some ⟨g, 0, none⟩), .pointer (some ⟨g', 0, none⟩)] w fun e w' => ∃ v u M N, e = .returned (.tuple #[v, u]) ∧ OwnR w' w.heap.size 53 v M ∧ SetF (diffF F G) M ∧ OwnR w' w.heap.size 53 u N ∧ SetF (goneF F G) N ∧ Below w.heap.size w w' := by
  have H1 := Lib.hid h1
  have H2 := Lib.hid h2
  have HOk := Lib.hid (And.intro h1.ok h2.ok)
  have HA := Lib.hid (all_any w g' b' n' G h2)
  clear h1 h2
  obtain ⟨g6, hg6⟩ : ∃ g6, g6 = w.heap.size := ⟨_, rfl⟩
  have HG6 := Lib.hid hg6
  go_enter Tryz.func21, Tryz.ntmps21
  go_wp2_with fail
  refine HA.out.mono ?_
  rintro e w2 ⟨rfl, hw2⟩
  have hw2 := hw2.symm
  subst hw2
  go_wp2_with fail
  obtain ⟨w3, hw3⟩ : ∃ w3, w3 = w.alloc (.cells #[.map (some b')] 100) := ⟨_, rfl⟩
  rw [← hw3, ← hg6]
  clear hg6
  have HX3 : Hid (w3.heap[g6]? = some (.cells #[.map (some b')] 100 (0, 0))) := Lib.hid (by
    rw [hw3, HG6.out]
    exact heap_alloc_last _ _)
  have HB3 : Hid (Below w.heap.size w w3) := Lib.hid (by rw [hw3]; exact Below.alloc0 _ _)
  clear hw3
  have HC := Lib.hid (imgClone_any w3 g b n F (H1.out.later HB3.out) hn)
  refine HC.out.mono ?_
  rintro e w4 ⟨gc, bc, rfl, hgc, hbc, him, hb4⟩
  have HI4 := Lib.hid him
  have HB4 := Lib.hid (And.intro hb4 (And.intro hgc hbc))
  have hcell := him.cell
  clear him hb4 hgc hbc
  have HL6 : Hid (g6 < w3.heap.size) := Lib.hid (lt_of_block HX3.out)
  have HX4 : Hid (w4.heap[g6]? = some (.cells #[.map (some b')] 100 (0, 0))) := Lib.hid ((HB4.out.1.block g6 HL6.out).trans HX3.out)
  have HM4 : Hid (Mp w4 b' n' G) := Lib.hid ((H2.out.map.later HB3.out).later HB4.out.1)
  have HD := Lib.hid (delete_any w4 bc n g6 b' n' F G HOk.out.1 HOk.out.2 HI4.out.map HX4.out HM4.out (by
    have := HB4.out.2.2; have := (H2.out.map.later HB3.out).lt; omega) (by have := HB4.out.2.2; have := HL6.out; omega))
  go_wp2_with fail
  refine HD.out.mono ?_
  rintro e w5 ⟨rfl, hm5, hs5⟩
  have HM5 := Lib.hid hm5
  have HB5 : Hid (Below w3.heap.size w3 w5) := Lib.hid (by
    have hb := HB4.out.1
    refine ⟨hs5.os.trans hb.os, hs5.tape.trans hb.tape, hs5.output.trans hb.output, Nat.le_trans hb.size hs5.size, fun k hk => ?_⟩
    exact (hs5.block k (Nat.lt_of_lt_of_le hk hb.size) (by have := HB4.out.2.2; simp; omega)).trans (hb.block k hk))
  clear hm5 hs5 hcell
  have HBw5 : Hid (Below w.heap.size w w5) := Lib.hid (HB3.out.trans (HB5.out.mono HB3.out.size))
  have HI5 := Lib.hid (And.intro (H1.out.later HBw5.out) (H2.out.later HBw5.out))
  go_wp2_with fail
  refine (setOf_any w5 bc n (diffF F G) (diffF_ok HOk.out.1) HM5.out).mono ?_
  rintro e w6 ⟨v6, M, rfl, ho6, hM6, hb6⟩
  have HO6 := Lib.hid ho6
  have HM6 := Lib.hid hM6
  have HB6 := Lib.hid hb6
  clear ho6 hM6 hb6
  go_wp2_with fail
  refine (blocks_any w6 g' b' n' G (HI5.out.2.later HB6.out)).mono ?_
  rintro e w7 ⟨v7, N1, rfl, ho7, hN1, hb7⟩
  have HO7 := Lib.hid ho7
  have HN1 := Lib.hid hN1
  have HB7 := Lib.hid hb7
  clear ho7 hN1 hb7
  go_wp2_with fail
  refine (blocks_any w7 g b n F ((HI5.out.1.later HB6.out).later HB7.out)).mono ?_
  rintro e w8 ⟨v8, N2, rfl, ho8, hN2, hb8⟩
  have HO8 := Lib.hid ho8
  have HN2 := Lib.hid hN2
  have HB8 := Lib.hid hb8
  clear ho8 hN2 hb8
  obtain ⟨a7, c7, hv7, hr7, hc7, hl7⟩ := (HO7.out.kept HB8.out).rd
  obtain ⟨a8, c8, hv8, hr8, hc8, hl8⟩ := HO8.out.rd
  subst hv7
  subst hv8
  have HR7 := Lib.hid hr7
  have HR8 := Lib.hid hr8
  clear hr7 hc7 hl7 hr8 hc8 hl8
  have HLen := Lib.hid (And.intro (HN1.out.len HOk.out.2.1) (HN2.out.len HOk.out.1.1))
  have hb9 : Below w8.heap.size w8 (w8.alloc (.cells #[.slice a8 N2.length c8] 71)) := Below.alloc0 _ _
  have HB9 := Lib.hid hb9
  have HS9 := Lib.hid (rds_one HR8.out hb9)
  clear hb9
  go_wp2_with fail
  refine (minus_any a7 N1.length c7 N1 _ 1 1 [N2] _ (HR7.out.later HB9.out) HS9.out (by have := HLen.out; omega) (by omega) (by intro N hN; simp at hN; subst hN; have := HLen.out; omega) (HN1.out.ok HOk.out.2.1) (by intro N hN; simp at hN; subst hN; exact HN2.out.ok HOk.out.1.1) HN1.out.set).mono ?_
  rintro e w10 ⟨v10, K, rfl, ho10, hK, hKm, hb10⟩
  have HK : Hid (SetF (goneF F G) K) := Lib.hid ⟨hK, fun z => by
    rw [hKm z, HN1.out.mem, fAt_goneF HOk.out.1.1 HOk.out.2.1]
    have : (∃ N ∈ [N2], inR N z) ↔ fAt F z ≠ [] := by simp [HN2.out.mem]
    rw [this]
    by_cases h : fAt F z = [] <;> simp [h]⟩
  have HO10 := Lib.hid ho10
  have HB10 := Lib.hid hb10
  clear ho10 hK hKm hb10
  go_wp2
  go_ret2
  have hb78 := (HB7.out.trans (HB8.out.mono HB7.out.size))
  have hb79 := hb78.trans (HB9.out.mono hb78.size)
  have hb710 := hb79.trans (HB10.out.mono hb79.size)
  have hsz : w.heap.size ≤ w6.heap.size := Nat.le_trans HBw5.out.size HB6.out.size
  refine ⟨_, _, M, K, rfl, (HO6.out.kept hb710).mono HBw5.out.size, HM6.out, HO10.out.mono (Nat.le_trans hsz hb79.size), HK.out, ?_⟩
  exact (HBw5.out.trans (HB6.out.mono HBw5.out.size)).trans (hb710.mono hsz)

end Go.Proofs.YtaijldcfoaeogaaGreat
