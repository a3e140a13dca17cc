/- maps.DeleteFunc at Diff's own test; the contract of image's Diff, over any world. -/
import Derived.Test.YtaijjogjohbheaaGreatISame
import Derived.Test.YtaijjogjohbheaaGreatIBytes
import Derived.Test.YtaijjogjohbheaaGreatGZerosToINew
import Derived.Test.YtaijjogjohbheaaGreatESets
import Derived.Test.YtaijjogjohbheaaGreatSBytes
namespace Go.Proofs.YtaijjogjohbheaaGreat
open Go.RowKit
set_option maxRecDepth 100000
set_option linter.unusedSimpArgs false

set_option maxRecDepth 100000 in
theorem delFn_any (w : World) (gt b n : Nat) (G : List (List Nat)) (x : Int) (l : List Nat) (hl : okB l) (hwx : (Lit.int .i64 x).wf = true) (hgt : w.heap[gt]? = some (.cells #[.map (some b)] 121 (0, 0))) (h : Mp w b n G) :
    Calls Tryz.prog 63 #[.int .i64 x, .agg (cB l).toArray, .pointer (some ⟨gt, 0, none⟩)] w fun e w' => e = .returned (.bool (decide (fAt G x = l))) ∧ Below w.heap.size w w' := by
  obtain ⟨g4, hg4⟩ : ∃ g4, g4 = w.heap.size := ⟨_, rfl⟩
  have hglt : gt < w.heap.size := lt_of_block hgt
  have HL := Lib.hid hl
  have HM := Lib.hid h
  obtain ⟨Y, hY⟩ : ∃ Y, Y = decide (fAt G x = l) := ⟨_, rfl⟩
  rw [← hY]
  have HY := Lib.hid hY
  clear hl h hY
  go_enter Tryz.func63, Tryz.ntmps63
  go_upto_region 1 with fail
  change Code.wp _ _ _ _ (w.alloc (rowObj 135 l))
  obtain ⟨w2, h2⟩ : ∃ w2, w2 = w.alloc (rowObj 135 l) := ⟨_, rfl⟩
  rw [← h2, ← hg4]
  have HB2 : Hid (Below w.heap.size w w2) := Lib.hid (by rw [h2]; exact Below.alloc0 _ _)
  have HX2 : Hid (w2.heap[g4]? = some (rowObj 135 l)) := Lib.hid (by rw [h2, hg4]; exact heap_alloc_last _ _)
  have hgt2 : w2.cell? ⟨gt, 0, none⟩ = some (.map (some b)) := by
    simp [World.cell?, (HB2.out.block gt hglt).trans hgt]
  obtain ⟨lG, hlG, hGe, hlook, _⟩ := (HM.out.later HB2.out).look x hwx
  have HLG := Lib.hid (And.intro hlG hGe)
  clear h2 hgt hlG hGe hg4
  obtain ⟨g6, hg6⟩ : ∃ g6, g6 = w2.heap.size := ⟨_, rfl⟩
  obtain ⟨K, hK⟩ : ∃ K, K = decide (fAt G x ≠ []) := ⟨_, rfl⟩
  rw [← hK] at hlook
  have HK := Lib.hid hK
  clear hK
  go_upto_region 2 with (refine wpList_store_blk rfl (.tmp 6) (.tmp 12) rfl _ 135 (List.replicate 32 0) lG rfl rfl (heap_alloc_last _ _) List.length_replicate HLG.out.1.1 ?_; intro w3 H3)
  rw [← hg6]
  have HX36 : Hid (w3.heap[g6]? = some (rowObj 135 lG)) := Lib.hid (by rw [H3.out, hg6]; exact put_same (heap_alloc_last _ _))
  have HG3 : Hid (w2.grownBy w3 none) := Lib.hid (by rw [H3.out]; exact grown_new _ _ _)
  have HX34 : Hid (w3.heap[g4]? = some (rowObj 135 l)) := Lib.hid ((HG3.out.block g4 (lt_of_block HX2.out) (by simp)).trans HX2.out)
  have HB3 : Hid (Below w.heap.size w w3) := Lib.hid (HB2.out.grown HG3.out HB2.out.size (fun k hk => by cases hk))
  clear H3 hg6 hlook hgt2
  cases K with
  | false =>
    have hg0 : fAt G x = [] := by
      have := HK.out
      simpa using this.symm
    have hyf : Y = false := by
      rw [HY.out, hg0]
      exact decide_eq_false fun e => HL.out.ne e.symm
    subst hyf
    clear hg0
    go_wp2
    go_ret
    exact ⟨rfl, HB3.out⟩
  | true =>
    have hg1 : fAt G x ≠ [] := by
      have := HK.out
      simpa using this.symm
    have hlge := HLG.out.2 hg1
    have hye : Y = decide (lG = l) := by rw [HY.out, hlge]
    have heq := fun W => eql_blk lG l HLG.out.1.1 HL.out.1 W
    rw [← hye] at heq
    clear hg1 hlge hye
    go_wp2_with (first
      | (refine wpList_load_blk rfl (.tmp 6) rfl g6 135 lG rfl HX36.out HLG.out.1.1 ?_)
      | (refine wpList_load_blk rfl (.tmp 4) rfl g4 135 l rfl HX34.out HL.out.1 ?_))
    go_ret
    exact ⟨rfl, HB3.out⟩

/-- The blocks of F that are not in G: what Diff keeps. -/
def diffF (F G : List (List Nat)) : List (List Nat) := (List.range 256).map fun k => if G.getD k [] = F.getD k [] then [] else F.getD k []

theorem diffF_len (F G : List (List Nat)) : (diffF F G).length = 256 := by simp [diffF]

theorem fAt_diffF {F G : List (List Nat)} (hF : F.length = 256) (hG : G.length = 256) (x : Int) : fAt (diffF F G) x = if fAt G x = fAt F x then [] else fAt F x := by
  by_cases h : 0 ≤ x ∧ x < 256
  · obtain ⟨k, rfl⟩ : ∃ k : Nat, x = (k : Int) := ⟨x.toNat, by omega⟩
    simp only [fAt_nat]
    have hk : k < 256 := by omega
    by_cases hq : G.getD k [] = F.getD k []
    · rw [if_pos hq]
      simp only [List.getD] at hq
      simp [diffF, List.getD, hk, hq]
    · rw [if_neg hq]
      simp only [List.getD] at hq
      simp [diffF, List.getD, hk, hq]
  · rw [fAt_out (diffF_len F G) (by omega), fAt_out hF (by omega), fAt_out hG (by omega)]
    simp

theorem diffF_ok {F G : List (List Nat)} (hF : okF F) : okF (diffF F G) := by
  refine ⟨diffF_len F G, fun l hl => ?_⟩
  obtain ⟨k, hk, rfl⟩ := List.mem_map.1 hl
  by_cases h : G.getD k [] = F.getD k []
  · rw [if_pos h]; exact .inl rfl
  · rw [if_neg h]
    have := hF.at_ (k : Int)
    rw [fAt_nat] at this
    exact this

set_option maxHeartbeats 2000000 in
set_option maxRecDepth 100000 in
theorem delete_any (w : World) (b n gt c m : Nat) (F G : List (List Nat)) (hF : okF F) (hG : okF G) (h1 : Mp w b n F) (hgt : w.heap[gt]? = some (.cells #[.map (some c)] 121 (0, 0))) (h2 : Mp w c m G) (hbc : b ≠ c) (hbg : b ≠ gt) :
    Calls Tryz.prog 62 #[.map (some b), .func (.func 63) #[] #[.pointer (some ⟨gt, 0, none⟩)]] w fun e w' => e = .returned (.tuple #[]) ∧ Mp w' b n (diffF F G) ∧ Save [b] w w' := by
  have eg : ∀ args w, (callFunc 63 args).run Tryz.prog w = .ok (.enter 63 args) w := enters_of Tryz.func63 (by kernel_rfl) rfl
  obtain ⟨D, hD, hA⟩ := h1
  have HD := Lib.hid (And.intro hD hA)
  have HM := Lib.hid (And.intro h2 hgt)
  have HOk := Lib.hid (And.intro hF hG)
  have HLt := Lib.hid (And.intro hD.lt (And.intro h2.lt (lt_of_block hgt)))
  obtain ⟨r, hr⟩ : ∃ r, r = w.heap.size := ⟨_, rfl⟩
  clear hD hA h2 hgt hF hG
  go_enter Tryz.func62, Tryz.ntmps62
  go_wp2_with (at_range; refine wpList_range_own _ rfl _ 121 rfl 3 135 keyedInt Tryz.underlying121 _ b n D rfl HD.out.1 ?_; intro w0 hrg0 hg0 hs0)
  go_frame
  rw [← hr] at hrg0 ⊢
  have HR := Lib.hid hr
  have H0 := Lib.hid (And.intro hrg0 hg0)
  clear hr hrg0 hg0 hs0
  go_loopw [4] (fun _ wr => ∃ (left : Lit → Bool) (cnt : Nat) (E : DataW (List Nat)) (K : List (List Nat)), Hid (wr.ranges Tryz.prog 3 blkR b r n E left cnt) ∧ Hid (Agr E K) ∧ Hid (K.length = 256) ∧ Hid (∀ x : Int, fAt K x = if left (.int .i64 x) = true then fAt F x else fAt (diffF F G) x) ∧ Hid (Save [b] w wr)) (fun _ wr => wr.rangeLeft b r)
  case atStart =>
    refine ⟨_, _, D, F, Lib.hid H0.out.1, Lib.hid HD.out.2, Lib.hid HOk.out.1.1, Lib.hid ?_, Lib.hid ((Save.refl [b] w).grown H0.out.2 (by simp))⟩
    intro x
    rw [(HD.out.2 x).1, fAt_diffF HOk.out.1.1 HOk.out.2.1]
    by_cases hx : fAt F x = []
    · simp [hx]
    · simp [hx]
  case round =>
    obtain ⟨left, cnt, E, K, HRg, HE, HKl, HK, HS⟩ := hrel
    go_wp2_with (at_next; refine wpList_next_img rfl _ rfl b r n E K HE.out left cnt rfl HRg.out ?_ ?_)
    · intro hc0 hl0
      have HL0 := Lib.hid hl0
      clear hc0 hl0
      go_wp2
      go_end0
      have hKD : K = diffF F G := F_ext HKl.out (diffF_len F G) fun x => by rw [HK.out x, HL0.out]; simp
      refine ⟨rfl, ⟨E, HRg.out.owns, by rw [← hKD]; exact HE.out⟩, HS.out⟩
    · intro x l w1 cnt1 hwx hokl hlF hlx hat hrg1 hlt hg1 hs1 hen
      have hfx : fAt K x = fAt F x := by rw [HK.out x, hlx]; simp
      have HX := Lib.hid (And.intro hwx (And.intro hokl (hlF.trans hfx)))
      have H1 := Lib.hid (And.intro hrg1 (And.intro hlt hg1))
      have HS1 : Hid (Save [b] w w1) := Lib.hid (HS.out.grown hg1 (by intro k e; injection e with e; left; rw [← e, HR.out]; exact Nat.le_refl _))
      clear hokl hat hrg1 hlt hg1 hlF hlx hs1 hfx
      obtain ⟨g5, hg5⟩ : ∃ g5, g5 = w1.heap.size := ⟨_, rfl⟩
      go_upto_region 3 with (refine wpList_store_blk rfl (.tmp 5) (.tmp 12) rfl _ 135 (List.replicate 32 0) l rfl rfl (heap_alloc_last _ _) List.length_replicate HX.out.2.1.1 ?_; intro w3 H3)
      rw [← hg5]
      have HB3 : Hid (w3.heap[g5]? = some (rowObj 135 l)) := Lib.hid (by rw [H3.out, hg5]; exact put_same (heap_alloc_last _ _))
      have HG3 : Hid (w1.grownBy w3 none) := Lib.hid (by rw [H3.out]; exact grown_new _ _ _)
      have HK3 := Lib.hid ((H1.out.1).kept HG3.out (by simp) (by simp))
      have HS3 : Hid (Save [b] w w3) := Lib.hid (HS1.out.grown HG3.out (by simp))
      have HMc : Hid (Mp w3 c m G) := Lib.hid (HM.out.1.save HS3.out (by simp; exact fun e => hbc e.symm))
      have HCc := Lib.hid ((HS3.out.block gt HLt.out.2.2 (by simp; exact fun e => hbg e.symm)).trans HM.out.2)
      have HW := Lib.hid hwx
      clear H3 hg5 hen hwx
      obtain ⟨Z, hZ⟩ : ∃ Z, Z = decide (fAt G x = l) := ⟨_, rfl⟩
      have HZ := Lib.hid hZ
      have HCall := Lib.hid (delFn_any w3 gt c m G x l HX.out.2.1 HW.out HCc.out HMc.out)
      rw [← hZ] at HCall
      clear hZ
      go_wp2_with (first
        | (refine wpList_load_blk rfl (.tmp 5) rfl g5 135 l rfl HB3.out HX.out.2.1.1 ?_)
        | fail)
      refine HCall.out.mono ?_
      rintro e w4 ⟨rfl, hb4⟩
      have HG4 : Hid (w3.grownBy w4 none) := Lib.hid ⟨hb4.os, hb4.tape, hb4.output, hb4.size, fun k hk _ => hb4.block k hk⟩
      have HK4 := Lib.hid (HK3.out.kept HG4.out (by simp) (by simp))
      have HS4 : Hid (Save [b] w w4) := Lib.hid (HS3.out.grown HG4.out (by simp))
      clear hb4
      cases Z with
      | false =>
        go_wp2
        go_roundw
        case rel =>
          refine ⟨_, cnt1, E, K, HK4, HE, HKl, Lib.hid ?_, HS4⟩
          intro y
          have h9 : fAt G x ≠ l := of_decide_eq_false HZ.out.symm
          rw [HK.out y]
          by_cases e : y = x
          · subst e
            have : (Lit.int .i64 y).sameKey (.int .i64 y) = true := WideAt.sameKey_self (isKey_int y)
            have hd : fAt (diffF F G) y = fAt F y := by rw [fAt_diffF HOk.out.1.1 HOk.out.2.1, if_neg (by rw [← HX.out.2.2]; exact h9)]
            simp [this, hd]
          · have : (Lit.int .i64 y).sameKey (.int .i64 x) = false := Maps.sameKey_ne (lit_ne e)
            simp only [this, Bool.not_false, Bool.and_true]
        case measure => rw [HK4.out.left_eq, HRg.out.left_eq]; exact H1.out.2.1
      | true =>
        have hj : ∃ j : Nat, x = (j : Int) ∧ j < 256 := by
          have h9 : fAt F x ≠ [] := by rw [← HX.out.2.2]; exact HX.out.2.1.ne
          have := fAt_in HOk.out.1.1 h9
          exact ⟨x.toNat, by omega, by omega⟩
        obtain ⟨j, rfl, hj⟩ := hj
        have hkey : keyOf Tryz.prog 3 (.int .i64 (j : Int)) = some (.int .i64 (j : Int)) := Maps.keyOf_int_mk Tryz.underlying3 HW.out
        go_wp2_with (at_delete; refine wpList_delete_ranges _ rfl _ _ 121 3 rfl 135 keyedInt Tryz.underlying121 blkR b r n E _ cnt1 rfl HK4.out _ _ rfl hkey ?_; intro w5 cnt2 hrg5 hle5 hturn5; go_frame)
        rw [Maps.strike_twice] at hrg5
        have HG5 := Lib.hid hturn5.grown
        have HK5 := Lib.hid (And.intro hrg5 hle5)
        clear hrg5 hturn5 hle5
        go_roundw
        case rel =>
          refine ⟨_, cnt2, _, K.set j [], Lib.hid HK5.out.1, Lib.hid (HE.out.del (by rw [HKl.out]; exact hj)), Lib.hid (by rw [List.length_set]; exact HKl.out), Lib.hid ?_, Lib.hid (HS4.out.grown HG5.out (by intro k e; injection e with e; right; simp [e]))⟩
          intro y
          have h9 : fAt G (j : Int) = l := of_decide_eq_true HZ.out.symm
          rw [fAt_set K j [] (by rw [HKl.out]; exact hj) y]
          by_cases e : y = (j : Int)
          · subst e
            have : (Lit.int .i64 (j : Int)).sameKey (.int .i64 (j : Int)) = true := WideAt.sameKey_self (isKey_int _)
            have hd : fAt (diffF F G) (j : Int) = [] := by rw [fAt_diffF HOk.out.1.1 HOk.out.2.1, if_pos (h9.trans HX.out.2.2)]
            simp [this, hd]
          · have : (Lit.int .i64 y).sameKey (.int .i64 (j : Int)) = false := Maps.sameKey_ne (lit_ne e)
            simp only [this, Bool.not_false, Bool.and_true]
            rw [if_neg e, HK.out y]
        case measure => rw [HK5.out.1.left_eq, HRg.out.left_eq]; have := H1.out.2.1; have := HK5.out.2; omega

end Go.Proofs.YtaijjogjohbheaaGreat

/- The contract of image's Diff, over any world. -/
namespace Go.Proofs.YtaijjogjohbheaaGreat
open Go.RowKit
set_option maxRecDepth 100000
set_option linter.unusedSimpArgs false

/-- The numbers that are blocks in G and holes in F. -/
def goneF (F G : List (List Nat)) : List (List Nat) := (List.range 256).map fun k => if F.getD k [] = [] then G.getD k [] else []

theorem goneF_len (F G : List (List Nat)) : (goneF F G).length = 256 := by simp [goneF]

theorem fAt_goneF {F G : List (List Nat)} (hF : F.length = 256) (hG : G.length = 256) (x : Int) : fAt (goneF F G) x = if fAt F x = [] then fAt G x else [] := by
  by_cases h : 0 ≤ x ∧ x < 256
  · obtain ⟨k, rfl⟩ : ∃ k : Nat, x = (k : Int) := ⟨x.toNat, by omega⟩
    simp only [fAt_nat]
    have hk : k < 256 := by omega
    by_cases hq : F.getD k [] = []
    · rw [if_pos hq]
      simp only [List.getD] at hq
      simp [goneF, List.getD, hk, hq]
    · rw [if_neg hq]
      simp only [List.getD] at hq
      simp [goneF, List.getD, hk, hq]
  · rw [fAt_out (goneF_len F G) (by omega), fAt_out hF (by omega), fAt_out hG (by omega)]
    simp

theorem rds_one {w : World} {a : Option Addr} {n c : Nat} {M : List Rn} (h : RdR w a n M) (hb : Below w.heap.size w (w.alloc (.cells #[.slice a n c] 59))) : RdS (w.alloc (.cells #[.slice a n c] 59)) (some ⟨w.heap.size, 0, none⟩) 1 [M] := by
  refine ⟨rfl, fun _ => ⟨_, _, rfl, fun j hj => ⟨a, n, c, ?_, ?_⟩⟩⟩
  · obtain rfl : j = 0 := by omega
    change (w.alloc _).cell? ⟨w.heap.size, 0, none⟩ = _
    rw [World.cell?_alloc_new]
    rfl
  · obtain rfl : j = 0 := by omega
    exact h.later hb

set_option maxHeartbeats 2000000 in
set_option maxRecDepth 100000 in
theorem diff_any (w : World) (g b n g' b' n' : Nat) (F G : List (List Nat)) (h1 : Img w g b n F) (h2 : Img w g' b' n' G) (hn : n < 100000) :
    Calls Tryz.prog 40 #[.pointer (some ⟨g, 0, none⟩), .pointer (some ⟨g', 0, none⟩)] w fun e w' => ∃ v u M N, e = .returned (.tuple #[v, u]) ∧ OwnR w' w.heap.size 67 v M ∧ SetF (diffF F G) M ∧ OwnR w' w.heap.size 67 u N ∧ SetF (goneF F G) N ∧ Below w.heap.size w w' := by
  have H1 := Lib.hid h1
  have H2 := Lib.hid h2
  have HOk := Lib.hid (And.intro h1.ok h2.ok)
  have HA := Lib.hid (all_any w g' b' n' G h2)
  clear h1 h2
  obtain ⟨g6, hg6⟩ : ∃ g6, g6 = w.heap.size := ⟨_, rfl⟩
  have HG6 := Lib.hid hg6
  go_enter Tryz.func40, Tryz.ntmps40
  go_wp2_with fail
  refine HA.out.mono ?_
  rintro e w2 ⟨rfl, hw2⟩
  have hw2 := hw2.symm
  subst hw2
  go_wp2_with fail
  obtain ⟨w3, hw3⟩ : ∃ w3, w3 = w.alloc (.cells #[.map (some b')] 121) := ⟨_, rfl⟩
  rw [← hw3, ← hg6]
  clear hg6
  have HX3 : Hid (w3.heap[g6]? = some (.cells #[.map (some b')] 121 (0, 0))) := Lib.hid (by
    rw [hw3, HG6.out]
    exact heap_alloc_last _ _)
  have HB3 : Hid (Below w.heap.size w w3) := Lib.hid (by rw [hw3]; exact Below.alloc0 _ _)
  clear hw3
  have HC := Lib.hid (imgClone_any w3 g b n F (H1.out.later HB3.out) hn)
  refine HC.out.mono ?_
  rintro e w4 ⟨gc, bc, rfl, hgc, hbc, him, hb4⟩
  have HI4 := Lib.hid him
  have HB4 := Lib.hid (And.intro hb4 (And.intro hgc hbc))
  have hcell := him.cell
  clear him hb4 hgc hbc
  have HL6 : Hid (g6 < w3.heap.size) := Lib.hid (lt_of_block HX3.out)
  have HX4 : Hid (w4.heap[g6]? = some (.cells #[.map (some b')] 121 (0, 0))) := Lib.hid ((HB4.out.1.block g6 HL6.out).trans HX3.out)
  have HM4 : Hid (Mp w4 b' n' G) := Lib.hid ((H2.out.map.later HB3.out).later HB4.out.1)
  have HD := Lib.hid (delete_any w4 bc n g6 b' n' F G HOk.out.1 HOk.out.2 HI4.out.map HX4.out HM4.out (by
    have := HB4.out.2.2; have := (H2.out.map.later HB3.out).lt; omega) (by have := HB4.out.2.2; have := HL6.out; omega))
  go_wp2_with fail
  refine HD.out.mono ?_
  rintro e w5 ⟨rfl, hm5, hs5⟩
  have HM5 := Lib.hid hm5
  have HB5 : Hid (Below w3.heap.size w3 w5) := Lib.hid (by
    have hb := HB4.out.1
    refine ⟨hs5.os.trans hb.os, hs5.tape.trans hb.tape, hs5.output.trans hb.output, Nat.le_trans hb.size hs5.size, fun k hk => ?_⟩
    exact (hs5.block k (Nat.lt_of_lt_of_le hk hb.size) (by have := HB4.out.2.2; simp; omega)).trans (hb.block k hk))
  clear hm5 hs5 hcell
  have HBw5 : Hid (Below w.heap.size w w5) := Lib.hid (HB3.out.trans (HB5.out.mono HB3.out.size))
  have HI5 := Lib.hid (And.intro (H1.out.later HBw5.out) (H2.out.later HBw5.out))
  go_wp2_with fail
  refine (setOf_any w5 bc n (diffF F G) (diffF_ok HOk.out.1) HM5.out).mono ?_
  rintro e w6 ⟨v6, M, rfl, ho6, hM6, hb6⟩
  have HO6 := Lib.hid ho6
  have HM6 := Lib.hid hM6
  have HB6 := Lib.hid hb6
  clear ho6 hM6 hb6
  go_wp2_with fail
  refine (blocks_any w6 g' b' n' G (HI5.out.2.later HB6.out)).mono ?_
  rintro e w7 ⟨v7, N1, rfl, ho7, hN1, hb7⟩
  have HO7 := Lib.hid ho7
  have HN1 := Lib.hid hN1
  have HB7 := Lib.hid hb7
  clear ho7 hN1 hb7
  go_wp2_with fail
  refine (blocks_any w7 g b n F ((HI5.out.1.later HB6.out).later HB7.out)).mono ?_
  rintro e w8 ⟨v8, N2, rfl, ho8, hN2, hb8⟩
  have HO8 := Lib.hid ho8
  have HN2 := Lib.hid hN2
  have HB8 := Lib.hid hb8
  clear ho8 hN2 hb8
  obtain ⟨a7, c7, hv7, hr7, hc7, hl7⟩ := (HO7.out.kept HB8.out).rd
  obtain ⟨a8, c8, hv8, hr8, hc8, hl8⟩ := HO8.out.rd
  subst hv7
  subst hv8
  have HR7 := Lib.hid hr7
  have HR8 := Lib.hid hr8
  clear hr7 hc7 hl7 hr8 hc8 hl8
  have HLen := Lib.hid (And.intro (HN1.out.len HOk.out.2.1) (HN2.out.len HOk.out.1.1))
  have hb9 : Below w8.heap.size w8 (w8.alloc (.cells #[.slice a8 N2.length c8] 59)) := Below.alloc0 _ _
  have HB9 := Lib.hid hb9
  have HS9 := Lib.hid (rds_one HR8.out hb9)
  clear hb9
  go_wp2_with fail
  refine (minus_any a7 N1.length c7 N1 _ 1 1 [N2] _ (HR7.out.later HB9.out) HS9.out (by have := HLen.out; omega) (by omega) (by intro N hN; simp at hN; subst hN; have := HLen.out; omega) (HN1.out.ok HOk.out.2.1) (by intro N hN; simp at hN; subst hN; exact HN2.out.ok HOk.out.1.1) HN1.out.set).mono ?_
  rintro e w10 ⟨v10, K, rfl, ho10, hK, hKm, hb10⟩
  have HK : Hid (SetF (goneF F G) K) := Lib.hid ⟨hK, fun z => by
    rw [hKm z, HN1.out.mem, fAt_goneF HOk.out.1.1 HOk.out.2.1]
    have : (∃ N ∈ [N2], inR N z) ↔ fAt F z ≠ [] := by simp [HN2.out.mem]
    rw [this]
    by_cases h : fAt F z = [] <;> simp [h]⟩
  have HO10 := Lib.hid ho10
  have HB10 := Lib.hid hb10
  clear ho10 hK hKm hb10
  go_wp2
  go_ret2
  have hb78 := (HB7.out.trans (HB8.out.mono HB7.out.size))
  have hb79 := hb78.trans (HB9.out.mono hb78.size)
  have hb710 := hb79.trans (HB10.out.mono hb79.size)
  have hsz : w.heap.size ≤ w6.heap.size := Nat.le_trans HBw5.out.size HB6.out.size
  refine ⟨_, _, M, K, rfl, (HO6.out.kept hb710).mono HBw5.out.size, HM6.out, HO10.out.mono (Nat.le_trans hsz hb79.size), HK.out, ?_⟩
  exact (HBw5.out.trans (HB6.out.mono HBw5.out.size)).trans (hb710.mono hsz)

end Go.Proofs.YtaijjogjohbheaaGreat

/- The contracts of a store's Image, List, Diff; of a nil store. -/
namespace Go.Proofs.YtaijjogjohbheaaGreat
open Go.RowKit
set_option maxRecDepth 100000
set_option linter.unusedSimpArgs false

/-- What Image answers. -/
def ImP (w : World) (N : Nat) (o : Option (List (List Nat))) (e : Ending) (w' : World) : Prop :=
  Below w.heap.size w w' ∧ ((o = none ∧ e = .returned (.tuple #[.pointer none, .int .i64 6])) ∨
    ∃ G g' b' n, o = some G ∧ n ≤ N ∧ e = .returned (.tuple #[.pointer (some ⟨g', 0, none⟩), .int .i64 0]) ∧ w.heap.size ≤ g' ∧ w.heap.size ≤ b' ∧ Img w' g' b' n G)

theorem image_nil (w : World) (x : Int) : Calls Tryz.prog 18 #[.pointer none, .int .i64 x] w fun e w' => e = .returned (.tuple #[.pointer none, .int .i64 1]) ∧ w' = w := by
  go_enter Tryz.func18, Tryz.ntmps18
  go_wp2
  go_ret2
  exact ⟨rfl, rfl⟩

theorem clone_img (w : World) (V : List Nat) (N g : Nat) (F : List (List Nat)) (h : ImgV w V N g F) (hN : N < 100000) :
    Calls Tryz.prog 32 #[.pointer (some ⟨g, 0, none⟩)] w fun e w' => ∃ g' b' n, n ≤ N ∧ e = .returned (.pointer (some ⟨g', 0, none⟩)) ∧ w.heap.size ≤ g' ∧ w.heap.size ≤ b' ∧ Img w' g' b' n F ∧ Below w.heap.size w w' := by
  obtain ⟨b, n, h1, h2, h3, h4⟩ := h
  refine (imgClone_any w g b n F h1 (by omega)).mono ?_
  rintro e w' ⟨g', b', rfl, k1, k2, k3, k4⟩
  exact ⟨g', b', n, h2, rfl, k1, k2, k3, k4⟩

set_option maxHeartbeats 1000000 in
theorem image_any (w : World) (V : List Nat) (N gs gr last : Nat) (F : List (List Nat)) (X : List (Nat × List (List Nat))) (x : Int) (h : Sto w V N gs gr F last X) (hok : OkS F last X) (hN : N < 100000) :
    Calls Tryz.prog 18 #[.pointer (some ⟨gs, 0, none⟩), .int .i64 x] w (ImP w N (lkS F X x)) := by
  obtain ⟨gi, a, n, c, hobj, hnc, hst⟩ := h
  have hn := hst.len
  have hfew := hok.few
  by_cases h0 : x = 0
  · subst h0
    have hcl := clone_img w V N gi F hst.img hN
    obtain ⟨c0, c1, c2, c3⟩ := sto_cells hobj
    have HC := Lib.hid hcl
    have HL : Hid (lkS F X 0 = some F) := Lib.hid (by simp [lkS])
    clear hcl hst hobj hok
    go_enter Tryz.func18, Tryz.ntmps18
    go_wp2_with fail
    refine HC.out.mono ?_
    rintro e w1 ⟨g', b', m, k0, rfl, k1, k2, k3, k4⟩
    have HE := Lib.hid (And.intro k0 (And.intro k1 (And.intro k2 (And.intro k3 k4))))
    clear k0 k1 k2 k3 k4 c0 c1 c2 c3
    go_wp2
    go_ret2
    exact ⟨HE.out.2.2.2.2, .inr ⟨F, g', b', m, HL.out, HE.out.1, rfl, HE.out.2.1, HE.out.2.2.1, HE.out.2.2.2.1⟩⟩
  · obtain ⟨T, hX, hRY, hT, hV⟩ := hst.row
    subst hX
    have hTl : T.length = n := by simpa using hn
    have HF := Lib.hid (find_any gi last a n c (T.map tY) x w hRY (by omega) hok.incY)
    unfold stV at HF
    obtain ⟨c0, c1, c2, c3⟩ := sto_cells hobj
    have HR := Lib.hid hRY
    have HT := Lib.hid hT
    have HO := Lib.hid hok
    have HOB := Lib.hid hobj
    have HTl := Lib.hid hTl
    have hx0 : (x == 0) = false := by simp [h0]
    clear hst hobj hok hRY hT hV hn
    go_enter Tryz.func18, Tryz.ntmps18
    go_wp2_with fail
    refine HF.out.mono ?_
    rintro e w1 ⟨i, fd, rfl, hi, hfd, hnf, hb⟩
    have HFd := Lib.hid (And.intro hi (And.intro hfd hnf))
    have HB := Lib.hid hb
    obtain ⟨d0, d1, d2, d3⟩ := sto_cells ((HB.out.block gs (lt_of_block HOB.out)).trans HOB.out)
    cases fd with
    | true =>
      obtain ⟨hin, hix⟩ := hfd rfl
      obtain ⟨b, o, r, rfl, hre, hbl, e0, e1⟩ := HR.out.at_ hb hin
      have hiT : i < T.length := by omega
      rw [getD_tY hiT] at hre hix
      have hm := getD_memS (T := T) hiT
      have himg := HT.out _ hm
      obtain ⟨t, ht⟩ : ∃ t, t = T.getD i default := ⟨_, rfl⟩
      rw [← ht] at hre himg hix
      obtain ⟨p, g, G⟩ := t
      simp only [tY] at hre hix
      subst hre
      simp only at e0 e1 himg
      have HL : Hid (lkS F (T.map tX) x = some G) := by
        refine Lib.hid ?_
        have h1 := lkS_at (F := F) HO.out.inc (i := i) (by simpa using hiT) (x := x) (by rw [getD_tX hiT, ← ht]; exact hix) h0
        rw [getD_tX hiT, ← ht] at h1
        exact h1
      have HC := Lib.hid (clone_img w1 V N g G (himg.save (Save.of_below hb []) (by simp)) hN)
      clear hi hfd hnf hb HF hix hbl hm himg ht c0 c1 c2 c3 h0
      go_wp2_with fail
      refine HC.out.mono ?_
      rintro e w2 ⟨g', b', m, k0, rfl, k1, k2, k3, k4⟩
      have HE := Lib.hid (And.intro k0 (And.intro k1 (And.intro k2 (And.intro k3 k4))))
      clear k0 k1 k2 k3 k4 d0 d1 d2 d3 e0 e1
      go_wp2
      go_ret2
      have hs := HB.out.size
      exact ⟨HB.out.trans (HE.out.2.2.2.2.mono hs), .inr ⟨G, g', b', m, HL.out, HE.out.1, rfl, Nat.le_trans hs HE.out.2.1, Nat.le_trans hs HE.out.2.2.1, HE.out.2.2.2.1⟩⟩
    | false =>
      have HL : Hid (lkS F (T.map tX) x = none) := by
        refine Lib.hid (lkS_none (fun k hk => ?_) h0)
        have hk' : k < T.length := by simpa using hk
        have := hnf rfl k (by omega)
        rw [getD_tY hk'] at this
        rw [getD_tX hk']
        exact this
      clear hi hfd hnf hb HF c0 c1 c2 c3 h0
      go_wp2
      go_ret2
      exact ⟨HB.out, .inl ⟨HL.out, rfl⟩⟩

theorem info_int : (Tryz.prog.info? 3).map (fun i => (i.zero, i.size, i.bytes)) = some (some (.int .i64 0), 1, 8) := by kernel_rfl

def cN (L : List Nat) : List Value := L.map fun x : Nat => Value.int .i64 (x : Int)

theorem cN_one (L : List Nat) : ∀ u ∈ cN L, u.oneCell' = true := by
  intro u hu
  simp only [cN, List.mem_map] at hu
  obtain ⟨x, _, rfl⟩ := hu
  rfl

/-- A row of the call's own of numbers. -/
def OwnN (w : World) (base : Nat) (v : Value) (L : List Nat) : Prop := w.ownsRow base 3 1 v L.length (cN L)

theorem OwnN.kept {w w' : World} {base : Nat} {v : Value} {L : List Nat} (h : OwnN w base v L) (hb : Below w.heap.size w w') : OwnN w' base v L :=
  World.ownsRow.kept h (row := none) ⟨hb.os, hb.tape, hb.output, hb.size, fun k hk _ => hb.block k hk⟩ (by
    cases hv : v.ownBlock with
    | none => exact .inl rfl
    | some k => exact .inr (by simp))

/-- The slice reads as the numbers. -/
def RdN (w : World) (a : Option Addr) (n : Nat) (L : List Nat) : Prop :=
  L.length = n ∧ (0 < n → ∃ b o, a = some ⟨b, o, none⟩ ∧ ∀ j, j < n → w.cell? ⟨b, o + j, none⟩ = some (.int .i64 ((L.getD j 0 : Nat) : Int)))

theorem RdN.later {w w' : World} {a : Option Addr} {n : Nat} {L : List Nat} (h : RdN w a n L) (hb : Below w.heap.size w w') : RdN w' a n L := by
  refine ⟨h.1, fun hn => ?_⟩
  obtain ⟨b, o, rfl, hc⟩ := h.2 hn
  exact ⟨b, o, rfl, fun j hj => (hb.cell (p := ⟨b, o + j, none⟩) (World.block_lt_of_cell? w _ (hc j hj))).trans (hc j hj)⟩

theorem OwnN.rd {w : World} {base : Nat} {v : Value} {L : List Nat} (h : OwnN w base v L) : ∃ a c, v = .slice a L.length c ∧ RdN w a L.length L := by
  have h1 := h
  rcases h.2 with ⟨rfl, hl⟩ | ⟨g, cap, cur, rfl, hbg, hgo, hnc, _⟩
  · have : L = [] := List.eq_nil_of_length_eq_zero hl
    subst this
    exact ⟨none, 0, rfl, rfl, by simp⟩
  · refine ⟨_, cap, rfl, rfl, fun _ => ⟨g, 0, rfl, fun j hj => ?_⟩⟩
    have e0 := h1.cells (g := g) rfl j (.int .i64 ((L.getD j 0 : Nat) : Int)) (by simp [cN, List.getD, hj])
    rw [add_plain] at e0
    exact e0

theorem list_nil (w : World) : Calls Tryz.prog 21 #[.pointer none] w fun e w' => e = .returned (.slice none 0 0) ∧ w' = w := by
  go_enter Tryz.func21, Tryz.ntmps21
  go_wp2
  go_ret
  exact ⟨rfl, rfl⟩

set_option maxHeartbeats 1000000 in
theorem list_any (w : World) (V : List Nat) (N gs gr last : Nat) (F : List (List Nat)) (X : List (Nat × List (List Nat))) (h : Sto w V N gs gr F last X) (hok : OkS F last X) :
    Calls Tryz.prog 21 #[.pointer (some ⟨gs, 0, none⟩)] w fun e w' => ∃ a c, e = .returned (.slice a X.length c) ∧ RdN w' a X.length (X.map (·.1)) ∧ Below w.heap.size w w' := by
  obtain ⟨i0, hi0, hz0, hz1, hz2⟩ := info_parts info_int
  obtain ⟨gi, a, n, c, hobj, hnc, hst⟩ := h
  have hn := hst.len
  have hfew := hok.few
  obtain ⟨T, hX, hRY, hT, hV⟩ := hst.row
  have HR := Lib.hid hRY
  have HX := Lib.hid hX
  have hTl : T.length = n := by rw [hX] at hn; simpa using hn
  have HTl := Lib.hid hTl
  obtain ⟨c0, c1, c2, c3⟩ := sto_cells hobj
  have hn32 : n ≤ 32 := by omega
  have HNL := Lib.hid hn
  clear hst hobj hok hRY hT hV hX hn hTl
  go_enter Tryz.func21, Tryz.ntmps21
  go_wp2
  go_loopg [3, 14] n (fun k v i wr => ∃ (j : Nat) (sv : Value), sv = v ∧ k = n - j ∧ j ≤ n ∧ i = .int .i64 (j : Int) ∧ Hid (OwnN wr w.heap.size sv ((X.map (·.1)).take j)) ∧ Hid (Below w.heap.size w wr))
  case atStart => exact ⟨0, _, rfl, rfl, Nat.zero_le _, rfl, Lib.hid (by simpa [OwnN, cN] using World.ownsRow_nil w w.heap.size 3 1), Lib.hid (Below.refl _ _)⟩
  case round =>
    obtain ⟨j, sv, rfl, hk, hj, rfl, HO, HB⟩ := hrel
    have HK := Lib.hid hk
    clear hk c0 c1 c2 c3
    by_cases hlt : j < n
    · have hjT : j < T.length := by have := HTl.out; omega
      obtain ⟨b, o, r, rfl, hre, hbl, e0, e1⟩ := HR.out.at_ HB.out hlt
      rw [getD_tY hjT] at hre
      obtain ⟨t, ht⟩ : ∃ t, t = T.getD j default := ⟨_, rfl⟩
      rw [← ht] at hre
      obtain ⟨p, g, G⟩ := t
      simp only [tY] at hre
      subst hre
      simp only at e0 e1
      have HST : Hid ((X.map (·.1)).take (j + 1) = (X.map (·.1)).take j ++ [p]) := by
        refine Lib.hid ?_
        have hjX : j < (X.map (·.1)).length := by rw [HX.out]; simpa using hjT
        rw [List.take_succ_eq_append_getElem hjX]
        congr 2
        have e := getD_tX (T := T) hjT
        rw [← ht, ← HX.out] at e
        have hjX' : j < X.length := by simpa using hjX
        have e2 : X.getD j default = X[j] := by simp [List.getD, hjX']
        simp only [List.getElem_map]
        rw [← e2, e]
        rfl
      obtain ⟨A, hA⟩ : ∃ A, A = (X.map (·.1)).take j := ⟨_, rfl⟩
      rw [← hA] at HO HST
      have hAl : A.length ≤ 1000 := by rw [hA, List.length_take]; omega
      have hbr : w.heap.size ≤ wr.heap.size := HB.out.size
      clear ht hA hbl
      go_wp2_with (at_builtin; have _t := hlt; refine wpList_append_own_at _ rfl (.tmp 18) (.tmp 21) 63 rfl w.heap.size 3 i0 _ 1 8 Tryz.underlying63 hi0 hz0 hz1 hz2 rfl (by omega) sv A.length (cN A) rfl (HO.out.kept ((Below.alloc0 _ _).alloc (by simp) _)) ⟨wr.heap.size + 1, 0, none⟩ 1 1 (cN [p]) rfl ?hlen (World.news_of_block (cs := #[.int .i64 (p : Int)]) (t := 3) (fr := (0, 0)) (heap_alloc2 wr _ _)) ?one ?h63 ?hby ?hbase ?next)
      case hlen => rfl
      case one => exact cN_one _
      case h63 => unfold maxLen; omega
      case hby => omega
      case hbase => simp; omega
      case next =>
        intro v' w' hown hg _ _
        have HO3 : Hid (OwnN w' w.heap.size v' (A ++ [p])) := Lib.hid (by unfold OwnN; rw [List.length_append]; simpa [cN] using hown)
        have HB3 : Hid (Below w.heap.size w w') := Lib.hid (((HB.out.alloc hbr _).alloc (by simp; omega) _).grown hg (by simp; omega) (fun k hk => (World.ownsRow.lt HO.out k hk).1))
        clear hown hg
        go_wp2
        go_roundg (n - (j + 1))
        case measure => have := HK.out; omega
        case rel => exact ⟨j + 1, v', rfl, rfl, by omega, by go_num, Lib.hid (by rw [HST.out]; exact HO3.out), HB3⟩
    · obtain rfl : j = n := by omega
      have h1 := HO.out
      have hl : (X.map (·.1)).length = j := by rw [List.length_map]; exact HNL.out
      rw [List.take_of_length_le (by omega)] at h1
      obtain ⟨a', c', hv, hr⟩ := h1.rd
      rw [List.length_map] at hv hr
      subst hv
      have HR2 := Lib.hid hr
      clear h1 hr hl HO
      go_wp2
      go_ret
      exact ⟨a', c', rfl, HR2.out, HB.out⟩

/-- What Diff answers. -/
def DfP (w : World) (o o' : Option (List (List Nat))) (e : Ending) (w' : World) : Prop :=
  Below w.heap.size w w' ∧ (((o = none ∨ o' = none) ∧ e = .returned (.tuple #[.slice none 0 0, .slice none 0 0, .int .i64 6])) ∨
    ∃ G H M K a n c a' n' c', o = some G ∧ o' = some H ∧ okF G ∧ okF H ∧ e = .returned (.tuple #[.slice a n c, .slice a' n' c', .int .i64 0]) ∧ SetF (diffF G H) M ∧ SetF (goneF G H) K ∧ RdR w' a n M ∧ RdR w' a' n' K)

theorem sdiff_nil (w : World) (x y : Int) : Calls Tryz.prog 19 #[.pointer none, .int .i64 x, .int .i64 y] w fun e w' => e = .returned (.tuple #[.slice none 0 0, .slice none 0 0, .int .i64 1]) ∧ w' = w := by
  have HI := Lib.hid (image_nil w x)
  go_enter Tryz.func19, Tryz.ntmps19
  go_wp2_with fail
  refine HI.out.mono ?_
  rintro e w1 ⟨rfl, rfl⟩
  go_wp2
  go_ret3
  exact ⟨rfl, rfl⟩

set_option maxHeartbeats 1000000 in
theorem sdiff_any (w : World) (V : List Nat) (N gs gr last : Nat) (F : List (List Nat)) (X : List (Nat × List (List Nat))) (x y : Int) (h : Sto w V N gs gr F last X) (hok : OkS F last X) (hN : N < 100000) :
    Calls Tryz.prog 19 #[.pointer (some ⟨gs, 0, none⟩), .int .i64 x, .int .i64 y] w (DfP w (lkS F X x) (lkS F X y)) := by
  have HI := Lib.hid (image_any w V N gs gr last F X x h hok hN)
  have HI2 : Hid (∀ W, Below w.heap.size w W → Calls Tryz.prog 18 #[.pointer (some ⟨gs, 0, none⟩), .int .i64 y] W (ImP W N (lkS F X y))) := Lib.hid fun W hW => image_any W V N gs gr last F X y (h.later hW) hok hN
  obtain ⟨o, ho⟩ : ∃ o, o = lkS F X x := ⟨_, rfl⟩
  obtain ⟨o', ho'⟩ : ∃ o', o' = lkS F X y := ⟨_, rfl⟩
  rw [← ho] at HI ⊢
  rw [← ho'] at HI2 ⊢
  clear h hok ho ho'
  go_enter Tryz.func19, Tryz.ntmps19
  go_wp2_with fail
  refine HI.out.mono ?_
  rintro e w1 ⟨hb1, ⟨rfl, rfl⟩ | ⟨G, g1, b1, n1, rfl, hn1, rfl, hg1, hbb1, himg1⟩⟩
  · have HB1 := Lib.hid hb1
    clear hb1
    go_wp2
    go_ret3
    exact ⟨HB1.out, .inl ⟨.inl rfl, rfl⟩⟩
  · have HB1 := Lib.hid hb1
    have HM1 := Lib.hid (And.intro hn1 himg1)
    clear hb1 hn1 hg1 hbb1 himg1
    go_wp2_with fail
    refine (HI2.out _ HB1.out).mono ?_
    rintro e w2 ⟨hb2, ⟨rfl, rfl⟩ | ⟨H, g2, b2, n2, rfl, hn2, rfl, hg2, hbb2, himg2⟩⟩
    · have HB2 := Lib.hid hb2
      clear hb2
      go_wp2
      go_ret3
      exact ⟨HB1.out.trans (HB2.out.mono HB1.out.size), .inl ⟨.inr rfl, rfl⟩⟩
    · have HD := Lib.hid (diff_any w2 g1 b1 n1 g2 b2 n2 G H (HM1.out.2.later hb2) himg2 (by have := HM1.out.1; omega))
      have HB2 := Lib.hid (HB1.out.trans (hb2.mono HB1.out.size))
      have HOK := Lib.hid (And.intro HM1.out.2.ok himg2.ok)
      clear hb2 hn2 hg2 hbb2 himg2
      go_wp2_with fail
      refine HD.out.mono ?_
      rintro e w3 ⟨v, u, M, K, rfl, hv, hM, hu, hK, hb3⟩
      obtain ⟨a3, c3, rfl, hr3, _⟩ := hv.rd
      obtain ⟨a4, c4, rfl, hr4, _⟩ := hu.rd
      have HE := Lib.hid (And.intro hM (And.intro hK (And.intro hr3 hr4)))
      have HB3 := Lib.hid (HB2.out.trans (hb3.mono HB2.out.size))
      obtain ⟨m, hm⟩ : ∃ m, m = M.length := ⟨_, rfl⟩
      obtain ⟨k, hk⟩ : ∃ k, k = K.length := ⟨_, rfl⟩
      rw [← hm, ← hk] at HE
      rw [← hm, ← hk]
      clear hv hM hu hK hr3 hr4 hb3 hm hk
      go_wp2
      go_ret3
      exact ⟨HB3.out, .inr ⟨G, H, M, K, a3, m, c3, a4, k, c4, rfl, rfl, HOK.out.1, HOK.out.2, rfl, HE.out.1, HE.out.2.1, HE.out.2.2.1, HE.out.2.2.2⟩⟩

end Go.Proofs.YtaijjogjohbheaaGreat
