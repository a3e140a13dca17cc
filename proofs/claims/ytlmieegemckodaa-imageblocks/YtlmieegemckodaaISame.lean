/- maps.Equal at maps of blocks; the contract of image's Same, over any world. -/
import Derived.Test.YtlmieegemckodaaICopy
import Derived.Test.YtlmieegemckodaaReadyAll
namespace Go.Proofs.Ytlmieegemckodaa
open Go.RowKit
open Go.WideElems (Fit rd rg pl rd_key rd_val rg_of)
set_option linter.unusedSimpArgs false

/-- The keys of a map of blocks are numbers. -/
theorem owns_keys {w : World} {b n : Nat} {D : DataW (List Nat)} (h : w.ownsMap Try.prog 3 blkR b n D) : ∃ es, D = .map es ∧ (es.map (·.1)).Nodup ∧ ∀ p ∈ es, ∃ y, p.1 = .int .i64 y := by
  have hc := h.canon keyedInt
  obtain ⟨es, rfl, hp, _⟩ := hc
  refine ⟨es, rfl, ?_, ?_⟩
  · have := Maps.apart_of_rising hp
    rw [List.Nodup, List.pairwise_map]
    exact this
  · obtain ⟨es0, clock, _, F, _, hD⟩ := h
    injection hD with hD
    intro p hpm
    rw [hD] at hpm
    obtain ⟨x, hx, rfl⟩ := List.mem_map.1 (mem_sorted.1 hpm)
    obtain ⟨y, hy⟩ := F.reads x hx
    rw [rg_of hy]
    obtain ⟨z, _, e, _⟩ := Maps.keyOf_int_inv Try.underlying3 (rd_key hy)
    exact ⟨z, e⟩

theorem has_mem {es : List (Lit × DataW (List Nat))} {z : Int} : Maps.has (.map es) (.int .i64 z) = true ↔ Lit.int .i64 z ∈ es.map (·.1) := by
  rw [Maps.has_eq, List.any_eq_true]
  constructor
  · rintro ⟨p, hp, hs⟩
    rw [← WideAt.sameKey_eq hs]
    exact List.mem_map.2 ⟨p, hp, rfl⟩
  · intro h
    obtain ⟨p, hp, e⟩ := List.mem_map.1 h
    exact ⟨p, hp, by rw [e]; exact WideAt.sameKey_self (isKey_int z)⟩

/-- As many blocks, and each of the one in the other: the same. -/
theorem agr_same {w : World} {b c n m : Nat} {D E : DataW (List Nat)} {F G : List (List Nat)} (h1 : w.ownsMap Try.prog 3 blkR b n D) (h2 : w.ownsMap Try.prog 3 blkR c m E) (hD : Agr D F) (hE : Agr E G) (hs : Maps.size D = Maps.size E)
    (hall : ∀ x : Int, fAt F x ≠ [] → fAt G x = fAt F x) : ∀ x : Int, fAt F x = fAt G x := by
  intro x
  by_cases hx : fAt F x = []
  · apply Classical.byContradiction
    intro hne
    have hg : fAt G x ≠ [] := fun e => hne (by rw [hx, e])
    obtain ⟨es, rfl, nd1, k1⟩ := owns_keys h1
    obtain ⟨fs, rfl, nd2, k2⟩ := owns_keys h2
    have m2 : Lit.int .i64 x ∈ fs.map (·.1) := has_mem.1 (by rw [(hE x).1]; simp [hg])
    have m1 : Lit.int .i64 x ∉ es.map (·.1) := fun hm => by
      have := has_mem.2 hm
      rw [(hD x).1] at this
      simp [hx] at this
    have hsub : ∀ l ∈ Lit.int .i64 x :: es.map (·.1), l ∈ fs.map (·.1) := by
      intro l hl
      rcases List.mem_cons.1 hl with rfl | hl
      · exact m2
      · obtain ⟨p, hp, rfl⟩ := List.mem_map.1 hl
        obtain ⟨y, hy⟩ := k1 p hp
        rw [hy]
        have hf : fAt F y ≠ [] := by
          have := has_mem.2 (show Lit.int .i64 y ∈ es.map (·.1) by rw [← hy]; exact hl)
          rw [(hD y).1] at this
          simpa using this
        exact has_mem.1 (by rw [(hE y).1, hall y hf]; simp [hf])
    have := List.Nodup.length_le_of_subset (List.nodup_cons.2 ⟨m1, nd1⟩) hsub
    simp only [Maps.size_eq] at hs
    simp at this
    omega
  · exact (hall x hx).symm

theorem agr_size {w : World} {b c n m : Nat} {D E : DataW (List Nat)} {F : List (List Nat)} (h1 : w.ownsMap Try.prog 3 blkR b n D) (h2 : w.ownsMap Try.prog 3 blkR c m E) (hD : Agr D F) (hE : Agr E F) : Maps.size D = Maps.size E := by
  obtain ⟨es, rfl, nd1, k1⟩ := owns_keys h1
  obtain ⟨fs, rfl, nd2, k2⟩ := owns_keys h2
  have sub : ∀ {es fs : List (Lit × DataW (List Nat))}, Agr (.map es) F → Agr (.map fs) F → (∀ p ∈ es, ∃ y, p.1 = .int .i64 y) → ∀ l ∈ es.map (·.1), l ∈ fs.map (·.1) := by
    intro es fs hA hB hk l hl
    obtain ⟨p, hp, rfl⟩ := List.mem_map.1 hl
    obtain ⟨y, hy⟩ := hk p hp
    rw [hy] at hl ⊢
    have := has_mem.2 hl
    rw [(hA y).1] at this
    exact has_mem.1 (by rw [(hB y).1]; exact this)
  have a := List.Nodup.length_le_of_subset nd1 (sub hD hE k1)
  have c := List.Nodup.length_le_of_subset nd2 (sub hE hD k2)
  simp only [List.length_map] at a c
  simp only [Maps.size_eq]
  omega

set_option maxHeartbeats 2000000 in
set_option maxRecDepth 100000 in
theorem equal_any (w : World) (b c n m : Nat) (F G : List (List Nat)) (hF : okF F) (hG : okF G) (h1 : Mp w b n F) (h2 : Mp w c m G) (hn : n < 100000) (hm : m < 100000) :
    Calls Try.prog 45 #[.map (some b), .map (some c)] w fun e w' => e = .returned (.bool (decide (F = G))) ∧ Below w.heap.size w w' := by
  obtain ⟨D, hD, hA⟩ := h1
  obtain ⟨E, hE, hB⟩ := h2
  have HD := Lib.hid (And.intro hD hA)
  have HE := Lib.hid (And.intro hE hB)
  have HOk := Lib.hid (And.intro hF hG)
  obtain ⟨s1, hs1⟩ : ∃ s1, s1 = Maps.size D := ⟨_, rfl⟩
  obtain ⟨s2, hs2⟩ : ∃ s2, s2 = Maps.size E := ⟨_, rfl⟩
  have hsl : s1 ≤ 100000 ∧ s2 ≤ 100000 := by have := hD.size_le; have := hE.size_le; omega
  have HS := Lib.hid (And.intro hs1 hs2)
  obtain ⟨Y, hY⟩ : ∃ Y, Y = decide (F = G) := ⟨_, rfl⟩
  rw [← hY]
  have HY := Lib.hid hY
  have hl1 : ∀ ty, (Builtin.len_ #[74] ty #[.map (some b)]).run Try.prog w = .ok (.int .i64 (s1 : Int)) w := fun ty => by rw [hs1]; exact hD.len Try.underlying74 ty
  have hl2 : ∀ ty, (Builtin.len_ #[74] ty #[.map (some c)]).run Try.prog w = .ok (.int .i64 (s2 : Int)) w := fun ty => by rw [hs2]; exact hE.len Try.underlying74 ty
  obtain ⟨r, hr⟩ : ∃ r, r = w.heap.size := ⟨_, rfl⟩
  clear hD hA hE hB hF hG hs1 hs2 hY
  by_cases hq : s1 = s2
  · subst hq
    go_enter Try.func45, Try.ntmps45
    go_wp2_with (at_range; refine wpList_range_own _ rfl _ 74 rfl 3 80 keyedInt Try.underlying74 _ b n D rfl HD.out.1 ?_; intro w0 hrg0 hg0 hs0)
    go_frame
    rw [← hr] at hrg0 ⊢
    have HR := Lib.hid hr
    have H0 := Lib.hid (And.intro hrg0 hg0)
    clear hr hrg0 hg0 hs0 hl1 hl2
    go_loopw [5] (fun _ wr => ∃ (left : Lit → Bool) (cnt : Nat), Hid (wr.ranges Try.prog 3 blkR b r n D left cnt) ∧ Hid (∀ x : Int, fAt F x ≠ [] → left (.int .i64 x) = false → fAt G x = fAt F x) ∧ Hid (Below w.heap.size w wr)) (fun _ wr => wr.rangeLeft b r)
    case atStart =>
      refine ⟨_, _, Lib.hid H0.out.1, Lib.hid ?_, Lib.hid ((Below.refl _ _).grown H0.out.2 (Nat.le_refl _) (fun k hk => by cases hk))⟩
      intro x hx hl
      rw [(HD.out.2 x).1] at hl
      simp [hx] at hl
    case round =>
      obtain ⟨left, cnt, HRg, HAll, HB⟩ := hrel
      go_wp2_with (at_next; refine wpList_next_img rfl _ rfl b r n D F HD.out.2 left cnt rfl HRg.out ?_ ?_)
      · intro hc0 hl0
        have hyt : Y = true := by
          rw [HY.out]
          exact decide_eq_true (F_ext HOk.out.1.1 HOk.out.2.1 (agr_same HD.out.1 HE.out.1 HD.out.2 HE.out.2 (by rw [← HS.out.1, ← HS.out.2]) fun x hx => HAll.out x hx (hl0 _)))
        subst hyt
        clear hc0 hl0
        go_wp2
        go_ret
        exact ⟨rfl, HB.out⟩
      · intro x l w1 cnt1 hwx hokl hlF hlx hat hrg1 hlt hg1 hs1 hen
        have HX := Lib.hid (And.intro hokl hlF)
        have HB1 : Hid (Below w.heap.size w w1) := Lib.hid (HB.out.grown hg1 HB.out.size (fun k hk => by injection hk with hk; rw [← hk, HR.out]; exact Nat.le_refl _))
        have H1 := Lib.hid (And.intro hrg1 (And.intro hlt hlx))
        have HMp : Hid (∀ W, Below w.heap.size w W → Mp W c m G) := Lib.hid fun W hW => (show Mp w c m G from ⟨E, HE.out⟩).later hW
        have HW := Lib.hid hwx
        clear hwx hokl hlF hlx hat hrg1 hlt hg1 hs1
        obtain ⟨g6, hg6⟩ : ∃ g6, g6 = w1.heap.size := ⟨_, rfl⟩
        go_upto_region 6 with (refine wpList_store_blk rfl (.tmp 6) (.tmp 20) rfl _ 80 (List.replicate 32 0) l rfl rfl (heap_alloc_last _ _) List.length_replicate HX.out.1.1 ?_; intro w3 H3)
        rw [← hg6]
        have HX3 : Hid (w3.heap[g6]? = some (rowObj 80 l)) := Lib.hid (by rw [H3.out, hg6]; exact put_same (heap_alloc_last _ _))
        have HG3 : Hid (w1.grownBy w3 none) := Lib.hid (by rw [H3.out]; exact grown_new _ _ _)
        have HB3 : Hid (Below w.heap.size w w3) := Lib.hid (HB1.out.grown HG3.out HB1.out.size (fun k hk => by cases hk))
        obtain ⟨lG, hlG, hGe, hlook, _⟩ := (HMp.out w3 HB3.out).look x HW.out
        have HLG := Lib.hid (And.intro hlG hGe)
        clear H3 hg6 hen hlG hGe
        obtain ⟨g7, hg7⟩ : ∃ g7, g7 = w3.heap.size := ⟨_, rfl⟩
        obtain ⟨K, hK⟩ : ∃ K, K = decide (fAt G x ≠ []) := ⟨_, rfl⟩
        rw [← hK] at hlook
        have HK := Lib.hid hK
        clear hK
        go_upto_region 7 with (refine wpList_store_blk rfl (.tmp 7) (.tmp 25) rfl _ 80 (List.replicate 32 0) lG rfl rfl (heap_alloc_last _ _) List.length_replicate HLG.out.1.1 ?_; intro w5 H5)
        rw [← hg7]
        have HX57 : Hid (w5.heap[g7]? = some (rowObj 80 lG)) := Lib.hid (by rw [H5.out, hg7]; exact put_same (heap_alloc_last _ _))
        have HG5 : Hid (w3.grownBy w5 none) := Lib.hid (by rw [H5.out]; exact grown_new _ _ _)
        have HX56 : Hid (w5.heap[g6]? = some (rowObj 80 l)) := Lib.hid ((HG5.out.block g6 (lt_of_block HX3.out) (by simp)).trans HX3.out)
        have HB5 : Hid (Below w.heap.size w w5) := Lib.hid (HB3.out.grown HG5.out HB3.out.size (fun k hk => by cases hk))
        have hrg5 := (H1.out.1.kept HG3.out (by simp) (by simp)).kept HG5.out (by simp) (by simp)
        have HR5 := Lib.hid hrg5
        clear H5 hg7 hrg5 hlook
        have hfx : fAt F x ≠ [] := by rw [← HX.out.2]; exact HX.out.1.ne
        have HFx := Lib.hid hfx
        clear hfx
        cases K with
        | false =>
          have hg0 : fAt G x = [] := by
            have := HK.out
            simpa using this.symm
          have hyf : Y = false := by
            rw [HY.out]
            exact decide_eq_false fun e => HFx.out (by rw [e]; exact hg0)
          subst hyf
          clear hg0
          go_wp2
          go_ret
          exact ⟨rfl, HB5.out⟩
        | true =>
          have hg1 : fAt G x ≠ [] := by
            have := HK.out
            simpa using this.symm
          have hlge := HLG.out.2 hg1
          have hneq := fun W => neq_blk l lG HX.out.1.1 HLG.out.1.1 W
          obtain ⟨Z, hZ⟩ : ∃ Z, Z = decide (l = lG) := ⟨_, rfl⟩
          rw [← hZ] at hneq
          have HZ := Lib.hid hZ
          have HGx := Lib.hid hlge
          clear hg1 hlge hZ
          cases Z with
          | true =>
            have he : l = lG := by simpa using HZ.out.symm
            have HE2 : Hid (fAt G x = fAt F x) := Lib.hid (by rw [← HGx.out, ← he, HX.out.2])
            clear he
            go_wp2_with (first
              | (refine wpList_load_blk rfl (.tmp 6) rfl g6 80 l rfl HX56.out HX.out.1.1 ?_)
              | (refine wpList_load_blk rfl (.tmp 7) rfl g7 80 lG rfl HX57.out HLG.out.1.1 ?_))
            go_roundw
            case rel =>
              refine ⟨_, cnt1, HR5, Lib.hid ?_, HB5⟩
              intro y hy hly
              by_cases e : y = x
              · subst e; exact HE2.out
              · refine HAll.out y hy ?_
                have h9 : (left (.int .i64 y) && !(Lit.int .i64 y).sameKey (.int .i64 x)) = false := hly
                have h10 : (Lit.int .i64 y).sameKey (.int .i64 x) = false := Maps.sameKey_ne (lit_ne e)
                rw [h10] at h9
                simpa using h9
            case measure => rw [HR5.out.left_eq, HRg.out.left_eq]; exact H1.out.2.1
          | false =>
            have hyf : Y = false := by
              rw [HY.out]
              refine decide_eq_false fun e => ?_
              have h9 : l ≠ lG := by simpa using HZ.out.symm
              exact h9 (by rw [HGx.out, HX.out.2, e])
            subst hyf
            go_wp2_with (first
              | (refine wpList_load_blk rfl (.tmp 6) rfl g6 80 l rfl HX56.out HX.out.1.1 ?_)
              | (refine wpList_load_blk rfl (.tmp 7) rfl g7 80 lG rfl HX57.out HLG.out.1.1 ?_))
            go_ret
            exact ⟨rfl, HB5.out⟩
  · have hq' : ((s1 : Int) != (s2 : Int)) = true := by simp; omega
    have hyf : Y = false := by
      rw [HY.out]
      refine decide_eq_false fun e => hq ?_
      subst e
      rw [HS.out.1, HS.out.2]
      exact agr_size HD.out.1 HE.out.1 HD.out.2 HE.out.2
    subst hyf
    clear hq
    go_enter Try.func45, Try.ntmps45
    go_wp2
    go_ret
    exact ⟨rfl, Below.refl _ _⟩

theorem same_any (w : World) (ga a n gb b m : Nat) (F G : List (List Nat)) (h1 : Img w ga a n F) (h2 : Img w gb b m G) (hn : n < 100000) (hm : m < 100000) :
    Calls Try.prog 23 #[.pointer (some ⟨ga, 0, none⟩), .pointer (some ⟨gb, 0, none⟩)] w fun e w' => e = .returned (.bool (decide (F = G))) ∧ Below w.heap.size w w' := by
  have HA := Lib.hid (all_any w ga a n F h1)
  have HB := Lib.hid (all_any w gb b m G h2)
  have HC := Lib.hid (equal_any w a b n m F G h1.ok h2.ok h1.map h2.map hn hm)
  clear h1 h2
  go_enter Try.func23, Try.ntmps23
  go_wp2_with fail
  refine HA.out.mono ?_
  rintro e w2 ⟨rfl, rfl⟩
  go_wp2_with fail
  refine HB.out.mono ?_
  rintro e w3 ⟨rfl, rfl⟩
  go_wp2_with fail
  refine HC.out.mono ?_
  rintro e w1 ⟨rfl, hb⟩
  have HR := Lib.hid hb
  clear hb
  go_wp2
  go_ret
  exact ⟨rfl, HR.out⟩

end Go.Proofs.Ytlmieegemckodaa
