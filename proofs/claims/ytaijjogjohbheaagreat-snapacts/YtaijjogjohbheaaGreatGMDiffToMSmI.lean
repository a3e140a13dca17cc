/- The statement's own diff: true where the store is the document's. -/
import Derived.Test.YtaijjogjohbheaaGreatGMCopyToIRefDiff
import Derived.Test.YtaijjogjohbheaaGreatGMModToMCount
import Derived.Test.YtaijjogjohbheaaGreatGIDelToSLook
import Derived.Test.YtaijjogjohbheaaGreatIRefSame
import Derived.Test.YtaijjogjohbheaaGreatIBytes
import Derived.Test.YtaijjogjohbheaaGreatGSChangeToSCreate
namespace Go.Proofs.YtaijjogjohbheaaGreat
open Go.RowKit
set_option maxRecDepth 100000
set_option linter.unusedSimpArgs false

theorem find_snapsF (i : Nat) (A : List (Option (List (List Nat)))) (x : Int) : ((snapsF i A).find? fun p => decide ((p.1 : Int) = x)).map (·.2) = if x < i then none else A.getD (x.toNat - i) none := by
  induction A generalizing i with
  | nil => simp [snapsF]
  | cons o r ih =>
    have hs : ∀ (h : ¬ x < (i : Int)) (h2 : x ≠ (i : Int)), (if x < ((i + 1 : Nat) : Int) then none else r.getD (x.toNat - (i + 1)) none) = (o :: r).getD (x.toNat - i) none := by
      intro h h2
      rw [if_neg (by omega)]
      obtain ⟨m, hm⟩ : ∃ m, x.toNat - i = m + 1 := ⟨x.toNat - i - 1, by omega⟩
      rw [hm, show x.toNat - (i + 1) = m by omega]
      rfl
    cases o with
    | none =>
      show ((snapsF (i + 1) r).find? _).map _ = _
      rw [ih]
      by_cases h : x < (i : Int)
      · rw [if_pos h, if_pos (by omega)]
      · rw [if_neg h]
        by_cases h2 : x = (i : Int)
        · rw [if_pos (by omega), h2, Int.toNat_natCast, Nat.sub_self]; rfl
        · exact hs h h2
    | some G =>
      show (((i, G) :: snapsF (i + 1) r).find? _).map _ = _
      rw [List.find?_cons]
      by_cases h2 : x = (i : Int)
      · rw [h2]
        simp
      · rw [show decide (((i : Nat) : Int) = x) = false from decide_eq_false fun e => h2 e.symm]
        simp only
        rw [ih]
        by_cases h : x < (i : Int)
        · rw [if_pos h, if_pos (by omega)]
        · rw [if_neg h]; exact hs h h2

theorem lk_eq (F : List (List Nat)) (A : List (Option (List (List Nat)))) (x : Int) : lkS F (snapsF 1 A) x = lkM F A x := by
  unfold lkS lkM
  by_cases h0 : x = 0
  · rw [if_pos h0, if_pos h0]
  · rw [if_neg h0, if_neg h0, find_snapsF]
    by_cases h1 : x < 1
    · rw [if_pos (by omega), if_pos h1]
    · rw [if_neg (by omega), if_neg h1]
      obtain ⟨m, hm⟩ : ∃ m, x.toNat = m + 1 := ⟨x.toNat - 1, by omega⟩
      rw [hm]
      rfl

theorem lkM_ok {F G : List (List Nat)} {A : List (Option (List (List Nat)))} {x : Int} (hF : okF F) (hA : ∀ G, some G ∈ A → okF G) (h : lkM F A x = some G) : okF G := by
  unfold lkM at h
  split at h
  · injection h with h; rw [← h]; exact hF
  · split at h
    · cases h
    · obtain ⟨m, hm⟩ : ∃ m, x.toNat = m + 1 := ⟨x.toNat - 1, by omega⟩
      rw [hm] at h
      have h' : A.getD m none = some G := h
      refine hA G ?_
      rcases Nat.lt_or_ge m A.length with h1 | h1
      · rw [List.getD, List.getElem?_eq_getElem h1] at h'
        rw [← show A[m] = some G from h']
        exact List.getElem_mem h1
      · rw [List.getD, List.getElem?_eq_none h1] at h'; cases h'

set_option maxHeartbeats 4000000 in
theorem mdiff_any (w : World) (V V' : List Nat) (gm gs gr N last : Nat) (F : List (List Nat)) (A : List (Option (List (List Nat)))) (room : Nat) (x y : Int) (h : Mod w V gm F A room) (hs : Sto w V' N gs gr F last (snapsF 1 A)) (hok : OkS F last (snapsF 1 A)) (hA : A.length ≤ 1000) (hN : N < 100000) :
    Calls Tryz.prog 16 #[.pointer (some ⟨gm, 0, none⟩), .pointer (some ⟨gs, 0, none⟩), .int .i64 x, .int .i64 y] w fun e w' => e = .returned (.bool true) ∧ Below w.heap.size w w' := by
  have HD := Lib.hid (sdiff_any w V' N gs gr last F (snapsF 1 A) x y hs hok hN)
  rw [lk_eq, lk_eq] at HD
  have HI : Hid (∀ z W, Below w.heap.size w W → Calls Tryz.prog 29 #[.pointer (some ⟨gm, 0, none⟩), .int .i64 z] W fun e w' => e = .returned (imgAns (lkM F A z)) ∧ Below W.heap.size W w') := Lib.hid fun z W hW => mimage_any W V gm F A room z (h.later hW) hA
  obtain ⟨o, ho⟩ : ∃ o, o = lkM F A x := ⟨_, rfl⟩
  obtain ⟨o', ho'⟩ : ∃ o, o = lkM F A y := ⟨_, rfl⟩
  have HI1 := Lib.hid (HI.out x)
  have HI2 := Lib.hid (HI.out y)
  rw [← ho, ← ho'] at HD
  rw [← ho] at HI1
  rw [← ho'] at HI2
  have HRu : Hid (∀ W (a0 : Option Addr) (n0 c0 : Nat) (L0 : List Rn), RdR W a0 n0 L0 → n0 ≤ 128 → Calls Tryz.prog 37 #[.slice a0 n0 c0] W fun e w' => ∃ a1 c1, e = .returned (.slice a1 n0 c1) ∧ Hid (RdR w' a1 n0 L0) ∧ Hid (Below W.heap.size W w')) := Lib.hid fun W a0 n0 c0 L0 h0 hn0 => (snapRuns_any a0 n0 c0 L0 W h0 (by omega)).mono fun e w' he => by
    obtain ⟨v, rfl, ho, hb⟩ := he
    obtain ⟨a1, c1, rfl, hr, _, _⟩ := ho.rd
    rw [h0.1] at hr ⊢
    exact ⟨a1, c1, rfl, Lib.hid hr, Lib.hid hb⟩
  have HY : Hid (∀ u : Option (List (List Nat)), u = o ∨ u = o' → (u.getD (List.replicate 256 [])).length = 256) := by
    have hok2 := h.ok
    refine Lib.hid fun u hu => ?_
    cases u with
    | none => exact List.length_replicate
    | some G =>
      rcases hu with hu | hu
      · exact (lkM_ok hok2.1 hok2.2 (hu.trans ho).symm).1
      · exact (lkM_ok hok2.1 hok2.2 (hu.trans ho').symm).1
  clear h hs hok ho ho' HI
  go_enter Tryz.func16, Tryz.ntmps16
  go_wp2_with fail
  refine HD.out.mono ?_
  rintro e w2 ⟨hb2, hcase⟩
  have HB2 := Lib.hid hb2
  clear hb2 HD
  rcases hcase with ⟨hno, rfl⟩ | ⟨G, H, M, K, a, n, c, a', n', c', ho, ho', hG, hH, rfl, hM, hK, hrM, hrK⟩
  · obtain ⟨Y, hY⟩ : ∃ Y, Y = o.getD (List.replicate 256 []) := ⟨_, rfl⟩
    obtain ⟨p, hp⟩ : ∃ p, p = o.isSome := ⟨_, rfl⟩
    obtain ⟨Y', hY'⟩ : ∃ Y, Y = o'.getD (List.replicate 256 []) := ⟨_, rfl⟩
    obtain ⟨p', hp'⟩ : ∃ p, p = o'.isSome := ⟨_, rfl⟩
    have HYl : Hid (Y.length = 256) := Lib.hid (by rw [hY]; exact HY.out o (.inl rfl))
    have HYl' : Hid (Y'.length = 256) := Lib.hid (by rw [hY']; exact HY.out o' (.inr rfl))
    have HP : Hid (p = false ∨ p' = false) := Lib.hid (by
      rcases hno with h | h
      · left; rw [hp, h]; rfl
      · right; rw [hp', h]; rfl)
    have HJ1 := Lib.hid (HI1.out w2 HB2.out)
    unfold imgAns imgV at HJ1 HI2
    rw [← hY, ← hp] at HJ1
    rw [← hY', ← hp'] at HI2
    clear hY hp hY' hp' hno HY HI1
    go_wp2_with fail
    refine HJ1.out.mono ?_
    rintro e w3 ⟨rfl, hb3⟩
    have HB3 : Hid (Below w.heap.size w w3) := Lib.hid (HB2.out.trans (hb3.mono HB2.out.size))
    have HW3 : Hid (Below w2.heap.size w2 w3) := Lib.hid hb3
    obtain ⟨g12, hg12⟩ : ∃ g, g = w3.heap.size := ⟨_, rfl⟩
    clear hb3 HJ1
    go_wp2_with (refine wpList_store_img rfl (.tmp 12) (.tmp 30) rfl w3.heap.size (List.replicate 256 []) Y rfl rfl (heap_alloc_last _ _) List.length_replicate HYl.out ?_; intro w5 H5)
    have HB35 : Hid (Below w3.heap.size w3 w5) := (by rw [H5.out]; exact Lib.hid ((Below.alloc0 _ _).trans (put_below _ (Nat.le_refl _))))
    have HB5 : Hid (Below w.heap.size w w5) := Lib.hid (HB3.out.trans (HB35.out.mono HB3.out.size))
    have HA5 : Hid (w5.heap[g12]? = some (arrObj Y)) := (by rw [H5.out, hg12]; exact Lib.hid (put_same (heap_alloc_last _ _)))
    rw [← hg12]
    clear H5 hg12
    refine (HI2.out w5 HB5.out).mono ?_
    rintro e w6 ⟨rfl, hb6⟩
    have HB6 : Hid (Below w.heap.size w w6) := Lib.hid (HB5.out.trans (hb6.mono HB5.out.size))
    have HA6 : Hid (w6.heap[g12]? = some (arrObj Y)) := Lib.hid ((hb6.block g12 (lt_of_block HA5.out)).trans HA5.out)
    have HW26 : Hid (Below w2.heap.size w2 w6) := Lib.hid ((HW3.out.trans (HB35.out.mono HW3.out.size)).trans (hb6.mono (Nat.le_trans HW3.out.size HB35.out.size)))
    obtain ⟨g14, hg14⟩ : ∃ g, g = w6.heap.size := ⟨_, rfl⟩
    clear hb6 HI2
    go_upto_region 4 with (refine wpList_store_img rfl (.tmp 14) (.tmp 36) rfl w6.heap.size (List.replicate 256 []) Y' rfl rfl (heap_alloc_last _ _) List.length_replicate HYl'.out ?_; intro w7 H7)
    have HW67 : Hid (Below w6.heap.size w6 w7) := (by rw [H7.out]; exact Lib.hid ((Below.alloc0 _ _).trans (put_below _ (Nat.le_refl _))))
    have HB7 : Hid (Below w.heap.size w w7) := Lib.hid (HB6.out.trans (HW67.out.mono HB6.out.size))
    have HB27 : Hid (Below w2.heap.size w2 w7) := Lib.hid (HW26.out.trans (HW67.out.mono HW26.out.size))
    have HA14 : Hid (w7.heap[g14]? = some (arrObj Y')) := (by rw [H7.out, hg14]; exact Lib.hid (put_same (heap_alloc_last _ _)))
    rw [← hg14]
    clear H7 hg14
    cases p with
    | false =>
      clear HP
      go_wp2
      go_ret
      exact ⟨rfl, HB7.out⟩
    | true =>
      cases p' with
      | false =>
        clear HP
        go_wp2
        go_ret
        exact ⟨rfl, HB7.out⟩
      | true =>
        rcases HP.out with h | h <;> cases h
  · subst ho
    subst ho'
    have HMs := Lib.hid hM
    have HKs := Lib.hid hK
    have HRM := Lib.hid hrM
    have HRK := Lib.hid hrK
    have HGo := Lib.hid hG
    have HHo := Lib.hid hH
    have hn : n ≤ 128 := by have := hM.len (diffF_len G H); have := hrM.1; omega
    have hn' : n' ≤ 128 := by have := hK.len (goneF_len G H); have := hrK.1; omega
    have HJ1 := Lib.hid (HI1.out w2 HB2.out)
    unfold imgAns imgV at HJ1 HI2
    simp only [Option.getD_some, Option.isSome_some] at HJ1 HI2
    have HYl : Hid (G.length = 256) := Lib.hid hG.1
    have HYl' : Hid (H.length = 256) := Lib.hid hH.1
    clear HY HI1 hM hK hrM hrK hG hH
    go_wp2_with fail
    refine HJ1.out.mono ?_
    rintro e w3 ⟨rfl, hb3⟩
    have HB3 : Hid (Below w.heap.size w w3) := Lib.hid (HB2.out.trans (hb3.mono HB2.out.size))
    have HW3 : Hid (Below w2.heap.size w2 w3) := Lib.hid hb3
    obtain ⟨g12, hg12⟩ : ∃ g, g = w3.heap.size := ⟨_, rfl⟩
    clear hb3 HJ1
    go_wp2_with (refine wpList_store_img rfl (.tmp 12) (.tmp 30) rfl w3.heap.size (List.replicate 256 []) G rfl rfl (heap_alloc_last _ _) List.length_replicate HYl.out ?_; intro w5 H5)
    have HB35 : Hid (Below w3.heap.size w3 w5) := (by rw [H5.out]; exact Lib.hid ((Below.alloc0 _ _).trans (put_below _ (Nat.le_refl _))))
    have HB5 : Hid (Below w.heap.size w w5) := Lib.hid (HB3.out.trans (HB35.out.mono HB3.out.size))
    have HA5 : Hid (w5.heap[g12]? = some (arrObj G)) := (by rw [H5.out, hg12]; exact Lib.hid (put_same (heap_alloc_last _ _)))
    rw [← hg12]
    clear H5 hg12
    refine (HI2.out w5 HB5.out).mono ?_
    rintro e w6 ⟨rfl, hb6⟩
    have HB6 : Hid (Below w.heap.size w w6) := Lib.hid (HB5.out.trans (hb6.mono HB5.out.size))
    have HA6 : Hid (w6.heap[g12]? = some (arrObj G)) := Lib.hid ((hb6.block g12 (lt_of_block HA5.out)).trans HA5.out)
    have HW26 : Hid (Below w2.heap.size w2 w6) := Lib.hid ((HW3.out.trans (HB35.out.mono HW3.out.size)).trans (hb6.mono (Nat.le_trans HW3.out.size HB35.out.size)))
    obtain ⟨g14, hg14⟩ : ∃ g, g = w6.heap.size := ⟨_, rfl⟩
    clear hb6 HI2
    go_upto_region 4 with (refine wpList_store_img rfl (.tmp 14) (.tmp 36) rfl w6.heap.size (List.replicate 256 []) H rfl rfl (heap_alloc_last _ _) List.length_replicate HYl'.out ?_; intro w7 H7)
    have HW67 : Hid (Below w6.heap.size w6 w7) := (by rw [H7.out]; exact Lib.hid ((Below.alloc0 _ _).trans (put_below _ (Nat.le_refl _))))
    have HB7 : Hid (Below w.heap.size w w7) := Lib.hid (HB6.out.trans (HW67.out.mono HB6.out.size))
    have HB27 : Hid (Below w2.heap.size w2 w7) := Lib.hid (HW26.out.trans (HW67.out.mono HW26.out.size))
    have HA14 : Hid (w7.heap[g14]? = some (arrObj H)) := (by rw [H7.out, hg14]; exact Lib.hid (put_same (heap_alloc_last _ _)))
    rw [← hg14]
    clear H7 hg14
    have HA12 : Hid (w7.heap[g12]? = some (arrObj G)) := Lib.hid ((HW67.out.block g12 (lt_of_block HA6.out)).trans HA6.out)
    go_wp2_with (first | (refine wpList_load_img rfl (.tmp 12) rfl g12 G rfl HA12.out HYl.out ?_) | (refine wpList_load_img rfl (.tmp 14) rfl g14 H rfl HA14.out HYl'.out ?_))
    refine (refDiff_any w7 G H HGo.out HHo.out).mono ?_
    rintro e w8 ⟨v, u, M', K', rfl, ho1, hs1, ho2, hs2, hb8⟩
    obtain rfl : M' = M := hs1.unique HMs.out
    obtain rfl : K' = K := hs2.unique HKs.out
    obtain ⟨a3, c3, rfl, hr3, _, _⟩ := ho1.rd
    obtain ⟨a4, c4, rfl, hr4, _, _⟩ := ho2.rd
    rw [HRM.out.1] at hr3 ⊢
    rw [HRK.out.1] at hr4 ⊢
    have HR3 := Lib.hid hr3
    have HR4 := Lib.hid hr4
    have HB8 : Hid (Below w.heap.size w w8) := Lib.hid (HB7.out.trans (hb8.mono HB7.out.size))
    have HB28 : Hid (Below w2.heap.size w2 w8) := Lib.hid (HB27.out.trans (hb8.mono HB27.out.size))
    clear hr3 hr4 ho1 ho2 hs1 hs2 hb8 HMs HKs
    go_wp2_with fail
    refine (HRu.out w8 a n c M' (HRM.out.later HB28.out) hn).mono ?_
    rintro e w9 ⟨a5, c5, rfl, HR5, HB9⟩
    go_wp2_with fail
    refine (refSame_any a5 a3 n c5 c3 M' w9 HR5.out (HR3.out.later HB9.out) (by omega)).mono ?_
    rintro e w10 ⟨rfl, hb10⟩
    have HB810 : Hid (Below w8.heap.size w8 w10) := Lib.hid (HB9.out.trans (hb10.mono HB9.out.size))
    clear hb10
    go_wp2_with fail
    refine (HRu.out w10 a' n' c' K' (HRK.out.later (HB28.out.trans (HB810.out.mono HB28.out.size))) hn').mono ?_
    rintro e w11 ⟨a6, c6, rfl, HR6, HB11⟩
    have HB811 : Hid (Below w8.heap.size w8 w11) := Lib.hid (HB810.out.trans (HB11.out.mono HB810.out.size))
    go_wp2_with fail
    refine (refSame_any a6 a4 n' c6 c4 K' w11 HR6.out (HR4.out.later HB811.out) (by omega)).mono ?_
    rintro e w12 ⟨rfl, hb12⟩
    have HB12 : Hid (Below w.heap.size w w12) := Lib.hid (HB8.out.trans ((HB811.out.trans (hb12.mono HB811.out.size)).mono HB8.out.size))
    clear hb12
    go_wp2
    go_ret
    exact ⟨rfl, HB12.out⟩

end Go.Proofs.YtaijjogjohbheaaGreat

/- A store opened. -/
namespace Go.Proofs.YtaijjogjohbheaaGreat
open Go.RowKit
set_option maxRecDepth 100000
set_option linter.unusedSimpArgs false

/-- What a disk's bytes say of a store: the bytes b, of generation G. -/
def Bk (G : Nat) (b : List Nat) (F : List (List Nat)) (last : Nat) (X : List (Nat × List (List Nat))) : Prop :=
  (G = 0 ∧ b = [] ∧ F = holes ∧ last = 0 ∧ X = []) ∨ (0 < G ∧ b = sEnc F last X)

theorem okS_new : OkS holes 0 [] := ⟨holes_ok, by simp, by simp, by simp, by omega⟩

theorem sopen_nil (w : World) : Calls Tryz.prog 8 #[.pointer none] w fun e w' => e = .returned (.tuple #[.pointer none, .int .i64 1]) ∧ w' = w := by
  have HO := Lib.hid (ropen_nil w)
  go_enter Tryz.func8, Tryz.ntmps8
  go_wp2_with fail
  refine HO.out.mono ?_
  rintro e w1 ⟨rfl, rfl⟩
  go_wp2
  go_ret2
  exact ⟨rfl, rfl⟩

set_option maxHeartbeats 2000000 in
theorem sopen_any (w : World) (gd gp gb k G B : Nat) (s : Pw) (L b : List Nat) (F : List (List Nat)) (last : Nat) (X : List (Nat × List (List Nat))) (h : Dsk w gd gp gb s L k) (hk : 4 ≤ k) (hk1 : k ≤ 1000) (ho : s.on = true) (hi : RInv L k G b) (hb : Bk G b F last X) (hok : OkS F last X) (hw : s.within B) (hB : B < 1000000000) (hG : G < 200) :
    Calls Tryz.prog 8 #[.pointer (some ⟨gd, 0, none⟩)] w fun e w' => ∃ gr gs, e = .returned (.tuple #[.pointer (some ⟨gs, 0, none⟩), .int .i64 0]) ∧ w.heap.size ≤ gr ∧ w.heap.size ≤ gs ∧ Ctx w' gd gp gb gr gs k G B 300 s L b F last X ∧ Below w.heap.size w w' := by
  have hlts := h.lts
  have HD := Lib.hid h
  have HI := Lib.hid hi
  have HOk := Lib.hid hok
  have HM := Lib.hid (And.intro hw (And.intro ho hlts))
  have HFIN : Hid (∀ (w' : World) gr gs, w'.heap[gr]? = some (rootObj gd G) → Below w.heap.size w w' → w.heap.size ≤ gr → w.heap.size ≤ gs → gs ≠ gr → Sto w' [gp, gb, gr, gs] 300 gs gr F last X → Ctx w' gd gp gb gr gs k G B 300 s L b F last X) := by
    refine Lib.hid fun w' gr gs h1 h2 h3 h4 h5 h6 => ?_
    have := HM.out.2.2
    exact ⟨h1, HD.out.later h2, by omega, by omega, HI.out, HM.out.2.1, HM.out.1, h6, HOk.out, hk, hk1, hG, hB, by omega⟩
  rcases hb with ⟨rfl, rfl, rfl, rfl, rfl⟩ | ⟨hG0, rfl⟩
  · have HO := Lib.hid (open_inv w gd gp gb k 0 s L [] h hk hk1 ho hi 6 rfl)
    clear h hi hok hw hlts
    go_enter Tryz.func8, Tryz.ntmps8
    go_wp2_with fail
    refine HO.out.mono ?_
    rintro e w1 ⟨gr, a, c, rfl, hgr, hrd, hr, hb1⟩
    have HR := Lib.hid (And.intro hgr (And.intro hr hb1))
    have HN := Lib.hid (imgNew_any w1)
    clear hgr hrd hr hb1 HO
    go_wp2_with fail
    refine HN.out.mono ?_
    rintro e w2 ⟨gi, bi, rfl, hgi, hbi, himg, hb2⟩
    have HE := Lib.hid (And.intro hgi (And.intro hbi (And.intro himg hb2)))
    clear hgi hbi himg hb2 HN
    go_wp2
    go_ret2
    obtain ⟨hgr, hr, hb1⟩ := HR.out
    obtain ⟨hgi, hbi, himg, hb2⟩ := HE.out
    have hlts := HM.out.2.2
    have hs1 := hb1.size
    have hs2 := hb2.size
    have hrl := lt_of_block hr
    have hb3 : Below w.heap.size w (w2.alloc (stoObj gr gi 0 none 0 0)) := (hb1.trans (hb2.mono hs1)).alloc (by omega) _
    have hr3 : (w2.alloc (stoObj gr gi 0 none 0 0)).heap[gr]? = some (rootObj gd 0) := (heap_alloc_old w2 _ (by omega)).trans ((hb2.block gr hrl).trans hr)
    have hst : Sta w2 [gp, gb, gr] 300 gi none 0 holes [] := by
      refine ⟨⟨bi, 0, himg, by omega, ?_, ?_⟩, [], rfl, RdY.nil _ _, by simp, by omega⟩ <;> simp only [List.mem_cons, List.not_mem_nil, or_false, not_or] <;> omega
    refine ⟨gr, w2.heap.size, rfl, hgr, by omega, HFIN.out _ gr w2.heap.size hr3 hb3 hgr (by omega) (by omega) ⟨gi, none, 0, 0, heap_alloc_new w2 _, Nat.le_refl _, ?_⟩, hb3⟩
    refine (hst.fresh (V' := [gp, gb, gr, w2.heap.size]) (fun k hk hlt => ?_)).later (Below.alloc0 _ _)
    simp only [List.mem_cons, List.not_mem_nil, or_false] at hk ⊢
    omega
  · have HO := Lib.hid (open_inv w gd gp gb k G s L _ h hk hk1 ho hi 0 (by rw [if_neg (by omega)]))
    have HBL : Hid ((sEnc F last X).length ≤ 400000) := Lib.hid hok.len
    obtain ⟨bl, hbl⟩ : ∃ bl, bl = (sEnc F last X).length := ⟨_, rfl⟩
    have HBl := Lib.hid hbl
    rw [← hbl] at HO
    clear h hi hok hw hlts hbl
    go_enter Tryz.func8, Tryz.ntmps8
    go_wp2_with fail
    refine HO.out.mono ?_
    rintro e w1 ⟨gr, a, c, rfl, hgr, hrd, hr, hb1⟩
    have HR := Lib.hid (And.intro hgr (And.intro hr hb1))
    have HRe := Lib.hid (read_state w1 a bl c [gp, gb, gr] F last X hrd (by have := HBL.out; have := HBl.out; omega) HOk.out (by
      have h1 := HM.out.2.2
      have h2 := hb1.size
      have h3 := lt_of_block hr
      simp only [List.mem_cons, List.not_mem_nil, or_false]
      omega))
    unfold stV at HRe
    clear hgr hrd hr hb1 HO
    go_wp2_with fail
    refine HRe.out.mono ?_
    rintro e w2 ⟨gi, a', n', c', rfl, hnc, hst, hb2⟩
    have HE := Lib.hid (And.intro hnc (And.intro hst hb2))
    clear hnc hst hb2 HRe
    go_wp2
    go_ret2
    obtain ⟨hgr, hr, hb1⟩ := HR.out
    obtain ⟨hnc, hst, hb2⟩ := HE.out
    have hlts := HM.out.2.2
    have hs1 := hb1.size
    have hs2 := hb2.size
    have hrl := lt_of_block hr
    obtain ⟨w3, hw3⟩ : ∃ w3, w3 = w2.alloc (.cells #[.pointer (some ⟨gi, 0, none⟩), .int .i64 (last : Int), .slice a' n' c'] 76) := ⟨_, rfl⟩
    rw [← hw3]
    have hs3 : w3.heap.size = w2.heap.size + 1 := by rw [hw3]; simp
    have hb23 : Below w2.heap.size w2 w3 := by rw [hw3]; exact Below.alloc0 _ _
    have hb3 : Below w.heap.size w (w3.alloc (stoObj gr gi last a' n' c')) := ((hb1.trans (hb2.mono hs1)).trans (hb23.mono (by omega))).alloc (by omega) _
    have hr3 : (w3.alloc (stoObj gr gi last a' n' c')).heap[gr]? = some (rootObj gd G) := (heap_alloc_old w3 _ (by omega)).trans ((hb23.block gr (by omega)).trans ((hb2.block gr hrl).trans hr))
    refine ⟨gr, w3.heap.size, by rw [hs3]; rfl, hgr, by omega, HFIN.out _ gr w3.heap.size hr3 hb3 hgr (by omega) (by omega) ⟨gi, a', n', c', heap_alloc_new w3 _, hnc, ?_⟩, hb3⟩
    refine ((hst.later hb23).fresh (V' := [gp, gb, gr, w3.heap.size]) (fun k hk hlt => ?_)).later (Below.alloc0 _ _)
    simp only [List.mem_cons, List.not_mem_nil, or_false] at hk ⊢
    omega

end Go.Proofs.YtaijjogjohbheaaGreat

/- A store's Delete. -/
namespace Go.Proofs.YtaijjogjohbheaaGreat
open Go.RowKit
set_option maxRecDepth 100000
set_option linter.unusedSimpArgs false

theorem delete_nil (w : World) (x : Int) : Calls Tryz.prog 20 #[.pointer none, .int .i64 x] w fun e w' => e = .returned (.int .i64 1) ∧ w' = w := by
  go_enter Tryz.func20, Tryz.ntmps20
  go_wp2
  go_ret
  exact ⟨rfl, rfl⟩

theorem boxz {w : World} {q : Nat} {x y z z' : Value} {T : TypeId} (h : w.heap[q]? = some (.cells #[x, y, z] T (0, 0))) : w.setCell ⟨q, 2, none⟩ z' = put w q (.cells #[x, y, z'] T (0, 0)) := by
  rw [set_put _ h]
  rfl

theorem map_erase {α β : Type} (f : α → β) (l : List α) (i : Nat) : (l.map f).eraseIdx i = (l.eraseIdx i).map f := by
  induction l generalizing i with
  | nil => simp
  | cons x r ih =>
    cases i with
    | zero => simp
    | succ i => simp [ih]

theorem snaps_cut {F : List (List Nat)} {last i : Nat} {X : List (Nat × List (List Nat))} (h : OkS F last X) : OkS F last (X.eraseIdx i) := by
  refine ⟨h.img, fun p hp => h.ims p (List.mem_of_mem_eraseIdx hp), h.inc.sublist (List.eraseIdx_sublist _ i), ?_, h.last⟩
  have h1 := (List.eraseIdx_sublist X i).length_le
  have := h.few
  omega

set_option maxHeartbeats 2000000 in
theorem sdelete_any (w : World) (gd gp gb gr gs k G B N : Nat) (s : Pw) (L b0 : List Nat) (F : List (List Nat)) (last : Nat) (X : List (Nat × List (List Nat))) (h : Ctx w gd gp gb gr gs k G B N s L b0 F last X) (x : Int) :
    Calls Tryz.prog 20 #[.pointer (some ⟨gs, 0, none⟩), .int .i64 x] w fun e w' =>
      ((∀ k, k < X.length → ((X.getD k default).1 : Int) ≠ x) ∧ e = .returned (.int .i64 6) ∧ Below w.heap.size w w') ∨ (∃ i, i < X.length ∧ ((X.getD i default).1 : Int) = x ∧ ∃ E : Nat, e = .returned (.int .i64 (E : Int)) ∧ ChP gd gp gb gr gs k G B N N s L b0 F last X F last (X.eraseIdx i) w E w') := by
  obtain ⟨gi, a0, n0, c0, hobj, hnc0, hsta⟩ := h.sto
  have hn := hsta.len
  have hfew := h.ok.few
  have hn32 : n0 ≤ 32 := by omega
  have HC := Lib.hid h
  have HNC := Lib.hid hnc0
  have HSTA := Lib.hid hsta
  have HOB := Lib.hid hobj
  obtain ⟨d0, d1, d2, d3⟩ := sto_cells hobj
  have HN := Lib.hid hn
  obtain ⟨T, hX, hRY, hT, hV⟩ := hsta.row
  subst hX
  have hTl : T.length = n0 := by simpa using hn
  have HF := Lib.hid (find_any gi last a0 n0 c0 (T.map tY) x w hRY (by omega) h.ok.incY)
  unfold stV at HF
  have HRY := Lib.hid hRY
  have HT := Lib.hid (And.intro hT hV)
  have HTl := Lib.hid hTl
  have HGS : Hid (gs < w.heap.size) := Lib.hid (lt_of_block hobj)
  clear h hnc0 hsta hobj hn hRY hT hV hTl hfew
  go_enter Tryz.func20, Tryz.ntmps20
  go_wp2_with fail
  refine HF.out.mono ?_
  rintro e w1 ⟨i, fd, rfl, hi, hfd, hnf, hb1⟩
  have HB1 := Lib.hid hb1
  have HFd := Lib.hid (And.intro hi (And.intro hfd hnf))
  have hob1 : w1.heap[gs]? = some (stoObj gr gi last a0 n0 c0) := (hb1.block gs HGS.out).trans HOB.out
  have HOB1 := Lib.hid hob1
  obtain ⟨f0, f1, f2, f3⟩ := sto_cells hob1
  clear d0 d1 d2 d3 hob1 hb1 hi hfd hnf HF
  cases fd with
  | false =>
    go_wp2
    go_ret
    refine .inl ⟨fun k hk => ?_, rfl, HB1.out⟩
    have hk' : k < T.length := by simpa using hk
    have h1 := HFd.out.2.2 (by first | rfl | trivial) k (by have := HTl.out; omega)
    rw [getD_tY hk'] at h1
    rw [getD_tX hk']
    exact h1
  | true =>
    have hin := (HFd.out.2.1 rfl).1
    have hw1 : wrap64 ((i : Int) + 1) = ((i + 1 : Nat) : Int) := by unfold wrap64; omega
    go_upto_region 7 with fail
    obtain ⟨w2, hw2⟩ : ∃ w2, w2 = w1.alloc (.cells #[.pointer (some ⟨gi, 0, none⟩), .int .i64 (last : Int), .slice a0 n0 c0] 76) := ⟨_, rfl⟩
    obtain ⟨q, hq⟩ : ∃ q, q = w1.heap.size := ⟨_, rfl⟩
    rw [← hw2, ← hq]
    have hob : w2.heap[q]? = some (.cells #[.pointer (some ⟨gi, 0, none⟩), .int .i64 (last : Int), .slice a0 n0 c0] 76 (0, 0)) := by rw [hw2, hq]; exact heap_alloc_new _ _
    have hbe : Below w1.heap.size w1 w2 := by rw [hw2]; exact Below.alloc0 _ _
    have hs1 : w2.heap.size = q + 1 := by rw [hw2, hq]; simp
    have HB2 := Lib.hid (HB1.out.trans (hbe.mono HB1.out.size))
    have HQ := Lib.hid (And.intro hq hs1)
    have HOq := Lib.hid hob
    have g3 : w2.cell? ⟨gs, 3, none⟩ = some (.slice a0 n0 c0) := (hbe.cell (p := ⟨gs, 3, none⟩) (by have := HGS.out; have := HB1.out.size; simp only; omega)).trans f3
    have HCL := Lib.hid (cloneY_any a0 n0 c0 (T.map tY) w2 (HRY.out.later HB2.out) (by omega))
    clear hw2 hq hob hbe hs1 f0 f1 f2 f3
    go_wp2_with fail
    refine HCL.out.mono ?_
    rintro e w3 ⟨v3, rfl, ho3, hb3⟩
    have hYl : (T.map tY).length = n0 := by simpa using HTl.out
    rcases ho3.2 with ⟨_, h0⟩ | ⟨g3', cap3, cur3, hv3, _⟩
    · omega
    rw [hYl] at hv3
    subst hv3
    have hlt3 := World.ownsRow.lt ho3 g3' rfl
    have HDl := Lib.hid (delY_any w3 w2.heap.size g3' n0 cap3 i (T.map tY) ho3 hYl hin)
    have HG3 := Lib.hid hlt3
    have HB3 := Lib.hid hb3
    clear ho3 hb3 hYl hlt3 HCL g3
    go_wp2_with fail
    refine HDl.out.mono ?_
    rintro e w4 ⟨rfl, ho4, hs4⟩
    have hqn := HQ.out
    have hob4 : w4.heap[q]? = some (.cells #[.pointer (some ⟨gi, 0, none⟩), .int .i64 (last : Int), .slice a0 n0 c0] 76 (0, 0)) := (hs4.block q (by have := HB3.out.size; omega) (by have := HG3.out; simp; omega)).trans ((HB3.out.block q (by omega)).trans HOq.out)
    have x2 : w4.cell? ⟨q, 2, none⟩ = some (.slice a0 n0 c0) := by simp [World.cell?, hob4]
    have fz : w4.frozen? ⟨q, 2, none⟩ = false := by simp [World.frozen?, hob4]
    have HB4 : Hid (Below w2.heap.size w2 w4) := Lib.hid (HB3.out.trans (hs4.below HB3.out.size (by have := HG3.out; simp; omega)))
    have HO4 := Lib.hid ho4
    have HX4 := Lib.hid hob4
    clear ho4 hs4 hob4 HDl hqn
    go_upto_region 8 with fail
    rw [boxz HX4.out]
    obtain ⟨w5, hw5⟩ : ∃ w5, w5 = put w4 q (.cells #[.pointer (some ⟨gi, 0, none⟩), .int .i64 (last : Int), .slice (some ⟨g3', 0, none⟩) (n0 - 1) cap3] 76 (0, 0)) := ⟨_, rfl⟩
    rw [← hw5]
    have hqn := HQ.out
    have hob5 : w5.heap[q]? = some (.cells #[.pointer (some ⟨gi, 0, none⟩), .int .i64 (last : Int), .slice (some ⟨g3', 0, none⟩) (n0 - 1) cap3] 76 (0, 0)) := by rw [hw5]; exact put_same HX4.out
    have hb5 : Below w.heap.size w w5 := by
      rw [hw5]
      exact (HB2.out.trans (HB4.out.mono HB2.out.size)).trans (put_below _ (by have := HB1.out.size; omega))
    have hTn := HTl.out
    have hel : ((T.map tY).eraseIdx i).length = n0 - 1 := by rw [List.length_eraseIdx, List.length_map, hTn, if_pos hin]
    have ho5 : OwnY w5 w2.heap.size (.slice (some ⟨g3', 0, none⟩) (n0 - 1) cap3) ((T.map tY).eraseIdx i) := by
      rw [hw5]
      refine ⟨HO4.out.1, ?_⟩
      rcases HO4.out.2 with ⟨hv, _⟩ | ⟨g', cap', cur, hv, h0, hgo, rest⟩
      · cases hv
      · have e1 := hv
        injection e1 with e1
        injection e1 with e1
        injection e1 with e1
        subst e1
        exact .inr ⟨_, cap', cur, hv, h0, (put_other (by have := HG3.out; omega)).trans hgo, rest⟩
    obtain ⟨a7, c7, hv7, hr7, hc7, hl7⟩ := ho5.rd
    rw [hel] at hv7 hr7 hc7
    injection hv7 with e1 e2 e3
    subst e1
    subst e3
    have hXe : (T.map tX).eraseIdx i = (T.eraseIdx i).map tX := map_erase tX T i
    have hYe : (T.map tY).eraseIdx i = (T.eraseIdx i).map tY := map_erase tY T i
    have hsta5 : Sta w5 [gp, gb, gr, gs] N gi (some ⟨g3', 0, none⟩) (n0 - 1) F ((T.map tX).eraseIdx i) := by
      refine ⟨(HSTA.out.later hb5).img, T.eraseIdx i, hXe, by rw [← hYe]; exact hr7, fun t ht => (HT.out.1 t (List.mem_of_mem_eraseIdx ht)).save (Save.of_below hb5 []) (by simp), fun _ b o e => ?_⟩
      have := (hl7 b o e).1
      exact HC.out.fresh (by have := HB2.out.size; omega)
    have hok5 : OkS F last ((T.map tX).eraseIdx i) := snaps_cut HC.out.ok
    have z0 : w5.cell? ⟨q, 0, none⟩ = some (.pointer (some ⟨gi, 0, none⟩)) := by simp [World.cell?, hob5]
    have z1 : w5.cell? ⟨q, 1, none⟩ = some (.int .i64 (last : Int)) := by simp [World.cell?, hob5]
    have z2 : w5.cell? ⟨q, 2, none⟩ = some (.slice (some ⟨g3', 0, none⟩) (n0 - 1) cap3) := by simp [World.cell?, hob5]
    have HCh := Lib.hid (change_any w5 gd gp gb gr gs k G B N N s L b0 F last (T.map tX) (HC.out.later hb5) gi last (n0 - 1) cap3 (some ⟨g3', 0, none⟩) F _ hsta5 hc7 hok5)
    unfold stV at HCh
    have HB5 := Lib.hid hb5
    obtain ⟨n1, hn1⟩ : ∃ n1, n1 = n0 - 1 := ⟨_, rfl⟩
    rw [← hn1] at HCh z2 ⊢
    clear hw5 hqn hob5 hb5 hTn hel ho5 hr7 hc7 hl7 hXe hYe hsta5 hok5 x2 fz hn1 e2
    go_wp2_with fail
    refine HCh.out.mono ?_
    rintro e w9 ⟨E, rfl, hch⟩
    have HE := Lib.hid hch
    clear hch z0 z1 z2
    go_wp2
    go_ret
    refine .inr ⟨i, by have := HTl.out; simpa using (show i < T.length by omega), ?_, E, rfl, HE.out.from HB5.out⟩
    have hiT : i < T.length := by have := HTl.out; omega
    have h1 := (HFd.out.2.1 (by first | rfl | trivial)).2
    rw [getD_tY hiT] at h1
    rw [getD_tX hiT]
    exact h1

end Go.Proofs.YtaijjogjohbheaaGreat

/- What a change leaves, as a store at work; small images' bytes. -/
namespace Go.Proofs.YtaijjogjohbheaaGreat
open Go.RowKit
set_option maxRecDepth 100000
set_option linter.unusedSimpArgs false

section
variable {gd gp gb gr gs k G B N M : Nat} {s : Pw} {L b0 : List Nat} {F : List (List Nat)} {last : Nat} {X : List (Nat × List (List Nat))} {F' : List (List Nat)} {last' : Nat} {X' : List (Nat × List (List Nat))} {w w' : World} {E : Nat}

theorem ChP.cases (h : ChP gd gp gb gr gs k G B N M s L b0 F last X F' last' X' w E w') : E = 0 ∨ E = 7 ∨ E = 11 := by
  obtain ⟨s', L', h1, h2, h3, h4 | h4 | h4⟩ := h
  · exact .inl h4.1
  · exact .inr (.inl h4.1)
  · exact .inr (.inr h4.1)

theorem ChP.done (hc : Ctx w gd gp gb gr gs k G B N s L b0 F last X) (h : ChP gd gp gb gr gs k G B N M s L b0 F last X F' last' X' w 0 w') (hG : G + 1 < 200) (hB : B + 400001 < 1000000000) (hM : M < 10000) :
    (sEnc F' last' X').length ≤ 64 * sect k ∧ ∃ s' L', (s.plan = none → s'.plan = none) ∧ Ctx w' gd gp gb gr gs k (G + 1) (B + 400001) M s' L' (sEnc F' last' X') F' last' X' ∧ Save [gp, gb, gr, gs] w w' := by
  obtain ⟨s', L', h1, h2, h3, h4 | h4 | h4⟩ := h
  · obtain ⟨_, a2, a3, a4, a5, a6, a7, a8⟩ := h4
    exact ⟨a2, s', L', a4, ⟨a6, h1, hc.ne, hc.gsn, a5, a3, h2, a7, a8, hc.k4, hc.k1, hG, hB, hM⟩, h3⟩
  · exact absurd h4.1 (by omega)
  · exact absurd h4.1 (by omega)

theorem ChP.full (hc : Ctx w gd gp gb gr gs k G B N s L b0 F last X) (h : ChP gd gp gb gr gs k G B N M s L b0 F last X F' last' X' w 7 w') (hB : B + 400001 < 1000000000) :
    64 * sect k < (sEnc F' last' X').length ∧ Ctx w' gd gp gb gr gs k G (B + 400001) N s L b0 F last X ∧ Save [gp, gb, gr, gs] w w' := by
  obtain ⟨s', L', h1, h2, h3, h4 | h4 | h4⟩ := h
  · exact absurd h4.1 (by omega)
  · obtain ⟨_, a2, rfl, rfl, a5, a6⟩ := h4
    exact ⟨a2, ⟨a5, h1, hc.ne, hc.gsn, hc.inv, hc.on, h2, a6, hc.ok, hc.k4, hc.k1, hc.gl, hB, hc.nl⟩, h3⟩
  · exact absurd h4.1 (by omega)

theorem ChP.fell (h : ChP gd gp gb gr gs k G B N M s L b0 F last X F' last' X' w 11 w') :
    (sEnc F' last' X').length ≤ 64 * sect k ∧ s.plan ≠ none ∧ OkS F' last' X' ∧ ∃ s' L', Dsk w' gd gp gb s' L' k ∧ s'.on = false ∧ s'.within (B + 400001) ∧ (RInv L' k G b0 ∨ RInv L' k (G + 1) (sEnc F' last' X')) ∧ Save [gp, gb, gr, gs] w w' := by
  obtain ⟨s', L', h1, h2, h3, h4 | h4 | h4⟩ := h
  · exact absurd h4.1 (by omega)
  · exact absurd h4.1 (by omega)
  · obtain ⟨_, a2, a3, a4, a5, a6⟩ := h4
    exact ⟨a2, a3, a5, s', L', h1, a4, h2, a6, h3⟩

theorem ChP.ok0 (hp : s.plan = none) (hl : (sEnc F' last' X').length ≤ 64 * sect k) (h : ChP gd gp gb gr gs k G B N M s L b0 F last X F' last' X' w E w') : E = 0 := by
  obtain ⟨s', L', h1, h2, h3, h4 | h4 | h4⟩ := h
  · exact h4.1
  · exact absurd h4.2.1 (by omega)
  · exact absurd hp h4.2.2.1

end

theorem setF_one {F : List (List Nat)} (hF : F.length = 256) (h : ∀ k, k < 256 → (F.getD k [] ≠ [] ↔ k = 0)) : SetF F [⟨0, 1⟩] := by
  refine ⟨⟨-1, by simp [Canon]⟩, fun z => ?_⟩
  have e : inR [⟨0, 1⟩] z ↔ z = 0 := by
    constructor
    · rintro ⟨r, hr, h1, h2⟩
      simp only [List.mem_singleton] at hr
      subst hr
      simp only at h1 h2
      omega
    · rintro rfl
      exact ⟨⟨0, 1⟩, by simp, by simp, by simp⟩
  rw [e]
  constructor
  · rintro rfl
    have := (h 0 (by omega)).2 rfl
    simpa [fAt] using this
  · intro hz
    have h1 := fAt_in hF hz
    obtain ⟨k, rfl⟩ : ∃ k : Nat, z = (k : Int) := ⟨z.toNat, by omega⟩
    rw [fAt_nat] at hz
    have := (h k (by omega)).1 hz
    omega

theorem setF_nil {F : List (List Nat)} (h : ∀ k, F.getD k [] = []) : SetF F [] := by
  refine ⟨⟨-1, trivial⟩, fun z => ?_⟩
  constructor
  · intro h1; exact absurd h1 (inR_nil z)
  · intro h1
    unfold fAt at h1
    split at h1
    · exact absurd (h _) h1
    · exact absurd rfl h1

theorem iEnc_one {F : List (List Nat)} (hF : okF F) (h : ∀ k, k < 256 → (F.getD k [] ≠ [] ↔ k = 0)) : (iEnc F).length ≤ 100 := by
  rw [iEnc_eq (setF_one hF.1 h)]
  have h0 : fAt F 0 ≠ [] := by
    have := (h 0 (by omega)).2 rfl
    simpa [fAt] using this
  have e : (bytesF F [⟨0, 1⟩]).length ≤ 50 := by
    unfold bytesF
    have e1 : numsR [⟨0, 1⟩] = [0] := by decide
    have e2 : setNums [⟨0, 1⟩] = [1, 0, 1] := by decide
    rw [e1, e2]
    have h1 := vEnc_len 0 1 (by omega)
    have h2 := vEnc_len 0 0 (by omega)
    rcases hF.at_ 0 with h3 | h3
    · exact absurd h3 h0
    · simp only [List.flatMap_cons, List.flatMap_nil, List.length_append, List.length_nil, h3.1]
      omega
  have h2 := vEnc_len 0 (bytesF F [⟨0, 1⟩]).length (by omega)
  unfold tEnc
  rw [List.length_append]
  omega

/-- An image of one block, at 0. -/
theorem one_getD (b : List Nat) (k : Nat) (hk : k < 256) : ((holes.set 0 (padB b)).getD k [] ≠ [] ↔ k = 0) := by
  have e := fAt_set holes 0 (padB b) (by rw [holes_ok.1]; omega) (k : Int)
  rw [fAt_nat, fAt_holes] at e
  rw [e]
  by_cases h : k = 0
  · subst h
    simp [padB_ne]
  · rw [if_neg (by omega)]
    simp [h]

end Go.Proofs.YtaijjogjohbheaaGreat

/- An act done to a store. -/
namespace Go.Proofs.YtaijjogjohbheaaGreat
open Go.RowKit
set_option maxRecDepth 100000
set_option linter.unusedSimpArgs false

/-- What an act answers, and leaves; R is what the document makes of it. -/
def DoP (gd gp gb gr gs k G B N : Nat) (s : Pw) (L b0 : List Nat) (F : List (List Nat)) (A : List (Option (List (List Nat)))) (K : Nat) (R : Nat × List (List Nat) × List (Option (List (List Nat)))) (w : World) (e : Ending) (w' : World) : Prop :=
  ∃ (id : Int) (E : Nat), e = .returned (.tuple #[.int .i64 id, .int .i64 (E : Int)]) ∧
    ((R.1 ≠ 0 ∧ E = R.1 ∧ Below w.heap.size w w') ∨ (K % 4 = 3 ∧ E = 0 ∧ Below w.heap.size w w') ∨
     (R.1 = 0 ∧ K % 4 ≠ 3 ∧ (∃ M, M ≤ N + 1 ∧ ChP gd gp gb gr gs k G B N M s L b0 F A.length (snapsF 1 A) R.2.1 R.2.2.length (snapsF 1 R.2.2) w E w') ∧ (K % 4 = 1 → E = 0 → id = (R.2.2.length : Int))))

theorem lkS_no {F : List (List Nat)} {X : List (Nat × List (List Nat))} {x : Int} (h0 : x ≠ 0) (h : ∀ k, k < X.length → ((X.getD k default).1 : Int) ≠ x) : lkS F X x = none := by
  unfold lkS
  rw [if_neg h0, List.find?_eq_none.2]
  · rfl
  · intro p hp
    obtain ⟨i, hi, rfl⟩ := List.getElem_of_mem hp
    have := h i hi
    rw [show X.getD i default = X[i] by simp [List.getD, hi]] at this
    simpa using this

theorem do_del {F : List (List Nat)} {A : List (Option (List (List Nat)))} {N : Int} {i : Nat} (hok : OkS F A.length (snapsF 1 A)) (hi : i < (snapsF 1 A).length) (hN : (((snapsF 1 A).getD i default).1 : Int) = N) :
    1 ≤ N ∧ lkM F A N ≠ none ∧ snapsF 1 (A.set (N.toNat - 1) none) = (snapsF 1 A).eraseIdx i := by
  have hm : (snapsF 1 A).getD i default ∈ snapsF 1 A := by
    rw [show (snapsF 1 A).getD i default = (snapsF 1 A)[i] by simp [List.getD, hi]]
    exact List.getElem_mem hi
  have h1 := hok.ims _ hm
  have h2 := snapsF_ids 1 A _ hm
  refine ⟨by omega, ?_, ?_⟩
  · rw [← lk_eq, lkS_at hok.inc hi hN (by omega)]; simp
  · rw [snapsF_set_none 1 A _ (by omega), show 1 + (N.toNat - 1) = ((snapsF 1 A).getD i default).1 by omega]
    exact filter_erase hok.inc hi

set_option maxHeartbeats 2000000 in
theorem do0_any (w : World) (gd gp gb gr gs k G B N : Nat) (s : Pw) (L b0 : List Nat) (F : List (List Nat)) (A : List (Option (List (List Nat)))) (h : Ctx w gd gp gb gr gs k G B N s L b0 F A.length (snapsF 1 A)) (_h9 : A.length < 9000)
    (K : Nat) (I J : Int) (ab : Option Addr) (nb cb : Nat) (fl : Bool) (P Z : Int) (x : List Nat) (hr : Rd w ab nb x) (hK : K % 4 = 0) :
    Calls Tryz.prog 11 #[.pointer (some ⟨gs, 0, none⟩), actV K I J ab nb cb fl P Z] w (DoP gd gp gb gr gs k G B N s L b0 F A K (thR (K % 4) I J x F A) w) := by
  have hk1 : (K : Int) % 4 = 0 := by omega
  have hk2 : (K : Int).tmod 4 = 0 := by rw [Int.tmod_eq_emod_of_nonneg (by omega)]; omega
  have HC := Lib.hid h
  have HR := Lib.hid hr
  have HKK := Lib.hid hK
  obtain ⟨R, hR⟩ : ∃ R, R = thR (K % 4) I J x F A := ⟨_, rfl⟩
  rw [← hR]
  rw [hK] at hR
  have HRR := Lib.hid hR
  clear h hr hK hR
  unfold actV
  go_enter Tryz.func11, Tryz.ntmps11
  go_upto_region 1 with fail
  obtain ⟨w1, hw1⟩ : ∃ w1, w1 = w.alloc (actObj K I J ab nb cb fl P Z) := ⟨_, rfl⟩
  obtain ⟨q, hq⟩ : ∃ q, q = w.heap.size := ⟨_, rfl⟩
  change Code.wp _ _ _ _ (w.alloc (actObj K I J ab nb cb fl P Z))
  rw [← hw1, ← hq]
  have HB1 : Hid (Below w.heap.size w w1) := Lib.hid (by rw [hw1]; exact Below.alloc0 _ _)
  have hob1 : w1.heap[q]? = some (actObj K I J ab nb cb fl P Z) := by rw [hw1, hq]; exact heap_alloc_new _ _
  have c0 : w1.cell? ⟨q, 0, none⟩ = some (.int .u8 (K : Int)) := by simp [World.cell?, hob1, actObj]
  have c1 : w1.cell? ⟨q, 1, none⟩ = some (.int .i64 I) := by simp [World.cell?, hob1, actObj]
  have c2 : w1.cell? ⟨q, 2, none⟩ = some (.int .i64 J) := by simp [World.cell?, hob1, actObj]
  have c3 : w1.cell? ⟨q, 3, none⟩ = some (.slice ab nb cb) := by simp [World.cell?, hob1, actObj]
  clear hw1 hq hob1
  have HS := Lib.hid (set_any w1 gd gp gb gr gs k G B N s L b0 F A.length (snapsF 1 A) (HC.out.later HB1.out) I ab nb cb x (HR.out.later HB1.out))
  go_wp2_with fail
  refine HS.out.mono ?_
  rintro e w2 (⟨hc, rfl, hb⟩ | ⟨i0, i1, i2, E, rfl, hch⟩)
  · have HQ : Hid (R = (1, F, A)) := Lib.hid (by rw [HRR.out]; unfold thR; rw [if_pos rfl, if_pos (by rw [HR.out.1]; omega)])
    have HB := Lib.hid hb
    clear hc hb
    go_wp2
    go_ret2
    exact ⟨0, 1, rfl, .inl ⟨by rw [HQ.out]; simp, by rw [HQ.out], HB1.out.trans (HB.out.mono HB1.out.size)⟩⟩
  · have HQ : Hid (R = (0, F.set I.toNat (newB x), A)) := Lib.hid (by rw [HRR.out]; unfold thR; rw [if_pos rfl, if_neg (by rw [HR.out.1]; omega)])
    have HB := Lib.hid hch
    clear hch i0 i1 i2
    go_wp2
    go_ret2
    exact ⟨0, E, rfl, .inr (.inr ⟨by rw [HQ.out], by rw [HKK.out]; omega, ⟨N + 1, Nat.le_refl _, by rw [HQ.out]; exact HB.out.from HB1.out⟩, fun h => by rw [HKK.out] at h; omega⟩)⟩

set_option maxHeartbeats 2000000 in
theorem do1_any (w : World) (gd gp gb gr gs k G B N : Nat) (s : Pw) (L b0 : List Nat) (F : List (List Nat)) (A : List (Option (List (List Nat)))) (h : Ctx w gd gp gb gr gs k G B N s L b0 F A.length (snapsF 1 A)) (h9 : A.length < 9000)
    (K : Nat) (I J : Int) (ab : Option Addr) (nb cb : Nat) (fl : Bool) (P Z : Int) (x : List Nat) (hr : Rd w ab nb x) (hK : K % 4 = 1) :
    Calls Tryz.prog 11 #[.pointer (some ⟨gs, 0, none⟩), actV K I J ab nb cb fl P Z] w (DoP gd gp gb gr gs k G B N s L b0 F A K (thR (K % 4) I J x F A) w) := by
  have hk1 : (K : Int) % 4 = 1 := by omega
  have hk2 : (K : Int).tmod 4 = 1 := by rw [Int.tmod_eq_emod_of_nonneg (by omega)]; omega
  have HC := Lib.hid h
  have HR := Lib.hid hr
  have HKK := Lib.hid hK
  obtain ⟨R, hR⟩ : ∃ R, R = thR (K % 4) I J x F A := ⟨_, rfl⟩
  rw [← hR]
  rw [hK] at hR
  have HRR := Lib.hid hR
  clear h hr hK hR
  unfold actV
  go_enter Tryz.func11, Tryz.ntmps11
  go_upto_region 1 with fail
  obtain ⟨w1, hw1⟩ : ∃ w1, w1 = w.alloc (actObj K I J ab nb cb fl P Z) := ⟨_, rfl⟩
  obtain ⟨q, hq⟩ : ∃ q, q = w.heap.size := ⟨_, rfl⟩
  change Code.wp _ _ _ _ (w.alloc (actObj K I J ab nb cb fl P Z))
  rw [← hw1, ← hq]
  have HB1 : Hid (Below w.heap.size w w1) := Lib.hid (by rw [hw1]; exact Below.alloc0 _ _)
  have hob1 : w1.heap[q]? = some (actObj K I J ab nb cb fl P Z) := by rw [hw1, hq]; exact heap_alloc_new _ _
  have c0 : w1.cell? ⟨q, 0, none⟩ = some (.int .u8 (K : Int)) := by simp [World.cell?, hob1, actObj]
  have c1 : w1.cell? ⟨q, 1, none⟩ = some (.int .i64 I) := by simp [World.cell?, hob1, actObj]
  have c2 : w1.cell? ⟨q, 2, none⟩ = some (.int .i64 J) := by simp [World.cell?, hob1, actObj]
  have c3 : w1.cell? ⟨q, 3, none⟩ = some (.slice ab nb cb) := by simp [World.cell?, hob1, actObj]
  clear hw1 hq hob1
  have HS := Lib.hid (create_any w1 gd gp gb gr gs k G B N s L b0 F A.length (snapsF 1 A) (HC.out.later HB1.out) h9)
  go_wp2_with fail
  refine HS.out.mono ?_
  rintro e w2 (⟨hc, rfl, rfl⟩ | ⟨hc, E, rfl, hch⟩)
  · have HQ : Hid (R = (7, F, A)) := Lib.hid (by rw [HRR.out]; unfold thR; rw [if_neg (by omega), if_pos rfl, if_pos hc])
    clear hc
    go_wp2
    go_ret2
    exact ⟨0, 7, rfl, .inl ⟨by rw [HQ.out]; simp, by rw [HQ.out], HB1.out⟩⟩
  · have HQ : Hid (R = (0, F, A ++ [some F])) := Lib.hid (by rw [HRR.out]; unfold thR; rw [if_neg (by omega), if_pos rfl, if_neg (by omega)])
    have HB := Lib.hid hch
    have HE : Hid (snapsF 1 A ++ [(A.length + 1, F)] = snapsF 1 (A ++ [some F])) := Lib.hid (by rw [snapsF_append]; simp [snapsF, Nat.add_comm])
    obtain ⟨id, hid⟩ : ∃ id : Int, id = if E = 0 then ((A.length + 1 : Nat) : Int) else 0 := ⟨_, rfl⟩
    rw [← hid]
    have HID := Lib.hid hid
    clear hch hc hid
    go_wp2
    go_ret2
    refine ⟨id, E, rfl, .inr (.inr ⟨by rw [HQ.out], by rw [HKK.out]; omega, ⟨N, by omega, ?_⟩, fun _ h => ?_⟩)⟩
    · rw [HQ.out]
      have h1 := HB.out.from HB1.out
      rw [HE.out] at h1
      simpa using h1
    · rw [HQ.out, HID.out, if_pos h]; simp

set_option maxHeartbeats 2000000 in
theorem do2_any (w : World) (gd gp gb gr gs k G B N : Nat) (s : Pw) (L b0 : List Nat) (F : List (List Nat)) (A : List (Option (List (List Nat)))) (h : Ctx w gd gp gb gr gs k G B N s L b0 F A.length (snapsF 1 A)) (_h9 : A.length < 9000)
    (K : Nat) (I J : Int) (ab : Option Addr) (nb cb : Nat) (fl : Bool) (P Z : Int) (x : List Nat) (hr : Rd w ab nb x) (hK : K % 4 = 2) :
    Calls Tryz.prog 11 #[.pointer (some ⟨gs, 0, none⟩), actV K I J ab nb cb fl P Z] w (DoP gd gp gb gr gs k G B N s L b0 F A K (thR (K % 4) I J x F A) w) := by
  have hk1 : (K : Int) % 4 = 2 := by omega
  have hk2 : (K : Int).tmod 4 = 2 := by rw [Int.tmod_eq_emod_of_nonneg (by omega)]; omega
  have HC := Lib.hid h
  have HR := Lib.hid hr
  have HKK := Lib.hid hK
  obtain ⟨R, hR⟩ : ∃ R, R = thR (K % 4) I J x F A := ⟨_, rfl⟩
  rw [← hR]
  rw [hK] at hR
  have HRR := Lib.hid hR
  clear h hr hK hR
  unfold actV
  go_enter Tryz.func11, Tryz.ntmps11
  go_upto_region 1 with fail
  obtain ⟨w1, hw1⟩ : ∃ w1, w1 = w.alloc (actObj K I J ab nb cb fl P Z) := ⟨_, rfl⟩
  obtain ⟨q, hq⟩ : ∃ q, q = w.heap.size := ⟨_, rfl⟩
  change Code.wp _ _ _ _ (w.alloc (actObj K I J ab nb cb fl P Z))
  rw [← hw1, ← hq]
  have HB1 : Hid (Below w.heap.size w w1) := Lib.hid (by rw [hw1]; exact Below.alloc0 _ _)
  have hob1 : w1.heap[q]? = some (actObj K I J ab nb cb fl P Z) := by rw [hw1, hq]; exact heap_alloc_new _ _
  have c0 : w1.cell? ⟨q, 0, none⟩ = some (.int .u8 (K : Int)) := by simp [World.cell?, hob1, actObj]
  have c1 : w1.cell? ⟨q, 1, none⟩ = some (.int .i64 I) := by simp [World.cell?, hob1, actObj]
  have c2 : w1.cell? ⟨q, 2, none⟩ = some (.int .i64 J) := by simp [World.cell?, hob1, actObj]
  have c3 : w1.cell? ⟨q, 3, none⟩ = some (.slice ab nb cb) := by simp [World.cell?, hob1, actObj]
  clear hw1 hq hob1
  have HS := Lib.hid (sdelete_any w1 gd gp gb gr gs k G B N s L b0 F A.length (snapsF 1 A) (HC.out.later HB1.out) J)
  go_wp2_with fail
  refine HS.out.mono ?_
  rintro e w2 (⟨hc, rfl, hb⟩ | ⟨i, hi, hx, E, rfl, hch⟩)
  · have HQ : Hid (R = (6, F, A)) := Lib.hid (by
      rw [HRR.out]; unfold thR; rw [if_neg (by omega), if_neg (by omega), if_pos rfl, if_pos]
      by_cases h0 : J = 0
      · exact .inl h0
      · exact .inr (by rw [← lk_eq]; exact lkS_no h0 hc))
    have HB := Lib.hid hb
    clear hc hb
    go_wp2
    go_ret2
    exact ⟨0, 6, rfl, .inl ⟨by rw [HQ.out]; simp, by rw [HQ.out], HB1.out.trans (HB.out.mono HB1.out.size)⟩⟩
  · have hdd := do_del HC.out.ok hi hx
    have HQ : Hid (R = (0, F, A.set (J.toNat - 1) none)) := Lib.hid (by
      rw [HRR.out]; unfold thR; rw [if_neg (by omega), if_neg (by omega), if_pos rfl, if_neg]
      rintro (h | h)
      · omega
      · exact hdd.2.1 h)
    have HE := Lib.hid hdd.2.2
    have HB := Lib.hid hch
    clear hch hi hx hdd
    go_wp2
    go_ret2
    refine ⟨0, E, rfl, .inr (.inr ⟨by rw [HQ.out], by rw [HKK.out]; omega, ⟨N, by omega, ?_⟩, fun h => by rw [HKK.out] at h; omega⟩)⟩
    rw [HQ.out]
    have h1 := HB.out.from HB1.out
    rw [← HE.out] at h1
    simpa using h1

set_option maxHeartbeats 2000000 in
theorem do3_any (w : World) (gd gp gb gr gs k G B N : Nat) (s : Pw) (L b0 : List Nat) (F : List (List Nat)) (A : List (Option (List (List Nat)))) (h : Ctx w gd gp gb gr gs k G B N s L b0 F A.length (snapsF 1 A)) (_h9 : A.length < 9000)
    (K : Nat) (I J : Int) (ab : Option Addr) (nb cb : Nat) (fl : Bool) (P Z : Int) (x : List Nat) (hr : Rd w ab nb x) (hK : K % 4 = 3) :
    Calls Tryz.prog 11 #[.pointer (some ⟨gs, 0, none⟩), actV K I J ab nb cb fl P Z] w (DoP gd gp gb gr gs k G B N s L b0 F A K (thR (K % 4) I J x F A) w) := by
  have hk1 : (K : Int) % 4 = 3 := by omega
  have hk2 : (K : Int).tmod 4 = 3 := by rw [Int.tmod_eq_emod_of_nonneg (by omega)]; omega
  have HC := Lib.hid h
  have HR := Lib.hid hr
  have HKK := Lib.hid hK
  obtain ⟨R, hR⟩ : ∃ R, R = thR (K % 4) I J x F A := ⟨_, rfl⟩
  rw [← hR]
  rw [hK] at hR
  have HRR := Lib.hid hR
  clear h hr hK hR
  unfold actV
  go_enter Tryz.func11, Tryz.ntmps11
  go_upto_region 1 with fail
  obtain ⟨w1, hw1⟩ : ∃ w1, w1 = w.alloc (actObj K I J ab nb cb fl P Z) := ⟨_, rfl⟩
  obtain ⟨q, hq⟩ : ∃ q, q = w.heap.size := ⟨_, rfl⟩
  change Code.wp _ _ _ _ (w.alloc (actObj K I J ab nb cb fl P Z))
  rw [← hw1, ← hq]
  have HB1 : Hid (Below w.heap.size w w1) := Lib.hid (by rw [hw1]; exact Below.alloc0 _ _)
  have hob1 : w1.heap[q]? = some (actObj K I J ab nb cb fl P Z) := by rw [hw1, hq]; exact heap_alloc_new _ _
  have c0 : w1.cell? ⟨q, 0, none⟩ = some (.int .u8 (K : Int)) := by simp [World.cell?, hob1, actObj]
  have c1 : w1.cell? ⟨q, 1, none⟩ = some (.int .i64 I) := by simp [World.cell?, hob1, actObj]
  have c2 : w1.cell? ⟨q, 2, none⟩ = some (.int .i64 J) := by simp [World.cell?, hob1, actObj]
  have c3 : w1.cell? ⟨q, 3, none⟩ = some (.slice ab nb cb) := by simp [World.cell?, hob1, actObj]
  clear hw1 hq hob1
  go_wp2
  go_ret2
  exact ⟨0, 0, rfl, .inr (.inl ⟨HKK.out, rfl, HB1.out⟩)⟩

theorem do_any (w : World) (gd gp gb gr gs k G B N : Nat) (s : Pw) (L b0 : List Nat) (F : List (List Nat)) (A : List (Option (List (List Nat)))) (h : Ctx w gd gp gb gr gs k G B N s L b0 F A.length (snapsF 1 A)) (h9 : A.length < 9000)
    (K : Nat) (I J : Int) (ab : Option Addr) (nb cb : Nat) (fl : Bool) (P Z : Int) (x : List Nat) (hr : Rd w ab nb x) :
    Calls Tryz.prog 11 #[.pointer (some ⟨gs, 0, none⟩), actV K I J ab nb cb fl P Z] w (DoP gd gp gb gr gs k G B N s L b0 F A K (thR (K % 4) I J x F A) w) := by
  have h4 : K % 4 = 0 ∨ K % 4 = 1 ∨ K % 4 = 2 ∨ K % 4 = 3 := by omega
  rcases h4 with hk | hk | hk | hk
  · exact do0_any w gd gp gb gr gs k G B N s L b0 F A h h9 K I J ab nb cb fl P Z x hr hk
  · exact do1_any w gd gp gb gr gs k G B N s L b0 F A h h9 K I J ab nb cb fl P Z x hr hk
  · exact do2_any w gd gp gb gr gs k G B N s L b0 F A h h9 K I J ab nb cb fl P Z x hr hk
  · exact do3_any w gd gp gb gr gs k G B N s L b0 F A h h9 K I J ab nb cb fl P Z x hr hk

end Go.Proofs.YtaijjogjohbheaaGreat

/- Is a store the document's: how far both have agreed. -/
namespace Go.Proofs.YtaijjogjohbheaaGreat
open Go.RowKit
set_option maxRecDepth 100000
set_option linter.unusedSimpArgs false

/-- The first j numbers have agreed, k snapshots among them. -/
def SmI (F F' : List (List Nat)) (A : List (Option (List (List Nat)))) (X' : List (Nat × List (List Nat))) (j k : Nat) : Prop :=
  (1 ≤ j → F' = F) ∧ X'.take k = snapsF 1 (A.take (j - 1)) ∧ k = (snapsF 1 (A.take (j - 1))).length

variable {F F' G : List (List Nat)} {A : List (Option (List (List Nat)))} {X' : List (Nat × List (List Nat))} {j k : Nat}

theorem sm_zero : SmI F F' A X' 0 0 := ⟨fun h => absurd h (by omega), by simp [snapsF], by simp [snapsF]⟩

theorem sm_first (h : SmI F F' A X' 0 k) (e : F' = F) : SmI F F' A X' (0 + 1) k := ⟨fun _ => e, h.2.1, h.2.2⟩

theorem take_at {i : Nat} (hi : i < A.length) {o : Option (List (List Nat))} (ho : A.getD i none = o) : A.take (i + 1) = A.take i ++ [o] := by
  rw [List.take_add_one, List.getElem?_eq_getElem hi]
  rw [List.getD, List.getElem?_eq_getElem hi] at ho
  rw [← ho]
  rfl

theorem sm_none (h : SmI F F' A X' j k) (h1 : 1 ≤ j) (hj : j ≤ A.length) (ho : A.getD (j - 1) none = none) : SmI F F' A X' (j + 1) k := by
  obtain ⟨i, rfl⟩ : ∃ i, j = i + 1 := ⟨j - 1, by omega⟩
  obtain ⟨h2, h3, h4⟩ := h
  simp only [Nat.add_sub_cancel] at h3 h4 ho
  have e : snapsF 1 (A.take (i + 1)) = snapsF 1 (A.take i) := by
    rw [take_at (by omega) ho, snapsF_append]
    simp [snapsF]
  refine ⟨fun _ => h2 (by omega), ?_, ?_⟩
  · rw [Nat.add_sub_cancel, e]; exact h3
  · rw [Nat.add_sub_cancel, e]; exact h4

theorem snaps_take {i : Nat} (hi : i < A.length) (ho : A.getD i none = some G) : snapsF 1 (A.take (i + 1)) = snapsF 1 (A.take i) ++ [(i + 1, G)] := by
  rw [take_at hi ho, snapsF_append]
  simp only [snapsF, List.length_take]
  rw [Nat.min_eq_left (by omega), Nat.add_comm 1 i]

theorem snaps_split {i : Nat} (hi : i < A.length) (ho : A.getD i none = some G) : ∃ R, snapsF 1 A = snapsF 1 (A.take i) ++ (i + 1, G) :: R := by
  refine ⟨snapsF (1 + (A.take (i + 1)).length) (A.drop (i + 1)), ?_⟩
  have e := snapsF_append 1 (A.take (i + 1)) (A.drop (i + 1))
  rw [List.take_append_drop, snaps_take hi ho] at e
  rw [e]
  simp

theorem sm_some (h : SmI F F' A X' j k) (h1 : 1 ≤ j) (hj : j ≤ A.length) (ho : A.getD (j - 1) none = some G) (hk : k < X'.length) (hid : (X'.map (·.1)).getD k 0 = j) (hlk : lkS F' X' (j : Int) = some G) (hinc : X'.Pairwise fun p q => p.1 < q.1) : SmI F F' A X' (j + 1) (k + 1) := by
  obtain ⟨i, rfl⟩ : ∃ i, j = i + 1 := ⟨j - 1, by omega⟩
  obtain ⟨h2, h3, h4⟩ := h
  simp only [Nat.add_sub_cancel] at h3 h4 ho
  have hx : X'.getD k default = X'[k] := by simp [List.getD, hk]
  have hid' : X'[k].1 = i + 1 := by
    rw [← hid, List.getD, List.getElem?_map, List.getElem?_eq_getElem hk]
    rfl
  have h5 := lkS_at (F := F') hinc hk (x := ((i + 1 : Nat) : Int)) (by rw [hx, hid']) (by omega)
  rw [hlk, hx] at h5
  injection h5 with h5
  have hx2 : X'[k] = (i + 1, G) := by rw [h5, ← hid']
  have e := snaps_take (by omega) ho
  refine ⟨fun _ => h2 (by omega), ?_, ?_⟩
  · rw [Nat.add_sub_cancel, e, List.take_add_one, h3, List.getElem?_eq_getElem hk, hx2]
    rfl
  · rw [Nat.add_sub_cancel, e, List.length_append, ← h4]
    rfl

theorem sm_no1 (h : SmI F F' A X' j k) (h1 : 1 ≤ j) (hj : j ≤ A.length) (ho : A.getD (j - 1) none = some G) (hk : X'.length ≤ k) : ¬ X' = snapsF 1 A := by
  obtain ⟨i, rfl⟩ : ∃ i, j = i + 1 := ⟨j - 1, by omega⟩
  obtain ⟨h2, h3, h4⟩ := h
  simp only [Nat.add_sub_cancel] at h3 h4 ho
  obtain ⟨R, hR⟩ := snaps_split (by omega) ho
  intro e
  have := congrArg List.length e
  rw [hR, List.length_append, List.length_cons, ← h4] at this
  omega

theorem sm_no2 (h : SmI F F' A X' j k) (h1 : 1 ≤ j) (hj : j ≤ A.length) (ho : A.getD (j - 1) none = some G) (hid : (X'.map (·.1)).getD k 0 ≠ j) : ¬ X' = snapsF 1 A := by
  obtain ⟨i, rfl⟩ : ∃ i, j = i + 1 := ⟨j - 1, by omega⟩
  obtain ⟨h2, h3, h4⟩ := h
  simp only [Nat.add_sub_cancel] at h3 h4 ho
  obtain ⟨R, hR⟩ := snaps_split (by omega) ho
  intro e
  refine hid ?_
  rw [e, hR, h4, List.getD, List.map_append, List.getElem?_append_right (by simp)]
  simp

theorem sm_end (h : SmI F F' A X' (A.length + 1) k) : F' = F ∧ (k = X'.length ↔ X' = snapsF 1 A) := by
  obtain ⟨h2, h3, h4⟩ := h
  simp only [Nat.add_sub_cancel, List.take_length] at h3 h4
  refine ⟨h2 (by omega), fun e => ?_, fun e => ?_⟩
  · rw [← h3, e, List.take_length]
  · rw [h4, ← e]

theorem sm_le (h : SmI F F' A X' j k) : k ≤ X'.length := by
  have := congrArg List.length h.2.1
  rw [← h.2.2, List.length_take] at this
  omega

theorem lkM_pos {j : Nat} (h1 : 1 ≤ j) : lkM F A (j : Int) = A.getD (j - 1) none := by
  unfold lkM
  rw [if_neg (by omega), if_neg (by omega), Int.toNat_natCast]
  obtain ⟨i, rfl⟩ : ∃ i, j = i + 1 := ⟨j - 1, by omega⟩
  rfl

theorem lkM_past {x : Int} (h : x = -1 ∨ x = ((A.length + 1 : Nat) : Int)) : lkM F A x = none := by
  unfold lkM
  rw [if_neg (by omega)]
  split
  · rfl
  · rw [List.getD, List.getElem?_eq_none (by simp; omega)]; rfl

theorem lkS_neg : lkS F' X' (-1) = none := by
  unfold lkS
  rw [if_neg (by omega), List.find?_eq_none.2 (by intro p _; simp)]
  rfl

end Go.Proofs.YtaijjogjohbheaaGreat
