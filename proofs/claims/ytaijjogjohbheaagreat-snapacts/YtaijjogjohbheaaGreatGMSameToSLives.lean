/- Is a store the document's: Same decides. -/
import Derived.Test.YtaijjogjohbheaaGreatGMDiffToMSmI
import Derived.Test.YtaijjogjohbheaaGreatSLike
namespace Go.Proofs.YtaijjogjohbheaaGreat
open Go.RowKit
set_option maxRecDepth 100000
set_option linter.unusedSimpArgs false

theorem RdN.cell {w w' : World} {a : Option Addr} {n k : Nat} {L : List Nat} (h : RdN w a n L) (hb : Below w.heap.size w w') (hk : k < n) : ∃ b o, a = some ⟨b, o, none⟩ ∧ w'.cell? ⟨b, o + k, none⟩ = some (.int .i64 ((L.getD k 0 : Nat) : Int)) := by
  obtain ⟨b, o, ha, hc⟩ := (h.later hb).2 (by omega)
  exact ⟨b, o, ha, hc k hk⟩

set_option maxHeartbeats 8000000 in
theorem msame_any (w : World) (V V' : List Nat) (gm gs gr N last : Nat) (F F' : List (List Nat)) (A : List (Option (List (List Nat)))) (X' : List (Nat × List (List Nat))) (room : Nat) (h : Mod w V gm F A room) (hs : Sto w V' N gs gr F' last X') (hok : OkS F' last X') (hA : A.length ≤ 100) (hN : N < 100000) :
    Calls Tryz.prog 14 #[.pointer (some ⟨gm, 0, none⟩), .pointer (some ⟨gs, 0, none⟩)] w fun e w' => e = .returned (.bool (decide (F' = F ∧ X' = snapsF 1 A))) ∧ Below w.heap.size w w' := by
  have HL := Lib.hid (list_any w V' N gs gr last F' X' hs hok)
  have HI : Hid (∀ (j : Int) W, Below w.heap.size w W → Calls Tryz.prog 29 #[.pointer (some ⟨gm, 0, none⟩), .int .i64 j] W fun e w' => e = .returned (imgAns (lkM F A j)) ∧ Below W.heap.size W w') := Lib.hid fun j W hW => mimage_any W V gm F A room j (h.later hW) (by omega)
  have HS : Hid (∀ (x : Int) W, Below w.heap.size w W → Calls Tryz.prog 18 #[.pointer (some ⟨gs, 0, none⟩), .int .i64 x] W (ImP W N (lkS F' X' x))) := Lib.hid fun x W hW => image_any W V' N gs gr last F' X' x (hs.later hW) hok hN
  have HOK := Lib.hid hok
  have HMO := Lib.hid h.ok
  obtain ⟨am, nm, cm, U, hm1, hm2, hcap, hst, hU, _⟩ := h
  have hnm : nm = A.length + 1 := by
    have h1 := congrArg List.length hU
    have h2 : U.length = nm := hst.1
    rw [List.length_map, h2, List.length_cons] at h1
    exact h1
  have HNM := Lib.hid hnm
  have hnm2 : nm ≤ 101 := by omega
  have HRow : Hid (∀ W, Below w.heap.size w W → W.cell? ⟨gm, 256, none⟩ = some (.slice am nm cm)) := Lib.hid fun W hW => mod_row ((hW.block gm (lt_of_block hm1)).trans hm1) hm2.1
  have HFIN : Hid (∀ k, SmI F F' A X' nm k → decide (F' = F ∧ X' = snapsF 1 A) = decide (k = X'.length)) := Lib.hid fun k hk => by
    rw [hnm] at hk
    have h1 := sm_end hk
    exact decide_eq_decide.2 ⟨fun e => h1.2.2 e.2, fun e => ⟨h1.1, h1.2.1 e⟩⟩
  have HNEQ : Hid (∀ j : Int, lkS F' X' j ≠ lkM F A j → decide (F' = F ∧ X' = snapsF 1 A) = false) := Lib.hid fun j hj => decide_eq_false fun e => hj (by rw [e.1, e.2, lk_eq])
  have HNX : Hid (¬ X' = snapsF 1 A → decide (F' = F ∧ X' = snapsF 1 A) = false) := Lib.hid fun h => decide_eq_false fun e => h e.2
  have HPAST : Hid (∀ k, k = X'.length → SmI F F' A X' nm k → lkS F' X' (nm : Int) = none) := Lib.hid fun k e hk => by
    rw [hnm] at hk ⊢
    have h1 := sm_end hk
    rw [h1.1, h1.2.1 e, lk_eq]
    exact lkM_past (.inr rfl)
  obtain ⟨R, hR⟩ : ∃ R, R = decide (F' = F ∧ X' = snapsF 1 A) := ⟨_, rfl⟩
  rw [← hR] at HFIN HNEQ HNX ⊢
  clear hs hok hm1 hm2 hst hU hnm hcap hR
  go_enter Tryz.func14, Tryz.ntmps14
  go_wp2_with fail
  refine HL.out.mono ?_
  rintro e w2 ⟨al, cl, rfl, hrd, hb2⟩
  have HRD := Lib.hid hrd
  have HB2 := Lib.hid hb2
  obtain ⟨m, hm⟩ : ∃ m, m = X'.length := ⟨_, rfl⟩
  rw [← hm] at HRD ⊢
  have HMm := Lib.hid hm
  have hm32 : m ≤ 32 := by rw [hm]; exact HOK.out.few
  have x256 := HRow.out w2 HB2.out
  clear hrd hb2 HL hm
  go_wp2
  go_loopg [5, 23] nm (fun gk kv iv wr => ∃ j k : Nat, gk = nm - j ∧ j ≤ nm ∧ kv = .int .i64 (k : Int) ∧ iv = .int .i64 (j : Int) ∧ k ≤ m ∧ Hid (Below w2.heap.size w2 wr) ∧ Hid (SmI F F' A X' j k))
  case atStart => exact ⟨0, 0, rfl, by omega, rfl, rfl, by omega, Lib.hid (Below.refl _ _), Lib.hid sm_zero⟩
  case round =>
    obtain ⟨j, k, hgk, hj, rfl, rfl, hk, HB, HSM⟩ := hrel
    have HGK := Lib.hid hgk
    have HBw : Hid (Below w.heap.size w wr) := Lib.hid (HB2.out.trans (HB.out.mono HB2.out.size))
    clear hgk
    by_cases hlt : j < nm
    · have hlt' : (j : Int) < (nm : Int) := by omega
      obtain ⟨o, ho⟩ : ∃ o, o = lkM F A (j : Int) := ⟨_, rfl⟩
      obtain ⟨o', ho'⟩ : ∃ o, o = lkS F' X' (j : Int) := ⟨_, rfl⟩
      have HI1 := Lib.hid (HI.out (j : Int) wr HBw.out)
      have HS1 := Lib.hid (HS.out (j : Int))
      have HNE := Lib.hid (HNEQ.out (j : Int))
      rw [← ho] at HI1
      rw [← ho'] at HS1
      rw [← ho, ← ho'] at HNE
      have HO := Lib.hid ho
      have HO' := Lib.hid ho'
      clear ho ho'
      obtain ⟨Y, hY⟩ : ∃ Y, Y = o.getD (List.replicate 256 []) := ⟨_, rfl⟩
      obtain ⟨p, hp⟩ : ∃ p, p = o.isSome := ⟨_, rfl⟩
      have HYl : Hid (Y.length = 256) := Lib.hid (by
        rw [hY]
        cases h : o with
        | none => exact List.length_replicate
        | some G => exact (lkM_ok HMO.out.1 HMO.out.2 (HO.out.symm.trans h)).1)
      have HYe := Lib.hid hY
      have HPe := Lib.hid hp
      unfold imgAns imgV at HI1
      rw [← hY, ← hp] at HI1
      clear hY hp
      go_wp2_with fail
      refine HI1.out.mono ?_
      rintro e w3 ⟨rfl, hb3⟩
      have HB3 : Hid (Below w2.heap.size w2 w3) := Lib.hid (HB.out.trans (hb3.mono HB.out.size))
      obtain ⟨g8, hg8⟩ : ∃ g, g = w3.heap.size := ⟨_, rfl⟩
      clear hb3 HI1
      go_wp2_with (refine wpList_store_img rfl (.tmp 8) (.tmp 30) rfl w3.heap.size (List.replicate 256 []) Y rfl rfl (heap_alloc_last _ _) List.length_replicate HYl.out ?_; intro w5 H5)
      have HB35 : Hid (Below w3.heap.size w3 w5) := (by rw [H5.out]; exact Lib.hid ((Below.alloc0 _ _).trans (put_below _ (Nat.le_refl _))))
      have HB5 : Hid (Below w2.heap.size w2 w5) := Lib.hid (HB3.out.trans (HB35.out.mono HB3.out.size))
      have HA5 : Hid (w5.heap[g8]? = some (arrObj Y)) := (by rw [H5.out, hg8]; exact Lib.hid (put_same (heap_alloc_last _ _)))
      rw [← hg8]
      clear H5 hg8 HB35 HB3
      refine (HS1.out w5 (HB2.out.trans (HB5.out.mono HB2.out.size))).mono ?_
      rintro e w6 ⟨hb6, hcase⟩
      have HB6 : Hid (Below w2.heap.size w2 w6) := Lib.hid (HB5.out.trans (hb6.mono HB5.out.size))
      have HA6 : Hid (w6.heap[g8]? = some (arrObj Y)) := Lib.hid ((hb6.block g8 (lt_of_block HA5.out)).trans HA5.out)
      have HBW6 : Hid (Below w.heap.size w w6) := Lib.hid (HB2.out.trans (HB6.out.mono HB2.out.size))
      clear hb6 HS1
      rcases hcase with ⟨h0, rfl⟩ | ⟨G', g', b', n', h0, hn', rfl, _, _, hI⟩
      · have H0 := Lib.hid h0
        clear h0
        cases p with
        | true =>
          have HF : Hid (R = false) := Lib.hid (HNE.out (by rw [H0.out]; intro e; have := HPe.out; rw [← e] at this; cases this))
          go_wp2
          go_ret
          exact ⟨by rw [HF.out]; rfl, HBW6.out⟩
        | false =>
          have HON : Hid (o = none) := Lib.hid (by cases h : o with
            | none => rfl
            | some G => have := HPe.out; rw [h] at this; cases this)
          have HJ1 : Hid (1 ≤ j) := Lib.hid (by
            rcases Nat.lt_or_ge j 1 with h | h
            · exfalso
              have h1 := HO.out
              rw [HON.out, show j = 0 by omega] at h1
              simp [lkM] at h1
            · exact h)
          have HNX2 := Lib.hid (sm_none HSM.out HJ1.out (by have := HNM.out; omega) (by have h1 := HO.out; rw [HON.out, lkM_pos HJ1.out] at h1; exact h1.symm))
          go_wp2
          go_roundg (nm - (j + 1))
          case measure => have := HGK.out; omega
          case rel => exact ⟨j + 1, k, rfl, by omega, rfl, by go_num, hk, HB6, HNX2⟩
      · have H0 := Lib.hid h0
        have HIm := Lib.hid hI
        clear h0 hI hn'
        cases p with
        | false =>
          have HF : Hid (R = false) := Lib.hid (HNE.out (by rw [H0.out]; intro e; have := HPe.out; rw [← e] at this; cases this))
          go_wp2
          go_ret
          exact ⟨by rw [HF.out]; rfl, HBW6.out⟩
        | true =>
          have HON : Hid (o = some Y) := Lib.hid (by
            have h1 := HPe.out
            have h2 := HYe.out
            cases h : o with
            | none => rw [h] at h1; cases h1
            | some G => rw [h] at h2; rw [h2]; rfl)
          have HYO : Hid (okF Y) := Lib.hid (lkM_ok HMO.out.1 HMO.out.2 (HO.out.symm.trans HON.out))
          have HLK := Lib.hid (like_dec w6 g' b' n' G' Y HIm.out HYO.out)
          obtain ⟨D, hD⟩ : ∃ D, D = decide (G' = Y) := ⟨_, rfl⟩
          rw [← hD] at HLK
          have HD := Lib.hid hD
          clear hD
          go_wp2_with (refine wpList_load_img rfl (.tmp 8) rfl g8 Y rfl HA6.out HYl.out ?_)
          refine HLK.out.mono ?_
          rintro e w7 ⟨rfl, hb7⟩
          have HB7 : Hid (Below w2.heap.size w2 w7) := Lib.hid (HB6.out.trans (hb7.mono HB6.out.size))
          have HBW7 : Hid (Below w.heap.size w w7) := Lib.hid (HB2.out.trans (HB7.out.mono HB2.out.size))
          clear hb7 HLK
          cases D with
          | false =>
            have HF : Hid (R = false) := Lib.hid (HNE.out (by
              rw [H0.out, HON.out]
              intro e
              injection e with e
              exact of_decide_eq_false HD.out.symm e))
            go_wp2
            go_ret
            exact ⟨by rw [HF.out]; rfl, HBW7.out⟩
          | true =>
            have HGY : Hid (G' = Y) := Lib.hid (of_decide_eq_true HD.out.symm)
            by_cases j0 : j = 0
            · subst j0
              have HNX2 := Lib.hid (sm_first HSM.out (by
                have h1 := HO.out
                have h2 := HO'.out
                rw [HON.out] at h1
                rw [H0.out, HGY.out] at h2
                simp [lkM] at h1
                simp [lkS] at h2
                rw [← h2, h1]))
              go_wp2
              go_roundg (nm - (0 + 1))
              case measure => have := HGK.out; omega
              case rel => exact ⟨0 + 1, k, rfl, by omega, rfl, by go_num, hk, HB7, HNX2⟩
            · have hj0 : (0 : Int) < (j : Int) := by omega
              have HAt : Hid (A.getD (j - 1) none = some Y) := Lib.hid (by have h1 := HO.out; rw [HON.out, lkM_pos (by omega)] at h1; exact h1.symm)
              by_cases hkm : m ≤ k
              · have hkm' : (m : Int) ≤ (k : Int) := by omega
                have HF : Hid (R = false) := Lib.hid (HNX.out (sm_no1 HSM.out (by omega) (by have := HNM.out; omega) HAt.out (by have := HMm.out; omega)))
                go_wp2
                go_ret
                exact ⟨by rw [HF.out]; rfl, HBW7.out⟩
              · have hkm' : ¬ (m : Int) ≤ (k : Int) := by omega
                have hkm2 : k < m := by omega
                obtain ⟨bl, ol, ha, hcl⟩ := HRD.out.cell HB7.out hkm2
                obtain ⟨q, hq⟩ : ∃ q, q = (X'.map (·.1)).getD k 0 := ⟨_, rfl⟩
                rw [← hq] at hcl
                have HQ := Lib.hid hq
                subst ha
                clear hq
                by_cases hqj : q = j
                · subst hqj
                  have HNX2 := Lib.hid (sm_some HSM.out (by omega) (by have := HNM.out; omega) HAt.out (by have := HMm.out; omega) HQ.out.symm (by rw [← HO'.out, H0.out, HGY.out]) HOK.out.inc)
                  go_wp2
                  go_roundg (nm - (q + 1))
                  case measure => have := HGK.out; omega
                  case rel => exact ⟨q + 1, k + 1, rfl, by omega, by go_num, by go_num, by omega, HB7, HNX2⟩
                · have hqj' : ¬ (q : Int) = (j : Int) := by omega
                  have HF : Hid (R = false) := Lib.hid (HNX.out (sm_no2 HSM.out (by omega) (by have := HNM.out; omega) HAt.out (by rw [← HQ.out]; exact hqj)))
                  clear hqj
                  go_wp2
                  go_ret
                  exact ⟨by rw [HF.out]; rfl, HBW7.out⟩
    · obtain rfl : j = nm := by omega
      have y256 := HRow.out wr HBw.out
      have HS1 := Lib.hid (HS.out (j : Int) wr HBw.out)
      have HS2 : Hid (∀ W, Below w.heap.size w W → Calls Tryz.prog 18 #[.pointer (some ⟨gs, 0, none⟩), .int .i64 (-1)] W (ImP W N none)) := Lib.hid fun W hW => by
        have h1 := HS.out (-1) W hW
        rw [lkS_neg] at h1
        exact h1
      obtain ⟨o', ho'⟩ : ∃ o, o = lkS F' X' (j : Int) := ⟨_, rfl⟩
      rw [← ho'] at HS1
      have HF : Hid (R = decide (k = m)) := Lib.hid (by rw [HFIN.out k HSM.out, HMm.out])
      have HON : Hid (k = m → o' = none) := Lib.hid fun e => by rw [ho']; exact HPAST.out k (by rw [e, HMm.out]) HSM.out
      clear ho'
      go_wp2_with fail
      refine HS1.out.mono ?_
      rintro e w3 ⟨hb3, hcase⟩
      have HB3 : Hid (Below w.heap.size w w3) := Lib.hid (HBw.out.trans (hb3.mono HBw.out.size))
      clear hb3 HS1
      rcases hcase with ⟨h0, rfl⟩ | ⟨G', g', b', n', h0, hn', rfl, _, _, hI⟩
      · clear h0
        go_wp2_with fail
        refine (HS2.out w3 HB3.out).mono ?_
        rintro e w4 ⟨hb4, hcase⟩
        have HB4 : Hid (Below w.heap.size w w4) := Lib.hid (HB3.out.trans (hb4.mono HB3.out.size))
        clear hb4
        rcases hcase with ⟨_, rfl⟩ | ⟨_, _, _, _, h, _⟩
        · by_cases hkm : k = m
          · have HR : Hid (R = true) := Lib.hid (by rw [HF.out]; exact decide_eq_true hkm)
            have hkm' : (k : Int) = (m : Int) := by omega
            clear hkm
            go_wp2
            go_ret
            exact ⟨by rw [HR.out]; rfl, HB4.out⟩
          · have HR : Hid (R = false) := Lib.hid (by rw [HF.out]; exact decide_eq_false hkm)
            have hkm' : ¬ (k : Int) = (m : Int) := by omega
            clear hkm
            go_wp2
            go_ret
            exact ⟨by rw [HR.out]; rfl, HB4.out⟩
        · cases h
      · have hkm : ¬ k = m := fun e => by have h1 := HON.out e; rw [h0] at h1; cases h1
        have HR : Hid (R = false) := Lib.hid (by rw [HF.out]; exact decide_eq_false hkm)
        have hkm' : ¬ (k : Int) = (m : Int) := by omega
        clear hkm h0 hI hn'
        go_wp2_with fail
        refine (HS2.out w3 HB3.out).mono ?_
        rintro e w4 ⟨hb4, hcase⟩
        have HB4 : Hid (Below w.heap.size w w4) := Lib.hid (HB3.out.trans (hb4.mono HB3.out.size))
        clear hb4
        rcases hcase with ⟨_, rfl⟩ | ⟨_, _, _, _, h, _⟩
        · go_wp2
          go_ret
          exact ⟨by rw [HR.out]; rfl, HB4.out⟩
        · cases h

end Go.Proofs.YtaijjogjohbheaaGreat

/- For SnapActs: power planned, power back, what an act makes of the list. -/
namespace Go.Proofs.YtaijjogjohbheaaGreat
open Go.RowKit
set_option maxRecDepth 100000
set_option linter.unusedSimpArgs false

theorem Ctx.pow {w w' : World} {gd gp gb gr gs k G B N : Nat} {s s' : Pw} {L b0 : List Nat} {F : List (List Nat)} {last : Nat} {X : List (Nat × List (List Nat))} (h : Ctx w gd gp gb gr gs k G B N s L b0 F last X) (hd : Dsk w' gd gp gb s' L k) (hs : Save [gp] w w') (ho : s'.on = true) (hw : s'.within B) : Ctx w' gd gp gb gr gs k G B N s' L b0 F last X :=
  ⟨(hs.block gr (lt_of_block h.root) (by have := h.ne; simp; omega)).trans h.root, hd, h.ne, h.gsn, h.inv, ho, hw, h.sto.save hs (by simp) (by have := h.gsn; simp; omega), h.ok, h.k4, h.k1, h.gl, h.bl, h.nl⟩

theorem thR_len (k : Nat) (I N : Int) (x : List Nat) (F : List (List Nat)) (A : List (Option (List (List Nat)))) : (thR k I N x F A).2.2.length ≤ A.length + 1 := by
  unfold thR
  split
  · split <;> simp
  · split
    · split <;> simp
    · split
      · split <;> simp
      · simp

/-- Where nothing can be told apart, the last number is the same, too. -/
theorem thR_same (k : Nat) (I N : Int) (x : List Nat) (F : List (List Nat)) (A : List (Option (List (List Nat)))) (h : snapsF 1 (thR k I N x F A).2.2 = snapsF 1 A) : (thR k I N x F A).2.2.length = A.length := by
  by_cases h0 : k = 0
  · unfold thR
    rw [if_pos h0]
    split <;> rfl
  · by_cases h1 : k = 1
    · unfold thR at h ⊢
      rw [if_neg h0, if_pos h1] at h ⊢
      by_cases hc : 32 ≤ (snapsF 1 A).length
      · rw [if_pos hc]
      · exfalso
        rw [if_neg hc] at h
        simp only [snapsF_append] at h
        have := congrArg List.length h
        simp [snapsF] at this
    · unfold thR
      rw [if_neg h0, if_neg h1]
      split
      · split <;> simp
      · rfl

theorem thR_three (I N : Int) (x : List Nat) (F : List (List Nat)) (A : List (Option (List (List Nat)))) : thR 3 I N x F A = (0, F, A) := by
  unfold thR; rw [if_neg (by omega), if_neg (by omega), if_neg (by omega)]

end Go.Proofs.YtaijjogjohbheaaGreat

/- For SnapActs: what Then and an act answer, told in one form. -/
namespace Go.Proofs.YtaijjogjohbheaaGreat
open Go.RowKit
set_option maxRecDepth 100000
set_option linter.unusedSimpArgs false

theorem thP_out {w w' : World} {V : List Nat} {room : Nat} {R : Nat × List (List Nat) × List (Option (List (List Nat)))} {e : Ending} (h : ThP w V room R.1 R.2.1 R.2.2 e w') :
    Below w.heap.size w w' ∧ ∃ (p : Option Addr) (Wn : Nat), e = .returned (.tuple #[.pointer p, .int .i64 (Wn : Int)]) ∧
      ((R.1 ≠ 0 ∧ Wn = R.1) ∨ (R.1 = 0 ∧ room < (sEnc R.2.1 R.2.2.length (snapsF 1 R.2.2)).length ∧ Wn = 7) ∨
       (R.1 = 0 ∧ (sEnc R.2.1 R.2.2.length (snapsF 1 R.2.2)).length ≤ room ∧ Wn = 0 ∧ ∃ gx, p = some ⟨gx, 0, none⟩ ∧ w.heap.size ≤ gx ∧ Mod w' V gx R.2.1 R.2.2 room)) := by
  obtain ⟨hb, h | h | h⟩ := h
  · exact ⟨hb, none, R.1, h.2, .inl ⟨h.1, rfl⟩⟩
  · refine ⟨hb, none, 7, h.2.2, .inr (.inl ⟨h.1, ?_, rfl⟩)⟩
    have := of_decide_eq_false h.2.1
    omega
  · obtain ⟨h1, h2, gx, h3, h4, h5⟩ := h
    exact ⟨hb, _, 0, h3, .inr (.inr ⟨h1, of_decide_eq_true h2, rfl, gx, rfl, h4, h5⟩)⟩

/-- What an act answers, and leaves, by its outcome. -/
def OutP (gd gp gb gr gs k G B N : Nat) (b0 : List Nat) (F : List (List Nat)) (A : List (Option (List (List Nat)))) (K : Nat) (R : Nat × List (List Nat) × List (Option (List (List Nat)))) (id : Int) (E : Nat) (s2 : Pw) (L2 : List Nat) (w' : World) : Prop :=
  (s2.on = true ∧ E = R.1 ∧ (R.1 ≠ 0 ∨ K % 4 = 3) ∧ Ctx w' gd gp gb gr gs k G B N s2 L2 b0 F A.length (snapsF 1 A)) ∨
  (s2.on = true ∧ R.1 = 0 ∧ K % 4 ≠ 3 ∧ E = 0 ∧ (sEnc R.2.1 R.2.2.length (snapsF 1 R.2.2)).length ≤ 64 * sect k ∧ (∃ M, M ≤ N + 1 ∧ Ctx w' gd gp gb gr gs k (G + 1) (B + 400001) M s2 L2 (sEnc R.2.1 R.2.2.length (snapsF 1 R.2.2)) R.2.1 R.2.2.length (snapsF 1 R.2.2)) ∧ (K % 4 = 1 → id = (R.2.2.length : Int))) ∨
  (s2.on = true ∧ R.1 = 0 ∧ K % 4 ≠ 3 ∧ E = 7 ∧ 64 * sect k < (sEnc R.2.1 R.2.2.length (snapsF 1 R.2.2)).length ∧ Ctx w' gd gp gb gr gs k G (B + 400001) N s2 L2 b0 F A.length (snapsF 1 A)) ∨
  (s2.on = false ∧ R.1 = 0 ∧ K % 4 ≠ 3 ∧ E = 11 ∧ (sEnc R.2.1 R.2.2.length (snapsF 1 R.2.2)).length ≤ 64 * sect k ∧ OkS R.2.1 R.2.2.length (snapsF 1 R.2.2) ∧ (RInv L2 k G b0 ∨ RInv L2 k (G + 1) (sEnc R.2.1 R.2.2.length (snapsF 1 R.2.2))))

theorem doP_out {w w' : World} {gd gp gb gr gs k G B N : Nat} {s : Pw} {L b0 : List Nat} {F : List (List Nat)} {A : List (Option (List (List Nat)))} {K : Nat} {R : Nat × List (List Nat) × List (Option (List (List Nat)))} {e : Ending}
    (hc : Ctx w gd gp gb gr gs k G B N s L b0 F A.length (snapsF 1 A)) (h3 : K % 4 = 3 → R.1 = 0) (hG : G + 1 < 200) (hB : B + 400001 < 1000000000) (hN : N + 1 < 10000) (h : DoP gd gp gb gr gs k G B N s L b0 F A K R w e w') :
    ∃ (id : Int) (E : Nat) (s2 : Pw) (L2 : List Nat), e = .returned (.tuple #[.int .i64 id, .int .i64 (E : Int)]) ∧ Dsk w' gd gp gb s2 L2 k ∧ s2.within (B + 400001) ∧ Save [gp, gb, gr, gs] w w' ∧ OutP gd gp gb gr gs k G B N b0 F A K R id E s2 L2 w' := by
  obtain ⟨id, E, he, h | h | h⟩ := h
  · have h1 := hc.later h.2.2
    exact ⟨id, E, s, L, he, h1.dsk, hc.win.mono (by omega), Save.of_below h.2.2 _, .inl ⟨hc.on, h.2.1, .inl h.1, h1⟩⟩
  · have h1 := hc.later h.2.2
    exact ⟨id, E, s, L, he, h1.dsk, hc.win.mono (by omega), Save.of_below h.2.2 _, .inl ⟨hc.on, by rw [h3 h.1]; exact h.2.1, .inr h.1, h1⟩⟩
  · obtain ⟨hR, hk, ⟨M, hM, hch⟩, hid⟩ := h
    rcases hch.cases with rfl | rfl | rfl
    · obtain ⟨hl, s', L', _, h1, h2⟩ := hch.done hc hG hB (by omega)
      exact ⟨id, 0, s', L', he, h1.dsk, h1.win, h2, .inr (.inl ⟨h1.on, hR, hk, rfl, hl, ⟨M, hM, h1⟩, fun h => hid h rfl⟩)⟩
    · obtain ⟨hl, h1, h2⟩ := hch.full hc hB
      exact ⟨id, 7, s, L, he, h1.dsk, h1.win, h2, .inr (.inr (.inl ⟨h1.on, hR, hk, rfl, hl, h1⟩))⟩
    · obtain ⟨hl, _, hok, s', L', h1, h2, h4, h5, h6⟩ := hch.fell
      exact ⟨id, 11, s', L', he, h1, h4, h6, .inr (.inr (.inr ⟨h2, hR, hk, rfl, hl, hok, h5⟩))⟩

end Go.Proofs.YtaijjogjohbheaaGreat

/- The chapter's example, run. -/
namespace Go.Proofs.YtaijjogjohbheaaGreat
open Go.RowKit
set_option maxRecDepth 100000
set_option linter.unusedSimpArgs false

theorem set_ok (w : World) (gd gp gb gr gs k G B N : Nat) (s : Pw) (L b0 : List Nat) (F : List (List Nat)) (last : Nat) (X : List (Nat × List (List Nat))) (h : Ctx w gd gp gb gr gs k G B N s L b0 F last X) (hp : s.plan = none) (I : Int) (J : Nat) (hI : I = (J : Int)) (hJ : J < 256) (a : Option Addr) (n c : Nat) (x : List Nat) (hr : Rd w a n x) (hn : n ≤ 32)
    (hl : (sEnc (F.set J (newB x)) last X).length ≤ 64 * sect k) (hG : G + 1 < 200) (hB : B + 400001 < 1000000000) (hN : N + 1 < 10000) :
    Calls Tryz.prog 15 #[.pointer (some ⟨gs, 0, none⟩), .int .i64 I, .slice a n c] w fun e w' => e = .returned (.int .i64 0) ∧ ∃ s' L', s'.plan = none ∧ Ctx w' gd gp gb gr gs k (G + 1) (B + 400001) (N + 1) s' L' (sEnc (F.set J (newB x)) last X) (F.set J (newB x)) last X ∧ Save [gp, gb, gr, gs] w w' := by
  subst hI
  refine (set_any w gd gp gb gr gs k G B N s L b0 F last X h (J : Int) a n c x hr).mono ?_
  rintro e w' (⟨h1, _⟩ | ⟨_, _, _, E, rfl, hch⟩)
  · omega
  · rw [Int.toNat_natCast] at hch
    have hE := hch.ok0 hp hl
    subst hE
    obtain ⟨_, s', L', h2, h3, h4⟩ := hch.done h hG hB hN
    exact ⟨rfl, s', L', h2 hp, h3, h4⟩

theorem create_ok (w : World) (gd gp gb gr gs k G B N : Nat) (s : Pw) (L b0 : List Nat) (F : List (List Nat)) (last : Nat) (X : List (Nat × List (List Nat))) (h : Ctx w gd gp gb gr gs k G B N s L b0 F last X) (hp : s.plan = none) (h9 : last < 9000) (hX : X.length < 32)
    (hl : (sEnc F (last + 1) (X ++ [(last + 1, F)])).length ≤ 64 * sect k) (hG : G + 1 < 200) (hB : B + 400001 < 1000000000) (v : Int) (hv : v = ((last + 1 : Nat) : Int)) :
    Calls Tryz.prog 17 #[.pointer (some ⟨gs, 0, none⟩)] w fun e w' => e = .returned (.tuple #[.int .i64 v, .int .i64 0]) ∧ ∃ s' L', s'.plan = none ∧ Ctx w' gd gp gb gr gs k (G + 1) (B + 400001) N s' L' (sEnc F (last + 1) (X ++ [(last + 1, F)])) F (last + 1) (X ++ [(last + 1, F)]) ∧ Save [gp, gb, gr, gs] w w' := by
  subst hv
  refine (create_any w gd gp gb gr gs k G B N s L b0 F last X h h9).mono ?_
  rintro e w' (⟨h1, _⟩ | ⟨_, E, rfl, hch⟩)
  · omega
  · have hE := hch.ok0 hp hl
    subst hE
    obtain ⟨_, s', L', h2, h3, h4⟩ := hch.done h hG hB h.nl
    exact ⟨by rw [if_pos rfl]; rfl, s', L', h2 hp, h3, h4⟩

theorem rd_one {w : World} {T : TypeId} {x : Nat} (hx : x < 256) : Rd (w.alloc (.cells #[.int .u8 (x : Int)] T)) (some ⟨w.heap.size, 0, none⟩) 1 [x] := by
  refine ⟨rfl, by simp; exact hx, fun _ => ⟨_, _, rfl, fun j hj => ?_⟩⟩
  rw [World.cell?_alloc_new]
  obtain rfl : j = 0 := by omega
  rfl

def P5 : List Nat := [5]
def P6 : List Nat := [6]
def F5 : List (List Nat) := holes.set 0 (newB P5)
def F6 : List (List Nat) := F5.set 0 (newB P6)

theorem newB5 : newB P5 = padB P5 := by unfold newB; rw [if_neg (by decide)]
theorem newB6 : newB P6 = padB P6 := by unfold newB; rw [if_neg (by decide)]
theorem f5_eq : F5 = holes.set 0 (padB P5) := by unfold F5; rw [newB5]
theorem f6_eq : F6 = holes.set 0 (padB P6) := by unfold F6; rw [newB6, f5_eq, List.set_set]
theorem f5_ok : okF F5 := by rw [f5_eq]; exact holes_ok.set 0 (.inr (padB_ok (by decide) (by decide)))
theorem f6_ok : okF F6 := by rw [f6_eq]; exact holes_ok.set 0 (.inr (padB_ok (by decide) (by decide)))
theorem f5_len : (iEnc F5).length ≤ 100 := iEnc_one f5_ok (by rw [f5_eq]; exact one_getD P5)
theorem f6_len : (iEnc F6).length ≤ 100 := iEnc_one f6_ok (by rw [f6_eq]; exact one_getD P6)

theorem getD_one (b : List Nat) (k : Nat) : (holes.set 0 (padB b)).getD k [] = if k = 0 then padB b else [] := by
  have e := fAt_set holes 0 (padB b) (by rw [holes_ok.1]; omega) (k : Int)
  rw [fAt_nat, fAt_holes] at e
  rw [e]
  by_cases h : k = 0
  · subst h; simp
  · rw [if_neg (by omega), if_neg h]

theorem pad_ne56 : padB P5 ≠ padB P6 := by decide

theorem diff56 : SetF (diffF F6 F5) [⟨0, 1⟩] := by
  refine setF_one (by simp [diffF]) fun k hk => ?_
  have h := hasF_diff (F := F6) (G := F5) hk
  unfold hasF at h
  rw [f6_eq, f5_eq] at h ⊢
  rw [getD_one, getD_one] at h
  by_cases h0 : k = 0
  · subst h0
    simp only [if_true] at h
    have e : decide (padB P6 ≠ []) = true := by simp [padB_ne]
    have e2 : decide (padB P6 = padB P5) = false := by simp; exact fun hh => pad_ne56 hh.symm
    rw [e, e2] at h
    simp only [iff_true]
    exact of_decide_eq_true h
  · rw [if_neg h0, if_neg h0] at h
    simp only [ne_eq, not_true_eq_false, decide_false, Bool.false_and] at h
    simp only [h0, iff_false]
    intro hh
    rw [decide_eq_true hh] at h
    cases h

theorem gone56 : SetF (goneF F6 F5) [] := by
  refine setF_nil fun k => ?_
  by_cases hk : k < 256
  · have h := hasF_gone (F := F6) (G := F5) hk
    unfold hasF at h
    rw [f6_eq, f5_eq] at h ⊢
    rw [getD_one, getD_one] at h
    by_cases h0 : k = 0
    · subst h0
      simp only [if_true] at h
      have e : decide (padB P6 ≠ []) = true := by simp [padB_ne]
      rw [e] at h
      simp only [Bool.not_true, Bool.false_and] at h
      exact Classical.not_not.1 (of_decide_eq_false h)
    · rw [if_neg h0, if_neg h0] at h
      simp only [ne_eq, not_true_eq_false, decide_false, Bool.and_false] at h
      exact Classical.not_not.1 (of_decide_eq_false h)
  · rw [List.getD, List.getElem?_eq_none (by simp [goneF]; omega)]
    rfl

theorem len1 : (sEnc F5 0 []).length ≤ 64 * sect 200 := by
  have h1 := f5_len
  have h2 := vEnc_len 0 0 (by omega)
  unfold sEnc
  simp only [List.length_append, xEnc, List.flatMap_nil, List.length_nil, sect]
  omega

theorem len2 : (sEnc F5 (0 + 1) ([] ++ [(0 + 1, F5)])).length ≤ 64 * sect 200 := by
  have h1 := f5_len
  have h2 := vEnc_len 0 1 (by omega)
  unfold sEnc
  simp only [List.length_append, xEnc, List.flatMap_nil, List.flatMap_cons, List.nil_append, List.length_cons, List.length_nil, sect, Nat.zero_add]
  omega

theorem len3 : (sEnc F6 (0 + 1) ([] ++ [(0 + 1, F5)])).length ≤ 64 * sect 200 := by
  have h0 := f6_len
  have h1 := f5_len
  have h2 := vEnc_len 0 1 (by omega)
  unfold sEnc
  simp only [List.length_append, xEnc, List.flatMap_nil, List.flatMap_cons, List.nil_append, List.length_cons, List.length_nil, sect, Nat.zero_add]
  omega

set_option maxHeartbeats 2000000 in
theorem lives_any (w : World) : Calls Tryz.prog 5 #[] w fun e w' => e = .returned (.bool true) ∧ Below w.heap.size w w' := by
  have HN := Lib.hid (new_at w)
  go_enter Tryz.func5, Tryz.ntmps5
  go_wp2_with fail
  refine HN.out.mono ?_
  rintro e w1 ⟨gp, rfl, hgp, hp1, hb1⟩
  have HN2 := Lib.hid (dnew_at w1 200 gp _ hp1 (by omega) (by omega))
  have HE1 := Lib.hid (And.intro hgp hb1)
  clear hgp hp1 hb1 HN
  go_wp2_with fail
  refine HN2.out.mono ?_
  rintro e w2 ⟨gd, gb, rfl, hgd, hgb, hd2, hb2⟩
  have HO := Lib.hid (sopen_any w2 gd gp gb 200 0 0 ⟨true, none, 0⟩ _ [] holes 0 [] hd2 (by omega) (by omega) rfl (rinv_new 200 (by omega)) (.inl ⟨rfl, rfl, rfl, rfl, rfl⟩) okS_new ⟨by simp, Nat.le_refl _⟩ (by omega) (by omega))
  have HE2 := Lib.hid (And.intro hgd (And.intro hgb hb2))
  clear hgd hgb hd2 hb2 HN2
  go_wp2_with fail
  refine HO.out.mono ?_
  rintro e w3 ⟨gr, gs, rfl, hgr, hgs, hc3, hb3⟩
  have HE3 := Lib.hid (And.intro hgr (And.intro hgs hb3))
  have HC3 := Lib.hid hc3
  clear hgr hgs hc3 hb3 HO
  obtain ⟨w4, hw4⟩ : ∃ w4, w4 = w3.alloc (.cells #[.int .u8 5] 5) := ⟨_, rfl⟩
  have HW4 : Hid (Below w3.heap.size w3 w4) := Lib.hid (by rw [hw4]; exact Below.alloc0 _ _)
  have HS4 := Lib.hid (set_ok w4 gd gp gb gr gs 200 0 0 300 _ _ _ holes 0 [] (HC3.out.later HW4.out) rfl 0 0 rfl (by omega) (some ⟨w3.heap.size, 0, none⟩) 1 1 P5 (by rw [hw4]; exact rd_one (x := 5) (by omega)) (by omega) len1 (by omega) (by omega) (by omega))
  go_wp2_with fail
  rw [← hw4]
  clear hw4
  refine HS4.out.mono ?_
  rintro e w5 ⟨rfl, s5, L5, hp5, hc5, hs5⟩
  have HC5 := Lib.hid hc5
  have HS5 := Lib.hid hs5
  have HCr := Lib.hid (create_ok w5 gd gp gb gr gs 200 _ _ _ s5 L5 _ _ 0 [] hc5 hp5 (by omega) (by simp) len2 (by omega) (by omega) 1 rfl)
  clear hp5 hc5 hs5 HS4
  go_wp2_with fail
  refine HCr.out.mono ?_
  rintro e w6 ⟨rfl, s6, L6, hp6, hc6, hs6⟩
  have HC6 := Lib.hid hc6
  have HS6 := Lib.hid hs6
  have HP6 := Lib.hid hp6
  clear hp6 hc6 hs6 HCr
  obtain ⟨w7, hw7⟩ : ∃ w7, w7 = w6.alloc (.cells #[.int .u8 6] 5) := ⟨_, rfl⟩
  have HW7 : Hid (Below w6.heap.size w6 w7) := Lib.hid (by rw [hw7]; exact Below.alloc0 _ _)
  have HS7 := Lib.hid (set_ok w7 gd gp gb gr gs 200 _ _ _ s6 L6 _ _ (0 + 1) _ (HC6.out.later HW7.out) HP6.out 0 0 rfl (by omega) (some ⟨w6.heap.size, 0, none⟩) 1 1 P6 (by rw [hw7]; exact rd_one (x := 6) (by omega)) (by omega) len3 (by omega) (by omega) (by omega))
  go_wp2_with fail
  rw [← hw7]
  clear hw7
  refine HS7.out.mono ?_
  rintro e w8 ⟨rfl, s8, L8, hp8, hc8, hs8⟩
  have HS8 := Lib.hid hs8
  have hD := sdiff_any w8 _ _ gs gr _ _ _ 0 1 hc8.sto hc8.ok (by omega)
  have e0 : lkS F6 ([] ++ [(0 + 1, F5)]) 0 = some F6 := by simp [lkS]
  have e1 : lkS F6 ([] ++ [(0 + 1, F5)]) 1 = some F5 := by simp [lkS]
  have HD : Hid (Calls Tryz.prog 19 #[.pointer (some ⟨gs, 0, none⟩), .int .i64 0, .int .i64 1] w8 fun e w' => Below w8.heap.size w8 w' ∧ ∃ b o c a' c', e = .returned (.tuple #[.slice (some ⟨b, o, none⟩) 1 c, .slice a' 0 c', .int .i64 0]) ∧ w'.cell? ⟨b, o + 1, none⟩ = some (.int .i64 1)) := by
    refine Lib.hid (hD.mono ?_)
    rintro e w' ⟨hb, ⟨h1 | h1, _⟩ | ⟨G, H, M, K, a, n, c, a', n', c', h1, h2, _, _, rfl, hM, hK, hr, hr'⟩⟩
    · cases e0.symm.trans h1
    · cases e1.symm.trans h1
    · obtain rfl : F6 = G := Option.some.inj (e0.symm.trans h1)
      obtain rfl : F5 = H := Option.some.inj (e1.symm.trans h2)
      have eM := hM.unique diff56
      have eK := hK.unique gone56
      subst eM
      subst eK
      obtain rfl : n = 1 := by have := hr.1; simpa using this.symm
      obtain rfl : n' = 0 := by have := hr'.1; simpa using this.symm
      obtain ⟨b, o, rfl, hcl⟩ := hr.2 (by omega)
      exact ⟨hb, b, o, c, a', c', rfl, by have := (hcl 0 (by omega)).2; simpa using this⟩
  clear hp8 hc8 hs8 HS7 hD e0 e1
  go_wp2_with fail
  refine HD.out.mono ?_
  rintro e w9 ⟨hb9, b, o, c, a', c', rfl, hcl⟩
  have HB9 := Lib.hid hb9
  clear hb9 HD
  go_wp2
  go_ret
  refine ⟨rfl, ?_⟩
  obtain ⟨hgp, hb1⟩ := HE1.out
  obtain ⟨hgd, hgb, hb2⟩ := HE2.out
  obtain ⟨hgr, hgs, hb3⟩ := HE3.out
  have t1 := hb1.size
  have t2 := hb2.size
  have t3 := hb3.size
  have hV : ∀ k ∈ [gp, gb, gr, gs], w.heap.size ≤ k := by
    intro k hk
    simp only [List.mem_cons, List.not_mem_nil, or_false] at hk
    omega
  have b3 : Below w.heap.size w w3 := (hb1.trans (hb2.mono t1)).trans (hb3.mono (by omega))
  have b4 := b3.trans (HW4.out.mono b3.size)
  have b5 := b4.trans (HS5.out.below b4.size hV)
  have b6 := b5.trans (HS6.out.below b5.size hV)
  have b7 := b6.trans (HW7.out.mono b6.size)
  have b8 := b7.trans (HS8.out.below b7.size hV)
  exact b8.trans (HB9.out.mono b8.size)

end Go.Proofs.YtaijjogjohbheaaGreat
