/- StreamMakes, run: the stream of any image by any base, over any world. -/
import Derived.Test.YtaijldcfoaeogaaGreatGIWritesToIRefDiff
import Derived.Test.YtaijldcfoaeogaaGreatGSmRefRecsToSmImage
import Derived.Test.YtaijldcfoaeogaaGreatSmRefApply
import Derived.Test.YtaijldcfoaeogaaGreatSmReads
import Derived.Test.YtaijldcfoaeogaaGreatWOpen
import Derived.Test.YtaijldcfoaeogaaGreatGRcOpenToRrParse
namespace Go.Proofs.YtaijldcfoaeogaaGreat
open Go.RowKit
set_option maxRecDepth 100000
set_option linter.unusedSimpArgs false

theorem eql_head (x y : Int) (w : World) : (binOp .eql 24 (.agg #[.int .i64 x, .int .i64 y]) (.agg #[.int .i64 x, .int .i64 y])).run Tryz.prog w = .ok (.bool true) w := by
  have u3 := Tryz.underlying3
  have a3 := Tryz.isAgg3
  have z3 := Tryz.sizeOf3
  have hS : Tryz.prog.underlying 24 = some (.struct (Tryz.prog.fieldsOf 24)) := by kernel_rfl
  have hp : Tryz.prog.stoodInHeld 24 = false := by kernel_rfl
  rw [run_eql_struct, show (10000 : Nat) = 9999 + 1 from rfl, run_equalIn_agg w 9999 24 _ _ hS hp]
  simp only [Program.fieldsOf, Tryz.underlying24]
  go_simp

set_option maxHeartbeats 8000000 in
set_option maxRecDepth 100000 in
theorem smakes_walk (w : World) (a : Option Addr) (n c : Nat) (L : List Wr) (h : RdW w a n L) (a' : Option Addr) (n' c' : Nat) (L' : List Wr) (h' : RdW w a' n' L') (hn : n ≤ 140737488355328) (hn' : n' ≤ 140737488355328) (i b : Int) :
    Calls Tryz.prog 3 #[.slice a n c, .slice a' n' c', .agg #[.int .i64 i, .int .i64 b]] w fun e w' => e = .returned (.bool true) ∧ Below w.heap.size w w' := by
  have HR := Lib.hid (And.intro h h')
  clear h h'
  obtain ⟨bh, hbh⟩ : ∃ bh, bh = w.heap.size := ⟨_, rfl⟩
  obtain ⟨w0, hw0⟩ : ∃ w0, w0 = w.alloc (.cells #[.int .i64 i, .int .i64 b] 24) := ⟨_, rfl⟩
  have HW0 : Hid (w.alloc (.cells #[.int .i64 i, .int .i64 b] 24) = w0 ∧ w.heap.size = bh) := Lib.hid ⟨hw0.symm, hbh.symm⟩
  have HH0 : Hid (w0.heap[bh]? = some (.cells #[.int .i64 i, .int .i64 b] 24 (0, 0)) ∧ w0.heap.size = bh + 1) := Lib.hid ⟨by rw [hw0, hbh]; exact heap_alloc_new w _, by rw [hw0, hbh]; simp⟩
  have HB0 : Hid (Below w.heap.size w w0) := Lib.hid (by rw [hw0]; exact Below.alloc0 _ _)
  clear hw0 hbh
  go_enter Tryz.func3, Tryz.ntmps3
  go_upto_region 1 with fail
  try change Code.wp _ _ _ _ (w.alloc (.cells #[.int .i64 i, .int .i64 b] 24))
  rw [HW0.out.1]
  try rw [HW0.out.2]
  by_cases hs : n + n' ≤ 300
  · have hd : decide ((300 : Int) < (n : Int) + (n' : Int)) = false := by simp; omega
    go_wp2_with fail
    refine (smLives_any w0).mono ?_
    rintro e w1 ⟨rfl, hb01⟩
    have HH1 : Hid (w1.heap[bh]? = some (.cells #[.int .i64 i, .int .i64 b] 24 (0, 0))) := Lib.hid ((hb01.block bh (by rw [HH0.out.2]; omega)).trans HH0.out.1)
    have hb1 : Below w.heap.size w w1 := HB0.out.trans (hb01.mono HB0.out.size)
    clear hb01
    have HB1 := Lib.hid hb1
    have HM := Lib.hid (made_any w1 a n c L (HR.out.1.later hb1) (by omega))
    clear hb1
    obtain ⟨X, hX⟩ : ∃ X, X = madeF L := ⟨_, rfl⟩
    rw [← hX] at HM
    clear hX
    go_wp2_with fail
    refine HM.out.mono ?_
    rintro e w2 ⟨ga, ba, rfl, hga, hba, himg, hb2⟩
    have HIA := Lib.hid himg
    have HFX : Hid (okF X) := Lib.hid himg.ok
    have HGA := Lib.hid (And.intro hga hba)
    have HB12' : Hid (Below w1.heap.size w1 w2) := Lib.hid hb2
    have HB2 : Hid (Below w.heap.size w w2) := Lib.hid (HB1.out.trans (hb2.mono HB1.out.size))
    clear hga hba himg hb2 HM
    obtain ⟨g6, hg6⟩ : ∃ g6, g6 = w2.heap.size := ⟨_, rfl⟩
    go_upto_region 4 with (refine wpList_store_img rfl (.tmp 8) (.tmp 32) rfl _ holes X rfl rfl (by rw [zero_img]; exact heap_alloc_last _ _) List.length_replicate HFX.out.1 ?_; intro w3 H3)
    rw [← hg6]
    have HA3 : Hid (w3.heap[g6]? = some (arrObj X)) := Lib.hid (by rw [H3.out, hg6]; exact put_same (heap_alloc_last _ _))
    have HB23 : Hid (Below w2.heap.size w2 w3) := Lib.hid (by rw [H3.out]; exact (Below.alloc0 _ _).trans (put_below _ (Nat.le_refl _)))
    have HB12 : Hid (Below w1.heap.size w1 w2) := HB12'
    have HH3 : Hid (w3.heap[bh]? = some (.cells #[.int .i64 i, .int .i64 b] 24 (0, 0))) := Lib.hid ((HB23.out.block bh (by have := lt_of_block HH1.out; have := HB12.out.size; omega)).trans ((HB12.out.block bh (lt_of_block HH1.out)).trans HH1.out))
    have HB3 : Hid (Below w.heap.size w w3) := Lib.hid (HB2.out.trans (HB23.out.mono HB2.out.size))
    clear H3 hg6
    obtain ⟨LL, hLL⟩ : ∃ LL, LL = ([] ++ L) ++ L' := ⟨_, rfl⟩
    have HLL := Lib.hid hLL
    clear hLL
    have HLn : Hid (LL.length = n + n') := Lib.hid (by rw [HLL.out]; simp [HR.out.1.len, HR.out.2.len])
    obtain ⟨w4, hw4⟩ : ∃ w4, w4 = w3.alloc (.cells #[] 62) := ⟨_, rfl⟩
    have HB34 : Hid (Below w3.heap.size w3 w4) := Lib.hid (by rw [hw4]; exact Below.alloc0 _ _)
    have HO4 : Hid (OwnW w4 w3.heap.size (.slice (some ⟨w3.heap.size, 0, none⟩) 0 0) []) := Lib.hid (by rw [hw4]; exact ownW_new w3)
    have hw4' := hw4.symm
    clear hw4
    go_wp2_with (first
      | (at_builtin; refine wpList_append_w rfl (.tmp 34) (.tmp 35) rfl _ rfl a n c rfl w3.heap.size [] HO4.out HB34.out.size L ((HR.out.1.later HB3.out).later HB34.out) (by simp; omega) ?_; intro v5 w5 ho5 hb5; have HO5 := Lib.hid ho5; have HB35 := Lib.hid ((HB34.out).trans hb5); clear ho5 hb5 hw4')
      | (at_builtin; refine wpList_append_w rfl (.tmp 36) (.tmp 37) rfl _ rfl a' n' c' rfl w3.heap.size ([] ++ L) HO5.out HB35.out.size L' ((HR.out.2.later HB3.out).later HB35.out) (by have := HR.out.1.len; simp; omega) ?_; intro v6 w6 ho6 hb6; rw [← HLL.out] at ho6; have HO6 := Lib.hid ho6; have HB36 := Lib.hid ((HB35.out).trans hb6); clear ho6 hb6))
    have heach : EachW w6 LL := by
      have hb := HB36.out
      intro r hr
      rw [HLL.out] at hr
      rcases List.mem_append.1 hr with hr | hr
      · exact ((HR.out.1.later HB3.out).later hb).each r (by simpa using hr)
      · exact ((HR.out.2.later HB3.out).later hb).each r hr
    obtain ⟨a7, c7, hv7, hr7⟩ := HO6.out.rd heach
    subst hv7
    have HR7 := Lib.hid hr7
    have HMb := Lib.hid (made_any w6 a7 LL.length c7 LL hr7 (by have := HLn.out; omega))
    have HN := Lib.hid (show LL.length ≤ 300 by have := HLn.out; omega)
    obtain ⟨N, hN⟩ : ∃ N, N = LL.length := ⟨_, rfl⟩
    rw [← hN] at HMb HN ⊢
    obtain ⟨Y, hY⟩ : ∃ Y, Y = madeF LL := ⟨_, rfl⟩
    rw [← hY] at HMb
    clear hY hN hr7 heach
    refine HMb.out.mono ?_
    rintro e w7 ⟨gb, bb, rfl, hgb, hbb, himg, hb7⟩
    have HIB := Lib.hid himg
    have HFY : Hid (okF Y) := Lib.hid himg.ok
    have HB37 : Hid (Below w3.heap.size w3 w7) := Lib.hid (HB36.out.trans (hb7.mono HB36.out.size))
    clear hgb hbb himg hb7 HMb
    obtain ⟨g8, hg8⟩ : ∃ g8, g8 = w7.heap.size := ⟨_, rfl⟩
    go_upto_region 5 with (refine wpList_store_img rfl (.tmp 10) (.tmp 41) rfl _ holes Y rfl rfl (by rw [zero_img]; exact heap_alloc_last _ _) List.length_replicate HFY.out.1 ?_; intro w8 H8)
    rw [← hg8]
    have HY8 : Hid (w8.heap[g8]? = some (arrObj Y)) := Lib.hid (by rw [H8.out, hg8]; exact put_same (heap_alloc_last _ _))
    have HB78 : Hid (Below w7.heap.size w7 w8) := Lib.hid (by rw [H8.out]; exact (Below.alloc0 _ _).trans (put_below _ (Nat.le_refl _)))
    have HB38 : Hid (Below w3.heap.size w3 w8) := Lib.hid (HB37.out.trans (HB78.out.mono HB37.out.size))
    have HX8 : Hid (w8.heap[g6]? = some (arrObj X)) := Lib.hid ((HB38.out.block g6 (lt_of_block HA3.out)).trans HA3.out)
    have HIA8 : Hid (Img w8 ga ba n X) := Lib.hid ((HIA.out.later HB23.out).later HB38.out)
    have HIB8 : Hid (Img w8 gb bb N Y) := Lib.hid (HIB.out.later HB78.out)
    have HB8 : Hid (Below w.heap.size w w8) := Lib.hid (HB3.out.trans (HB38.out.mono HB3.out.size))
    have hh8 := (HB38.out.block bh (lt_of_block HH3.out)).trans HH3.out
    have HH8 := Lib.hid hh8
    clear H8 hg8 HIA HIB HA3 HB37 HB36 HB35 HO5 HO6 HR7 HB78 HB38 HB34 HO4 HGA HB23
    have k0 : w8.cell? ⟨bh, 0, none⟩ = some (.int .i64 i) := by simp [World.cell?, hh8]
    have k1 : w8.cell? ⟨bh, 1, none⟩ = some (.int .i64 b) := by simp [World.cell?, hh8]
    have HMK := Lib.hid (make_any w8 i b gb bb N Y X (.pointer (some ⟨ga, 0, none⟩)) HIB8.out HFX.out fun W hW => diff_any W gb bb N ga ba n Y X (HIB8.out.later hW) (HIA8.out.later hW) (by have := HN.out; omega))
    clear hh8
    go_wp2_with fail
    refine HMK.out.mono ?_
    rintro e w9 ⟨hb9, hq⟩
    have HB9 := Lib.hid hb9
    have HBW9 : Hid (Below w.heap.size w w9) := Lib.hid (HB8.out.trans (hb9.mono HB8.out.size))
    have hh9 := (hb9.block bh (lt_of_block HH8.out)).trans HH8.out
    have HH9 := Lib.hid hh9
    have j0 : w9.cell? ⟨bh, 0, none⟩ = some (.int .i64 i) := by simp [World.cell?, hh9]
    have j1 : w9.cell? ⟨bh, 1, none⟩ = some (.int .i64 b) := by simp [World.cell?, hh9]
    clear hh9 hb9 k0 k1
    by_cases hok : (headR i b).ok = true
    · obtain ⟨h0, _⟩ | ⟨_, MP, MG, vs, hMP, hMG, rfl, hos⟩ := hq
      · rw [hok] at h0; cases h0
      have hib := hok
      rw [headR_ok] at hib
      have hib : 0 ≤ i ∧ i ≤ 1099511627776 ∧ 0 ≤ b ∧ b ≤ 1099511627776 := by simp [isNum] at hib; omega
      obtain ⟨i1, i2, b1, b2⟩ := hib
      have HMP := Lib.hid (And.intro hMP hMG)
      have hrk := recs_ok HFY.out HFX.out hok hMP hMG
      have hpt := recs_parts HFY.out HFX.out hMP hMG
      have hst := strm_recs HFY.out HFX.out hok hMP hMG
      have hap := apF_recs (i := i) (b := b) HFY.out HFX.out hMP hMG
      have hlen := strm_len (x := headR i b) (xs := (pcsR MP).map (dataR Y) ++ MG.map holeR) hok hrk.1 (by have := hrk.2; simp [recsR] at this ⊢; omega)
      have hby : ∀ y ∈ recsR i b Y MP MG, ∀ z ∈ y.l, z < 256 := by
        intro y hy z hz
        simp only [recsR, List.mem_cons, List.mem_append, List.mem_map] at hy
        rcases hy with rfl | ⟨r, _, rfl⟩ | ⟨r, _, rfl⟩
        · simp [headR] at hz
        · exact blkF_byte HFY.out r z hz
        · simp [holeR] at hz
      obtain ⟨av, cv, rfl, hrd, hcap⟩ := hos.sl
      have HREC := Lib.hid (And.intro hrk (And.intro hpt (And.intro hst (And.intro hap (And.intro hlen hby)))))
      have HRR := Lib.hid (rrecords_any w9 i b Y X HFY.out HFX.out)
      have HY9 : Hid (∀ W, Below w9.heap.size w9 W → W.heap[g8]? = some (arrObj Y) ∧ W.heap[g6]? = some (arrObj X) ∧ W.heap[bh]? = some (.cells #[.int .i64 i, .int .i64 b] 24 (0, 0))) := Lib.hid fun W hW => by
        have l1 := lt_of_block HY8.out
        have l2 := lt_of_block HX8.out
        have l3 := HB9.out.size
        exact ⟨(hW.block g8 (by omega)).trans ((HB9.out.block g8 l1).trans HY8.out), (hW.block g6 (by omega)).trans ((HB9.out.block g6 l2).trans HX8.out), (hW.block bh (lt_of_block HH9.out)).trans HH9.out⟩
      have HY90 := Lib.hid (HY9.out w9 (Below.refl _ _))
      clear hMP hMG hrk hpt hst hap hlen hby
      obtain ⟨sl, hsl⟩ : ∃ sl, sl = (strmB (recsR i b Y MP MG)).length := ⟨_, rfl⟩
      rw [← hsl] at hrd hcap ⊢
      have HSL := Lib.hid hsl
      have HRD := Lib.hid hrd
      clear hsl hrd hos hok
      go_wp2_with (first
        | (refine wpList_load_img rfl (.tmp 10) rfl g8 Y rfl HY90.out.1 HFY.out.1 ?_)
        | (refine wpList_load_img rfl (.tmp 8) rfl g6 X rfl HY90.out.2.1 HFX.out.1 ?_))
      refine HRR.out.mono ?_
      rintro e w10 ⟨MP', MG', vr, hMP', hMG', rfl, hor, hb10⟩
      have e1 : MP = MP' := HMP.out.1.unique hMP'
      have e2 : MG = MG' := HMP.out.2.unique hMG'
      subst e1
      subst e2
      obtain ⟨T, hT⟩ : ∃ T, T = (pcsR MP).map (dataR Y) ++ MG.map holeR := ⟨_, rfl⟩
      have hXT : recsR i b Y MP MG = headR i b :: T := by rw [hT]; rfl
      obtain ⟨SB, hSB⟩ : ∃ SB, SB = strmB (headR i b :: T) := ⟨_, rfl⟩
      obtain ⟨hrk, hpt, hst, hap, hlen, hby⟩ := HREC.out
      rw [hXT] at hrk hst hap hby hor HSL HRD HREC
      rw [← hT] at hpt hlen
      rw [List.tail_cons] at hap
      rw [← hSB] at hst hlen HSL HRD
      have hT2 : ∀ y ∈ T, y.ok = true ∧ (y.k = 2 ∨ y.k = 3) := fun y hy => by
        obtain ⟨q1, q2, q3⟩ := hpt y hy
        refine ⟨q1, ?_⟩
        rcases Rec.ok_cases q1 with ⟨_, _, _, _, e⟩ | ⟨_, _, _, _, _, _, _, e⟩ | ⟨_, _, _, _, e⟩ | ⟨_, _, _, _, _, _, e⟩
        · rw [e] at q2; exact absurd rfl q2
        · rw [e]; exact .inl rfl
        · rw [e]; exact .inr rfl
        · rw [e] at q3; exact absurd rfl q3
      have hTl : T.length ≤ 399 := by have := hrk.2; simp at this; omega
      have HSB := Lib.hid hSB
      have HT := Lib.hid (And.intro hrk (And.intro hby (And.intro hT2 hap)))
      have HSLb : Hid (sl ≤ 1000000 ∧ 12 ≤ sl) := Lib.hid (by rw [HSL.out]; omega)
      obtain ⟨ar, cr, rfl, hcr, hrp, har⟩ := hor.rd
      have HW10 : Hid (∀ W, Below w10.heap.size w10 W → Rd W av sl SB ∧ Img W ga ba n X ∧ RdP W ar (headR i b :: T).length (headR i b :: T) ∧ (W.heap[g8]? = some (arrObj Y) ∧ W.heap[g6]? = some (arrObj X) ∧ W.heap[bh]? = some (.cells #[.int .i64 i, .int .i64 b] 24 (0, 0)))) := Lib.hid fun W hW => by
        have h9 : Below w9.heap.size w9 W := hb10.trans (hW.mono hb10.size)
        exact ⟨HRD.out.later h9, (HIA8.out.later HB9.out).later h9, hrp.later hW, HY9.out W h9⟩
      have HBW10 : Hid (Below w.heap.size w w10) := Lib.hid (HBW9.out.trans (hb10.mono HBW9.out.size))
      obtain ⟨N1, hN1⟩ : ∃ N1, N1 = (headR i b :: T).length := ⟨_, rfl⟩
      rw [← hN1] at hcr HW10 ⊢
      have HN1 : Hid (N1 = T.length + 1 ∧ N1 ≤ cr ∧ T.length ≤ 399) := Lib.hid ⟨by rw [hN1]; simp, hcr, hTl⟩
      have hwa := apply_any w10 ga ba n X (HW10.out w10 (Below.refl _ _)).2.1 av sl cv SB (HW10.out w10 (Below.refl _ _)).1 HSLb.out.1 (by
        rw [hst]
        have := HN1.out
        have := HN.out
        have := HLn.out
        simp
        omega)
      rw [hst] at hwa
      have HAP : Hid (Calls Tryz.prog 9 #[.pointer (some ⟨ga, 0, none⟩), .slice av sl cv] w10 fun e w' => ∃ g' b' q', e = .returned (.tuple #[.agg #[.int .i64 i, .int .i64 b], .pointer (some ⟨g', 0, none⟩), .int .i64 0]) ∧ Hid (Below w10.heap.size w10 w') ∧ Hid (Img w' g' b' q' Y)) := Lib.hid (hwa.mono (by
        rintro e w' ⟨hbw, ⟨hne, _⟩ | ⟨_, x, xs, g', b', q', hx, rfl, hii⟩⟩
        · exact absurd rfl hne
        · injection hx with hx1 hx2
          subst hx1
          subst hx2
          rw [hap] at hii
          exact ⟨g', b', q', rfl, Lib.hid hbw, Lib.hid hii⟩))
      clear hMP' hMG' hT hXT hSB hrk hpt hst hap hlen hby hT2 hTl hor hrp har hN1 hwa hcr hb10 j0 j1 hcap
      go_wp2_with fail
      refine HAP.out.mono ?_
      rintro e w11 ⟨g', b', q', rfl, HB11, HI11⟩
      obtain ⟨bj, hbj⟩ : ∃ bj, bj = w11.heap.size := ⟨_, rfl⟩
      obtain ⟨W11, hW11⟩ : ∃ W11, W11 = w11.alloc (.cells #[.int .i64 i, .int .i64 b] 24) := ⟨_, rfl⟩
      have HJ11 : Hid (W11.heap[bj]? = some (.cells #[.int .i64 i, .int .i64 b] 24 (0, 0))) := Lib.hid (by rw [hW11, hbj]; exact heap_alloc_new w11 _)
      have HW11 : Hid (w11.alloc (.cells #[.int .i64 i, .int .i64 b] 24) = W11 ∧ w11.heap.size = bj) := Lib.hid ⟨hW11.symm, hbj.symm⟩
      have HB1011 : Hid (Below w10.heap.size w10 W11) := Lib.hid (by rw [hW11]; exact HB11.out.alloc HB11.out.size _)
      have HI12 : Hid (Img W11 g' b' q' Y) := Lib.hid (by rw [hW11]; exact HI11.out.later (Below.alloc0 _ _))
      clear hbj hW11
      go_upto_region 10 with fail
      try change Code.wp _ _ _ _ (w11.alloc (.cells #[.int .i64 i, .int .i64 b] 24))
      rw [HW11.out.1, HW11.out.2]
      have H0 : Hid (Below W11.heap.size W11 W11.drew) := Lib.hid (Below.refl _ _).drew
      have HBWW : Hid (Below w.heap.size w W11) := Lib.hid (HBW10.out.trans (HB1011.out.mono HBW10.out.size))
      have HSX : Hid (∀ W, Below W11.heap.size W11 W → ((convert 31 9 (.slice av sl cv)).run Tryz.prog W = .ok (.string (strB SB)) W ∧ W.heap[g8]? = some (arrObj Y) ∧ W.heap[g6]? = some (arrObj X) ∧ W.cell? ⟨bh, 0, none⟩ = some (.int .i64 i) ∧ W.cell? ⟨bh, 1, none⟩ = some (.int .i64 b) ∧ W.cell? ⟨bj, 0, none⟩ = some (.int .i64 i) ∧ W.cell? ⟨bj, 1, none⟩ = some (.int .i64 b))) := Lib.hid fun W hW => by
        have h9 : Below w10.heap.size w10 W := HB1011.out.trans (hW.mono HB1011.out.size)
        obtain ⟨q1, q2, q3, q4, q5, q6⟩ := HW10.out W h9
        have q7 := (hW.block bj (lt_of_block HJ11.out)).trans HJ11.out
        exact ⟨conv_rd q1 cv, q4, q5, by simp [World.cell?, q6], by simp [World.cell?, q6], by simp [World.cell?, q7], by simp [World.cell?, q7]⟩
      have HWW : Hid (∀ W, Below W11.heap.size W11 W → Img W ga ba n X ∧ Img W g' b' q' Y ∧ RdP W ar N1 (headR i b :: T)) := Lib.hid fun W hW => by
        have h9 : Below w10.heap.size w10 W := HB1011.out.trans (hW.mono HB1011.out.size)
        obtain ⟨q1, q2, q3, q4, q5, q6⟩ := HW10.out W h9
        exact ⟨q2, HI12.out.later hW, q3⟩
      have heh := fun W => eql_head i b W
      have hei : ∀ W, (binOp .eql 28 (.agg (cS Y).toArray) (.agg (cS Y).toArray)).run Tryz.prog W = .ok (.bool true) W := fun W => by
        have := eql_img Y Y HFY.out HFY.out W
        simpa using this
      have hNi : (1 : Int) ≤ (N1 : Int) := by have := HN1.out; omega
      refine wp_region_held_drew (S := fun W => ((convert 31 9 (.slice av sl cv)).run Tryz.prog W = .ok (.string (strB SB)) W ∧ W.heap[g8]? = some (arrObj Y) ∧ W.heap[g6]? = some (arrObj X) ∧ W.cell? ⟨bh, 0, none⟩ = some (.int .i64 i) ∧ W.cell? ⟨bh, 1, none⟩ = some (.int .i64 b) ∧ W.cell? ⟨bj, 0, none⟩ = some (.int .i64 i) ∧ W.cell? ⟨bj, 1, none⟩ = some (.int .i64 b))) (by kernel_rfl) (HSX.out _ H0.out) (fun _ => ?_)
      refine wpAnyH_take (i := 0) (v := ?va0) rfl (by kernel_rfl) (by kernel_rfl) (by kernel_rfl) (fun _ _ _ h => h) (Or.inl ⟨by rfl, ?ha0⟩) (HSX.out _ H0.out) ?ra0
      case ha0 => (intro W hW; (try dsimp only at hW); go_simp; try with_reducible rfl)
      simp only [Act.put, List.getElem_toArray, List.getElem_cons_succ, List.getElem_cons_zero, List.setIfInBounds_toArray, List.set_cons_zero, List.set_cons_succ]
      refine wpAnyH_take (i := 1) (v := ?va1) rfl (by kernel_rfl) (by kernel_rfl) (by kernel_rfl) (fun _ _ _ h => h) (Or.inl ⟨by rfl, ?ha1⟩) (HSX.out _ H0.out) ?ra1
      case ha1 => (intro W hW; (try dsimp only at hW); go_simp; try with_reducible rfl)
      simp only [Act.put, List.getElem_toArray, List.getElem_cons_succ, List.getElem_cons_zero, List.setIfInBounds_toArray, List.set_cons_zero, List.set_cons_succ]
      refine wpAnyH_take (i := 2) (v := ?va2) rfl (by kernel_rfl) (by kernel_rfl) (by kernel_rfl) (fun _ _ _ h => h) (Or.inl ⟨by rfl, ?ha2⟩) (HSX.out _ H0.out) ?ra2
      case ha2 => (intro W hW; (try dsimp only at hW); go_simp; try with_reducible rfl)
      simp only [Act.put, List.getElem_toArray, List.getElem_cons_succ, List.getElem_cons_zero, List.setIfInBounds_toArray, List.set_cons_zero, List.set_cons_succ]
      refine wpAnyH_take (i := 3) (v := ?va3) rfl (by kernel_rfl) (by kernel_rfl) (by kernel_rfl) (fun _ _ _ h => h) (Or.inl ⟨by rfl, ?ha3⟩) (HSX.out _ H0.out) ?ra3
      case ha3 => (intro W hW; (try dsimp only at hW); go_simp; try with_reducible rfl)
      simp only [Act.put, List.getElem_toArray, List.getElem_cons_succ, List.getElem_cons_zero, List.setIfInBounds_toArray, List.set_cons_zero, List.set_cons_succ]
      refine wpAnyH_take (i := 4) (v := ?va4) rfl (by kernel_rfl) (by kernel_rfl) (by kernel_rfl) (fun _ _ _ h => h) (Or.inl ⟨by rfl, ?ha4⟩) (HSX.out _ H0.out) ?ra4
      case ha4 => (intro W hW; (try dsimp only at hW); go_simp; try with_reducible rfl)
      simp only [Act.put, List.getElem_toArray, List.getElem_cons_succ, List.getElem_cons_zero, List.setIfInBounds_toArray, List.set_cons_zero, List.set_cons_succ]
      refine wpAnyH_take (i := 5) (v := ?va5) rfl (by kernel_rfl) (by kernel_rfl) (by kernel_rfl) (fun _ _ _ h => h) (Or.inl ⟨by rfl, ?ha5⟩) (HSX.out _ H0.out) ?ra5
      case ha5 => (intro W hW; (try dsimp only at hW); go_simp; try with_reducible rfl)
      simp only [Act.put, List.getElem_toArray, List.getElem_cons_succ, List.getElem_cons_zero, List.setIfInBounds_toArray, List.set_cons_zero, List.set_cons_succ]
      refine wpAnyH_ready (rs := [6]) (by kernel_rfl) (by simp) ?_
      refine AllReadyH.cons rfl (fun K hK => ?_) AllReadyH.nil
      refine ready_call (f := 10) (vs := #[.slice ar N1 cr]) (by rfl) (by (go_simp; try with_reducible rfl)) ?_
      refine (rstream_any W11.drew ar N1 cr (headR i b :: T) (HWW.out _ H0.out).2.2 (by have := HN1.out; omega) HT.out.1.1 HT.out.2.1).mono ?_
      rintro e w12 ⟨v12, rfl, ho12, hb12⟩
      have H1 : Hid (Below W11.heap.size W11 w12) := Lib.hid (H0.out.trans hb12)
      rw [← HSB.out] at ho12
      obtain ⟨a12, c12, rfl, hr12⟩ := ho12.rd
      rw [← HSL.out] at hr12 ⊢
      have HR12 := Lib.hid hr12
      refine ⟨_, rfl, hK.out _ _ (HSX.out _ H1.out) (fun _ => ?_)⟩
      clear hK K ho12 hb12 hr12
      simp only [Act.put, List.getElem_toArray, List.getElem_cons_succ, List.getElem_cons_zero, List.setIfInBounds_toArray, List.set_cons_zero, List.set_cons_succ]
      refine wpAnyH_strong (S1 := fun W => (((convert 31 9 (.slice av sl cv)).run Tryz.prog W = .ok (.string (strB SB)) W ∧ W.heap[g8]? = some (arrObj Y) ∧ W.heap[g6]? = some (arrObj X) ∧ W.cell? ⟨bh, 0, none⟩ = some (.int .i64 i) ∧ W.cell? ⟨bh, 1, none⟩ = some (.int .i64 b) ∧ W.cell? ⟨bj, 0, none⟩ = some (.int .i64 i) ∧ W.cell? ⟨bj, 1, none⟩ = some (.int .i64 b)) ∧ (convert 31 9 (.slice a12 sl c12)).run Tryz.prog W = .ok (.string (strB SB)) W)) (fun _ h => h.1) ?_
      have HS1 : Hid (∀ W, Below w12.heap.size w12 W → (((convert 31 9 (.slice av sl cv)).run Tryz.prog W = .ok (.string (strB SB)) W ∧ W.heap[g8]? = some (arrObj Y) ∧ W.heap[g6]? = some (arrObj X) ∧ W.cell? ⟨bh, 0, none⟩ = some (.int .i64 i) ∧ W.cell? ⟨bh, 1, none⟩ = some (.int .i64 b) ∧ W.cell? ⟨bj, 0, none⟩ = some (.int .i64 i) ∧ W.cell? ⟨bj, 1, none⟩ = some (.int .i64 b)) ∧ (convert 31 9 (.slice a12 sl c12)).run Tryz.prog W = .ok (.string (strB SB)) W)) := Lib.hid fun W hW => ⟨HSX.out W (H1.out.trans (hW.mono H1.out.size)), conv_rd (HR12.out.later hW) c12⟩
      have HX1 : Hid (Below w12.heap.size w12 w12) := Lib.hid (Below.refl _ _)
      refine wpAnyH_take (i := 7) (v := ?va7) rfl (by kernel_rfl) (by kernel_rfl) (by kernel_rfl) (fun _ _ _ h => h) (Or.inl ⟨by rfl, ?ha7⟩) (HS1.out _ HX1.out) ?ra7
      case ha7 => (intro W hW; (try dsimp only at hW); go_simp; try with_reducible rfl)
      simp only [Act.put, List.getElem_toArray, List.getElem_cons_succ, List.getElem_cons_zero, List.setIfInBounds_toArray, List.set_cons_zero, List.set_cons_succ]
      refine wpAnyH_take (i := 8) (v := ?va8) rfl (by kernel_rfl) (by kernel_rfl) (by kernel_rfl) (fun _ _ _ h => h) (Or.inl ⟨by rfl, ?ha8⟩) (HS1.out _ HX1.out) ?ra8
      case ha8 => (intro W hW; (try dsimp only at hW); go_simp; try with_reducible rfl)
      simp only [Act.put, List.getElem_toArray, List.getElem_cons_succ, List.getElem_cons_zero, List.setIfInBounds_toArray, List.set_cons_zero, List.set_cons_succ]
      refine wpAnyH_take (i := 9) (v := ?va9) rfl (by kernel_rfl) (by kernel_rfl) (by kernel_rfl) (fun _ _ _ h => h) (Or.inl ⟨by rfl, ?ha9⟩) (HS1.out _ HX1.out) ?ra9
      case ha9 => (intro W hW; (try dsimp only at hW); go_simp; try with_reducible rfl)
      simp only [Act.put, List.getElem_toArray, List.getElem_cons_succ, List.getElem_cons_zero, List.setIfInBounds_toArray, List.set_cons_zero, List.set_cons_succ]
      refine wpAnyH_take (i := 10) (v := ?va10) rfl (by kernel_rfl) (by kernel_rfl) (by kernel_rfl) (fun _ _ _ h => h) (Or.inl ⟨by rfl, ?ha10⟩) (HS1.out _ HX1.out) ?ra10
      case ha10 => (intro W hW; (try dsimp only at hW); go_simp; try with_reducible rfl)
      simp only [Act.put, List.getElem_toArray, List.getElem_cons_succ, List.getElem_cons_zero, List.setIfInBounds_toArray, List.set_cons_zero, List.set_cons_succ]
      refine wpAnyH_take (i := 11) (v := ?va11) rfl (by kernel_rfl) (by kernel_rfl) (by kernel_rfl) (fun _ _ _ h => h) (Or.inl ⟨by rfl, ?ha11⟩) (HS1.out _ HX1.out) ?ra11
      case ha11 => (intro W hW; (try dsimp only at hW); go_simp; try with_reducible rfl)
      simp only [Act.put, List.getElem_toArray, List.getElem_cons_succ, List.getElem_cons_zero, List.setIfInBounds_toArray, List.set_cons_zero, List.set_cons_succ]
      refine wpAnyH_take (i := 12) (v := ?va12) rfl (by kernel_rfl) (by kernel_rfl) (by kernel_rfl) (fun _ _ _ h => h) (Or.inl ⟨by rfl, ?ha12⟩) (HS1.out _ HX1.out) ?ra12
      case ha12 => (intro W hW; (try dsimp only at hW); go_simp; try with_reducible rfl)
      simp only [Act.put, List.getElem_toArray, List.getElem_cons_succ, List.getElem_cons_zero, List.setIfInBounds_toArray, List.set_cons_zero, List.set_cons_succ]
      refine wpAnyH_take (i := 13) (v := ?va13) rfl (by kernel_rfl) (by kernel_rfl) (by kernel_rfl) (fun _ _ _ h => h) (Or.inl ⟨by rfl, ?ha13⟩) (HS1.out _ HX1.out) ?ra13
      case ha13 => (intro W hW; (try dsimp only at hW); go_simp; try with_reducible rfl)
      simp only [Act.put, List.getElem_toArray, List.getElem_cons_succ, List.getElem_cons_zero, List.setIfInBounds_toArray, List.set_cons_zero, List.set_cons_succ]
      refine wpAnyH_take (i := 14) (v := ?va14) rfl (by kernel_rfl) (by kernel_rfl) (by kernel_rfl) (fun _ _ _ h => h) (Or.inl ⟨by rfl, ?ha14⟩) (HS1.out _ HX1.out) ?ra14
      case ha14 => (intro W hW; (try dsimp only at hW); go_simp; try with_reducible rfl)
      simp only [Act.put, List.getElem_toArray, List.getElem_cons_succ, List.getElem_cons_zero, List.setIfInBounds_toArray, List.set_cons_zero, List.set_cons_succ]
      refine wpAnyH_take (i := 15) (v := ?va15) rfl (by kernel_rfl) (by kernel_rfl) (by kernel_rfl) (fun _ _ _ h => h) (Or.inl ⟨by rfl, ?ha15⟩) (HS1.out _ HX1.out) ?ra15
      case ha15 => (intro W hW; (try dsimp only at hW); go_simp; try with_reducible rfl)
      simp only [Act.put, List.getElem_toArray, List.getElem_cons_succ, List.getElem_cons_zero, List.setIfInBounds_toArray, List.set_cons_zero, List.set_cons_succ]
      refine wpAnyH_take (i := 16) (v := ?va16) rfl (by kernel_rfl) (by kernel_rfl) (by kernel_rfl) (fun _ _ _ h => h) (Or.inl ⟨by rfl, ?ha16⟩) (HS1.out _ HX1.out) ?ra16
      case ha16 => (intro W hW; (try dsimp only at hW); go_simp; try with_reducible rfl)
      simp only [Act.put, List.getElem_toArray, List.getElem_cons_succ, List.getElem_cons_zero, List.setIfInBounds_toArray, List.set_cons_zero, List.set_cons_succ]
      refine wpAnyH_take (i := 17) (v := ?va17) rfl (by kernel_rfl) (by kernel_rfl) (by kernel_rfl) (fun _ _ _ h => h) (Or.inl ⟨by rfl, ?ha17⟩) (HS1.out _ HX1.out) ?ra17
      case ha17 => (intro W hW; (try dsimp only at hW); go_simp; try with_reducible rfl)
      simp only [Act.put, List.getElem_toArray, List.getElem_cons_succ, List.getElem_cons_zero, List.setIfInBounds_toArray, List.set_cons_zero, List.set_cons_succ]
      refine wpAnyH_take (i := 18) (v := ?va18) rfl (by kernel_rfl) (by kernel_rfl) (by kernel_rfl) (fun _ _ _ h => h) (Or.inl ⟨by rfl, ?ha18⟩) (HS1.out _ HX1.out) ?ra18
      case ha18 => (intro W hW; (try dsimp only at hW); go_simp; try with_reducible rfl)
      simp only [Act.put, List.getElem_toArray, List.getElem_cons_succ, List.getElem_cons_zero, List.setIfInBounds_toArray, List.set_cons_zero, List.set_cons_succ]
      refine wpAnyH_take (i := 19) (v := ?va19) rfl (by kernel_rfl) (by kernel_rfl) (by kernel_rfl) (fun _ _ _ h => h) (Or.inl ⟨by rfl, ?ha19⟩) (HS1.out _ HX1.out) ?ra19
      case ha19 => (intro W hW; (try dsimp only at hW); go_simp; try with_reducible rfl)
      simp only [Act.put, List.getElem_toArray, List.getElem_cons_succ, List.getElem_cons_zero, List.setIfInBounds_toArray, List.set_cons_zero, List.set_cons_succ]
      refine wpAnyH_take (i := 20) (v := ?va20) rfl (by kernel_rfl) (by kernel_rfl) (by kernel_rfl) (fun _ _ _ h => h) (Or.inl ⟨by rfl, ?ha20⟩) (HS1.out _ HX1.out) ?ra20
      case ha20 => (intro W hW; (try dsimp only at hW); go_simp; try with_reducible rfl)
      simp only [Act.put, List.getElem_toArray, List.getElem_cons_succ, List.getElem_cons_zero, List.setIfInBounds_toArray, List.set_cons_zero, List.set_cons_succ]
      refine wpAnyH_take (i := 21) (v := (.agg (cS Y).toArray)) rfl (by kernel_rfl) (by kernel_rfl) (by kernel_rfl) (fun _ _ _ h => h) (Or.inl ⟨by rfl, ?ha21⟩) (HS1.out _ HX1.out) ?ra21
      case ha21 => (intro W hW; exact exec_load_img (by rfl) (by rfl) hW.1.2.1 HFY.out.1)
      simp only [Act.put, List.getElem_toArray, List.getElem_cons_succ, List.getElem_cons_zero, List.setIfInBounds_toArray, List.set_cons_zero, List.set_cons_succ]
      refine wpAnyH_ready (rs := [22]) (by kernel_rfl) (by simp) ?_
      refine AllReadyH.cons rfl (fun K hK => ?_) AllReadyH.nil
      refine ready_call (f := 11) (vs := #[.pointer (some ⟨g', 0, none⟩), .agg (cS Y).toArray]) (by rfl) (by (go_simp; try with_reducible rfl)) ?_
      refine (like_any w12 g' b' q' Y (HWW.out _ H1.out).2.1).mono ?_
      rintro e w13 ⟨rfl, hb13⟩
      have H2 : Hid (Below w12.heap.size w12 w13) := Lib.hid hb13
      refine ⟨_, rfl, hK.out _ _ (HS1.out _ H2.out) (fun _ => ?_)⟩
      clear hK K hb13
      simp only [Act.put, List.getElem_toArray, List.getElem_cons_succ, List.getElem_cons_zero, List.setIfInBounds_toArray, List.set_cons_zero, List.set_cons_succ]
      refine wpAnyH_take (i := 23) (v := ?va23) rfl (by kernel_rfl) (by kernel_rfl) (by kernel_rfl) (fun _ _ _ h => h) (Or.inl ⟨by rfl, ?ha23⟩) (HS1.out _ H2.out) ?ra23
      case ha23 => (intro W hW; (try dsimp only at hW); go_simp; try with_reducible rfl)
      simp only [Act.put, List.getElem_toArray, List.getElem_cons_succ, List.getElem_cons_zero, List.setIfInBounds_toArray, List.set_cons_zero, List.set_cons_succ]
      refine wpAnyH_take (i := 24) (v := ?va24) rfl (by kernel_rfl) (by kernel_rfl) (by kernel_rfl) (fun _ _ _ h => h) (Or.inl ⟨by rfl, ?ha24⟩) (HS1.out _ H2.out) ?ra24
      case ha24 => (intro W hW; (try dsimp only at hW); go_simp; try with_reducible rfl)
      simp only [Act.put, List.getElem_toArray, List.getElem_cons_succ, List.getElem_cons_zero, List.setIfInBounds_toArray, List.set_cons_zero, List.set_cons_succ]
      refine wpAnyH_take (i := 25) (v := ?va25) rfl (by kernel_rfl) (by kernel_rfl) (by kernel_rfl) (fun _ _ _ h => h) (Or.inl ⟨by rfl, ?ha25⟩) (HS1.out _ H2.out) ?ra25
      case ha25 => (intro W hW; (try dsimp only at hW); go_simp; try with_reducible rfl)
      simp only [Act.put, List.getElem_toArray, List.getElem_cons_succ, List.getElem_cons_zero, List.setIfInBounds_toArray, List.set_cons_zero, List.set_cons_succ]
      refine wpAnyH_take (i := 26) (v := (.agg (cS X).toArray)) rfl (by kernel_rfl) (by kernel_rfl) (by kernel_rfl) (fun _ _ _ h => h) (Or.inl ⟨by rfl, ?ha26⟩) (HS1.out _ H2.out) ?ra26
      case ha26 => (intro W hW; exact exec_load_img (by rfl) (by rfl) hW.1.2.2.1 HFX.out.1)
      simp only [Act.put, List.getElem_toArray, List.getElem_cons_succ, List.getElem_cons_zero, List.setIfInBounds_toArray, List.set_cons_zero, List.set_cons_succ]
      refine wpAnyH_ready (rs := [27]) (by kernel_rfl) (by simp) ?_
      refine AllReadyH.cons rfl (fun K hK => ?_) AllReadyH.nil
      refine ready_call (f := 11) (vs := #[.pointer (some ⟨ga, 0, none⟩), .agg (cS X).toArray]) (by rfl) (by (go_simp; try with_reducible rfl)) ?_
      have H13 : Hid (Below W11.heap.size W11 w13) := Lib.hid (H1.out.trans (H2.out.mono H1.out.size))
      refine (like_any w13 ga ba n X (HWW.out _ H13.out).1).mono ?_
      rintro e w14 ⟨rfl, hb14⟩
      have H3 : Hid (Below w12.heap.size w12 w14) := Lib.hid (H2.out.trans (hb14.mono H2.out.size))
      refine ⟨_, rfl, hK.out _ _ (HS1.out _ H3.out) (fun _ => ?_)⟩
      clear hK K hb14
      simp only [Act.put, List.getElem_toArray, List.getElem_cons_succ, List.getElem_cons_zero, List.setIfInBounds_toArray, List.set_cons_zero, List.set_cons_succ]
      obtain ⟨at_, hat⟩ : ∃ at_ : Option Addr, (∀ W : World, (Instr.slice 35 (.slice ar N1 cr) (some (.int .i64 1)) none none).run Tryz.prog W = .ok (.slice at_ T.length (cr - 1)) W) ∧ ∀ W, Below W11.heap.size W11 W → RdP W at_ T.length T := by
        have hr0 := (HWW.out W11 (Below.refl _ _)).2.2
        obtain ⟨br, or_, _, hra, _, _, _⟩ := hr0.at_ (j := 0) (by have := HN1.out; omega)
        subst hra
        refine ⟨if cr = 1 then some ⟨br, or_, none⟩ else some ⟨br, or_ + 9, none⟩, fun W => ?_, fun W hW => ?_⟩
        · have h1 := slice_recs br or_ N1 cr (by have := HN1.out; omega) W
          rw [show N1 - 1 = T.length by have := HN1.out; omega] at h1
          exact h1
        · have h1 := (HWW.out W hW).2.2
          rw [HN1.out.1] at h1
          have h2 := h1.tail rfl
          rw [List.tail_cons] at h2
          by_cases hc1 : cr = 1
          · have ht0 : T.length = 0 := by have := HN1.out; omega
            exact ⟨h2.len, fun h => by omega⟩
          · rw [if_neg hc1]
            exact h2
      obtain ⟨hsl, hrt⟩ := hat
      have HRT := Lib.hid hrt
      clear hrt
      refine wpAnyH_take (i := 28) (v := ?va28) rfl (by kernel_rfl) (by kernel_rfl) (by kernel_rfl) (fun _ _ _ h => h) (Or.inl ⟨by rfl, ?ha28⟩) (HS1.out _ H3.out) ?ra28
      case ha28 => (intro W hW; (try dsimp only at hW); go_simp; try with_reducible rfl)
      simp only [Act.put, List.getElem_toArray, List.getElem_cons_succ, List.getElem_cons_zero, List.setIfInBounds_toArray, List.set_cons_zero, List.set_cons_succ]
      refine wpAnyH_take (i := 29) (v := ?va29) rfl (by kernel_rfl) (by kernel_rfl) (by kernel_rfl) (fun _ _ _ h => h) (Or.inl ⟨by rfl, ?ha29⟩) (HS1.out _ H3.out) ?ra29
      case ha29 => (intro W hW; (try dsimp only at hW); go_simp; try with_reducible rfl)
      simp only [Act.put, List.getElem_toArray, List.getElem_cons_succ, List.getElem_cons_zero, List.setIfInBounds_toArray, List.set_cons_zero, List.set_cons_succ]
      refine wpAnyH_take (i := 30) (v := (.agg (cS X).toArray)) rfl (by kernel_rfl) (by kernel_rfl) (by kernel_rfl) (fun _ _ _ h => h) (Or.inl ⟨by rfl, ?ha30⟩) (HS1.out _ H3.out) ?ra30
      case ha30 => (intro W hW; exact exec_load_img (by rfl) (by rfl) hW.1.2.2.1 HFX.out.1)
      simp only [Act.put, List.getElem_toArray, List.getElem_cons_succ, List.getElem_cons_zero, List.setIfInBounds_toArray, List.set_cons_zero, List.set_cons_succ]
      refine wpAnyH_take (i := 31) (v := ?va31) rfl (by kernel_rfl) (by kernel_rfl) (by kernel_rfl) (fun _ _ _ h => h) (Or.inl ⟨by rfl, ?ha31⟩) (HS1.out _ H3.out) ?ra31
      case ha31 => (intro W hW; (try dsimp only at hW); go_simp; try with_reducible rfl)
      simp only [Act.put, List.getElem_toArray, List.getElem_cons_succ, List.getElem_cons_zero, List.setIfInBounds_toArray, List.set_cons_zero, List.set_cons_succ]
      refine wpAnyH_take (i := 32) (v := ?va32) rfl (by kernel_rfl) (by kernel_rfl) (by kernel_rfl) (fun _ _ _ h => h) (Or.inl ⟨by rfl, ?ha32⟩) (HS1.out _ H3.out) ?ra32
      case ha32 => (intro W hW; (try dsimp only at hW); go_simp; try with_reducible rfl)
      simp only [Act.put, List.getElem_toArray, List.getElem_cons_succ, List.getElem_cons_zero, List.setIfInBounds_toArray, List.set_cons_zero, List.set_cons_succ]
      refine wpAnyH_take (i := 34) (v := (.agg (cS Y).toArray)) rfl (by kernel_rfl) (by kernel_rfl) (by kernel_rfl) (fun _ _ _ h => h) (Or.inl ⟨by rfl, ?ha34⟩) (HS1.out _ H3.out) ?ra34
      case ha34 => (intro W hW; exact exec_load_img (by rfl) (by rfl) hW.1.2.1 HFY.out.1)
      simp only [Act.put, List.getElem_toArray, List.getElem_cons_succ, List.getElem_cons_zero, List.setIfInBounds_toArray, List.set_cons_zero, List.set_cons_succ]
      refine wpAnyH_ready (rs := [33]) (by kernel_rfl) (by simp) ?_
      refine AllReadyH.cons rfl (fun K hK => ?_) AllReadyH.nil
      refine ready_call (f := 12) (vs := #[.agg (cS X).toArray, .slice at_ T.length (cr - 1)]) (by rfl) (by (go_simp; try with_reducible rfl)) ?_
      have H14 : Hid (Below W11.heap.size W11 w14) := Lib.hid (H1.out.trans (H3.out.mono H1.out.size))
      have hra := rapply_any w14 X HFX.out at_ T.length (cr - 1) T (HRT.out _ H14.out) (by have := HN1.out; omega) HT.out.2.2.1 fun y hy => HT.out.2.1 y (by simp [hy])
      rw [HT.out.2.2.2] at hra
      refine hra.mono ?_
      rintro e w15 ⟨rfl, hb15⟩
      have H4 : Hid (Below w12.heap.size w12 w15) := Lib.hid (H3.out.trans (hb15.mono H3.out.size))
      refine ⟨_, rfl, hK.out _ _ (HS1.out _ H4.out) (fun _ => ?_)⟩
      clear hK K hb15 hra
      simp only [Act.put, List.getElem_toArray, List.getElem_cons_succ, List.getElem_cons_zero, List.setIfInBounds_toArray, List.set_cons_zero, List.set_cons_succ]
      refine wpAnyH_take (i := 35) (v := ?va35) rfl (by kernel_rfl) (by kernel_rfl) (by kernel_rfl) (fun _ _ _ h => h) (Or.inl ⟨by rfl, ?ha35⟩) (HS1.out _ H4.out) ?ra35
      case ha35 => (intro W hW; (try dsimp only at hW); go_simp; try with_reducible rfl)
      simp only [Act.put, List.getElem_toArray, List.getElem_cons_succ, List.getElem_cons_zero, List.setIfInBounds_toArray, List.set_cons_zero, List.set_cons_succ]
      refine wpAnyH_take (i := 36) (v := ?va36) rfl (by kernel_rfl) (by kernel_rfl) (by kernel_rfl) (fun _ _ _ h => h) (Or.inl ⟨by rfl, ?ha36⟩) (HS1.out _ H4.out) ?ra36
      case ha36 => (intro W hW; (try dsimp only at hW); go_simp; try with_reducible rfl)
      simp only [Act.put, List.getElem_toArray, List.getElem_cons_succ, List.getElem_cons_zero, List.setIfInBounds_toArray, List.set_cons_zero, List.set_cons_succ]
      refine wpAnyH_take (i := 37) (v := ?va37) rfl (by kernel_rfl) (by kernel_rfl) (by kernel_rfl) (fun _ _ _ h => h) (Or.inl ⟨by rfl, ?ha37⟩) (HS1.out _ H4.out) ?ra37
      case ha37 => (intro W hW; (try dsimp only at hW); go_simp; try with_reducible rfl)
      simp only [Act.put, List.getElem_toArray, List.getElem_cons_succ, List.getElem_cons_zero, List.setIfInBounds_toArray, List.set_cons_zero, List.set_cons_succ]
      refine wpAnyH_done (by kernel_rfl) ?_ _
      go_wp2_with fail
      go_ret
      have h15 := H1.out.trans (H4.out.mono H1.out.size)
      exact ⟨rfl, HBWW.out.trans (h15.mono HBWW.out.size)⟩
    · obtain ⟨_, rfl⟩ | ⟨h0, _⟩ := hq
      rotate_left
      · exact absurd h0 hok
      rw [headR_ok] at hok
      have hib : i < 0 ∨ (0 ≤ i ∧ 1099511627776 < i) ∨ (0 ≤ i ∧ i ≤ 1099511627776 ∧ b < 0) ∨ (0 ≤ i ∧ i ≤ 1099511627776 ∧ 0 ≤ b ∧ 1099511627776 < b) := by simp [isNum] at hok; omega
      clear hok
      rcases hib with h1 | ⟨h1, h2⟩ | ⟨h1, h2, h3⟩ | ⟨h1, h2, h3, h4⟩
      all_goals
        go_wp2
        go_ret
        exact ⟨rfl, HBW9.out⟩
  · have hd : decide ((300 : Int) < (n : Int) + (n' : Int)) = true := by simp; omega
    go_wp2_with fail
    refine (smLives_any w0).mono ?_
    rintro e w1 ⟨rfl, hb01⟩
    have HB1 : Hid (Below w.heap.size w w1) := Lib.hid (HB0.out.trans (hb01.mono HB0.out.size))
    clear hb01
    go_wp2_with fail
    refine (smLives_any w1).mono ?_
    rintro e w2 ⟨rfl, hb2⟩
    go_wp2
    go_ret
    exact ⟨rfl, HB1.out.trans (hb2.mono HB1.out.size)⟩

end Go.Proofs.YtaijldcfoaeogaaGreat

/- StreamMakes returns true at every input: the stream of any image by any base is the document's; it is whole, and, applied to the base, the image; the arguments read as they did. No condition. -/
namespace Go.Proofs.YtaijldcfoaeogaaGreat
open Go.ChangeShapes Go.WideShapes Go.ChangeAt Go.RowKit Go.Deep

set_option maxRecDepth 100000 in
/-- A head that came in. -/
theorem head_open {H : Type} {enc : TypeId × Value → H} {W : World} {b0 : Nat} {held : Bool} {m : Nat} {cs : List Value} {D : DataW H × List MemPlace}
    (h : DataW.trod enc Tryz.prog W b0 (fun _ => true) held m 24 cs = some D) : ∃ x y : Int, cs = [.int .i64 x, .int .i64 y] := by
  obtain ⟨D1, D2⟩ := D
  obtain ⟨zs, k2, _, _, hcl, hzl, hg2⟩ := DataW.trod_struct Tryz.underlying24 h
  have e2 : Tryz.prog.cellsOf 24 = 2 := by kernel_rfl
  have q2 : Tryz.prog.cellsOf 3 = 1 := by kernel_rfl
  rw [e2] at hcl
  obtain ⟨c3, c4, rfl⟩ := list2 hcl
  obtain ⟨z0, z1, rfl⟩ := list2 hzl
  have p0 : DataW.trod enc Tryz.prog W b0 (fun _ => true) held k2 3 [c3] = some z0 := by
    have h0 : DataW.trod enc Tryz.prog W b0 (fun _ => true) held k2 3 (([c3, c4].drop 0).take (Tryz.prog.cellsOf 3)) = some z0 := hg2 0 _ rfl
    rw [q2] at h0
    exact h0
  have p1 : DataW.trod enc Tryz.prog W b0 (fun _ => true) held k2 3 [c4] = some z1 := by
    have h0 : DataW.trod enc Tryz.prog W b0 (fun _ => true) held k2 3 (([c3, c4].drop 1).take (Tryz.prog.cellsOf 3)) = some z1 := hg2 1 _ rfl
    rw [q2] at h0
    exact h0
  obtain ⟨I, e0, _, _⟩ := DataW.trod_int Tryz.underlying3 p0
  obtain ⟨J, e1, _, _⟩ := DataW.trod_int Tryz.underlying3 p1
  simp only [List.cons.injEq, and_true] at e0 e1
  subst e0 e1
  exact ⟨I, J, rfl⟩

set_option maxRecDepth 100000 in
theorem streamMakes_lifted (os : Os) (started : os.Started) (H : Type) (enc : TypeId × Value → H) :
    ReturnsInHanded {} Tryz.checked os 3 .any (Rows.streamMakesSpec.pre6 enc Tryz.prog Tryz.f3 Rows.streamMakesRow.domain false) (Rows.streamMakesSpec.post enc Tryz.prog Tryz.f3 false true false false) := by
  refine returnsInHanded_of_change_sized (C := Tryz.checked) knob1 started (by kernel_rfl) Tryz.func3
    (ChangeSpec.witness6 (enc := enc) (C := Tryz.checked) false ⟨#[], #[.slice none 0 0, .slice none 0 0, .agg #[.int .i64 0, .int .i64 0]], []⟩ 8 (by kernel_rfl) (by kernel_rfl) (by kernel_rfl) (by kernel_rfl)) ?_
  intro W base args ds gs before hval0 hW hcnd hsz0 _
  have hval : ∀ (j : Nat) t v, Tryz.f3.params[j]? = some t → args[j]? = some v → Value.okWide Tryz.prog W .any base t v := hval0
  have hsz : (DataW.weightsEach Tryz.prog (Tryz.f3.params.toList ++ Rows.streamMakesSpec.plain.varTypes Tryz.prog) (ds ++ gs)).all (· ≤ reachBytes) = true := hsz0
  have hW' := hW
  obtain ⟨p, q, hA0, hV, rfl, hfz, hnd⟩ := hW
  have hA : DataW.TrodAll enc Tryz.prog W 0 (fun _ => true) true Tryz.f3.params.toList args.toList ds p := hA0
  rw [Tryz.params3] at hA hval hsz
  obtain ⟨v0, vs0, d0, ds0, p0, q0, hargs, rfl, rfl, h0, r0⟩ := trodAll_cons hA
  obtain ⟨v1, vs1, d1, ds1, p1, q1, hargs1, rfl, rfl, h1, r1⟩ := trodAll_cons r0
  obtain ⟨v2, vs2, d2, ds2, p2, q2, hargs2, rfl, rfl, h2, r2⟩ := trodAll_cons r1
  obtain ⟨rfl, rfl, rfl⟩ := trodAll_nil r2
  obtain rfl : args = #[v0, v1, v2] := by cases args; simp_all
  obtain ⟨rfl, rfl⟩ := trodVars_none hV
  obtain ⟨a0, len0, cap0, rfl⟩ := okWide_slice Tryz.underlying22 (hval 0 22 v0 rfl rfl)
  obtain ⟨a1, len1, cap1, rfl⟩ := okWide_slice Tryz.underlying22 (hval 1 22 v1 rfl rfl)
  obtain ⟨cs2, rfl, _⟩ := okWide_struct Tryz.underlying24 (hval 2 24 v2 rfl rfl)
  have k0 := h0
  have lt0 : ∀ x ∈ p0, x.block < W.heap.size := by obtain ⟨m, hm⟩ := k0; exact DataW.trod_lt m _ _ _ hm
  have k1 := h1
  have lt1 : ∀ x ∈ p1, x.block < W.heap.size := by obtain ⟨m, hm⟩ := k1; exact DataW.trod_lt m _ _ _ hm
  obtain ⟨m0, X0, hX0⟩ := writes_open h0 (fun z hz => by
    have h9 := List.all_eq_true.1 hsz z (DataW.weights_mem_each (j := 0) (t := 22) rfl rfl z hz)
    simpa using h9)
  have k2 := h2
  have lt2 : ∀ x ∈ p2, x.block < W.heap.size := by obtain ⟨m, hm⟩ := k2; exact DataW.trod_lt m _ _ _ hm
  obtain ⟨m1, X1, hX1⟩ := writes_open h1 (fun z hz => by
    have h9 := List.all_eq_true.1 hsz z (DataW.weights_mem_each (j := 1) (t := 22) rfl rfl z hz)
    simpa using h9)
  obtain ⟨m2, t2⟩ := h2
  obtain ⟨x, y, e2⟩ := head_open t2
  simp only [Value.cells] at e2
  clear hA0 hval0
  have walk : Calls Tryz.prog 3 #[.slice a0 len0 cap0, .slice a1 len1 cap1, .agg cs2] W fun e w' => e = .returned (.bool true) ∧ Below W.heap.size W w' := by
    have e3 : cs2 = #[.int .i64 x, .int .i64 y] := by
      have := congrArg List.toArray e2
      simpa using this
    rw [e3]
    exact smakes_walk W a0 len0 cap0 X0 hX0 a1 len1 cap1 X1 hX1 (Nat.le_trans m0 (of_decide_eq_true (by kernel_rfl))) (Nat.le_trans m1 (of_decide_eq_true (by kernel_rfl))) x y
  refine walk.mono fun e W' ⟨he, bel⟩ => ?_
  subst he
  exact ⟨_, rfl, _, _, _, [], _, [], hW', trodAll_mk1 (shut_bool Tryz.underlying4 _), (trodAll_cons_mk (Below.trod laidOut1 (by kernel_rfl) (of_decide_eq_true (by kernel_rfl)) k0 bel lt0) (trodAll_cons_mk (Below.trod laidOut1 (by kernel_rfl) (of_decide_eq_true (by kernel_rfl)) k1 bel lt1) (trodAll_cons_mk (Below.trod laidOut1 (by kernel_rfl) (of_decide_eq_true (by kernel_rfl)) k2 bel lt2) trodAll_mk0))), rfl, bel.frame _, fun h => by cases h⟩

/-- The statement. -/
theorem streamMakes_holds : Rows.StreamMakesSaid :=
  OpenClaim.holds_of_wide 3 Tryz.f3 rfl rfl rfl rfl rfl rfl rfl ⟨rfl, rfl, rfl, rfl, rfl⟩ rfl rfl rfl rfl rfl (by kernel_rfl) Tryz.func3 (by kernel_rfl)
    (of_decide_eq_true (by kernel_rfl)) (by unfold Func.isWrapper; first | (rw [if_pos (by decide +kernel)]; kernel_rfl) | (rw [if_neg (by decide +kernel)]; exact ⟨rfl, rfl⟩))
    (fun os started H enc _ => streamMakes_lifted os started H enc)
#print axioms streamMakes_holds
end Go.Proofs.YtaijldcfoaeogaaGreat
