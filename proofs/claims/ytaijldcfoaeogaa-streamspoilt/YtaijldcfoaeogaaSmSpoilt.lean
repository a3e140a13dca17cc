/- StreamSpoilt, run: a stream that is cut, and one in which a byte is another one, over any world. -/
import Derived.Test.YtaijldcfoaeogaaGSmBackToSmLives
import Derived.Test.YtaijldcfoaeogaaIDiffN
import Derived.Test.YtaijldcfoaeogaaGIRefPutToIMade
import Derived.Test.YtaijldcfoaeogaaGKeepToZeros
import Derived.Test.YtaijldcfoaeogaaCheckOf
namespace Go.Proofs.Ytaijldcfoaeogaa
open Go.RowKit
set_option linter.unusedSimpArgs false

theorem madeF_ok {L : List Wr} (h : ∀ r ∈ L, ∀ y ∈ r.x, y < 256) : okF (madeF L) := by
  unfold madeF
  have : ∀ (F : List (List Nat)), okF F → okF (L.foldl stepW F) := by
    induction L with
    | nil => intro F hF; exact hF
    | cons r L ih => intro F hF; exact ih (fun q hq => h q (by simp [hq])) _ (stepW_ok hF r (h r (by simp)))
  exact this _ holes_ok

/-- A place in bytes: any number, as it is taken. -/
theorem uMod (i : Int) {m : Nat} (hm : 0 < m) (hm2 : m ≤ 1000000) : ∃ k : Nat, k < m ∧ wrap64 ((IntKind.u64.wrap i).tmod (m : Int)) = (k : Int) := by
  have h : IntKind.u64.wrap i = i % 18446744073709551616 := by
    simp [IntKind.wrap, IntKind.signed, IntKind.bits]
  have h1 : 0 ≤ i % 18446744073709551616 := by omega
  have h2 := Int.emod_nonneg (i % 18446744073709551616) (show (m : Int) ≠ 0 by omega)
  have h3 := Int.emod_lt_of_pos (i % 18446744073709551616) (show (0 : Int) < m by omega)
  refine ⟨(i % 18446744073709551616 % (m : Int)).toNat, by omega, ?_⟩
  rw [h, Int.tmod_eq_emod_of_nonneg h1]
  unfold wrap64
  omega

set_option maxHeartbeats 4000000 in
set_option maxRecDepth 100000 in
theorem spoilt_walk (w : World) (a : Option Addr) (n c : Nat) (L : List Wr) (h : RdW w a n L) (p0 p1 : Int) (bits : Nat) (hb : bits < 256) :
    Calls Try.prog 3 #[.slice a n c, .agg #[.int .i64 p0, .int .i64 p1], .int .u8 (bits : Int)] w fun e w' => e = .returned (.bool true) ∧ Below w.heap.size w w' := by
  obtain ⟨w0, hw0⟩ : ∃ w0, w0 = w.alloc (.cells #[.int .i64 p0, .int .i64 p1] 23) := ⟨_, rfl⟩
  have HB0 : Hid (Below w.heap.size w w0) := Lib.hid (by rw [hw0]; exact Below.alloc0 _ _)
  have hx0 : w0.heap[w.heap.size]? = some (.cells #[.int .i64 p0, .int .i64 p1] 23 (0, 0)) := by rw [hw0]; exact heap_alloc_new w _
  have d0 : w0.cell? ⟨w.heap.size, 0, none⟩ = some (.int .i64 p0) := by simp [World.cell?, hx0]
  have d1 : w0.cell? ⟨w.heap.size, 1, none⟩ = some (.int .i64 p1) := by simp [World.cell?, hx0]
  have HR := Lib.hid h
  have HW := Lib.hid hw0
  have HL := Lib.hid smLives_any
  clear h hw0 hx0
  go_enter Try.func3, Try.ntmps3
  go_upto_region 1 with fail
  try change Code.wp _ _ _ _ (w.alloc (.cells #[.int .i64 p0, .int .i64 p1] 23))
  rw [← HW.out]
  go_region
  go_wp2_with fail
  refine (HL.out _).mono ?_
  rintro e w1 ⟨rfl, hb1⟩
  have HB1 : Hid (Below w.heap.size w w1) := Lib.hid (HB0.out.drew.trans (hb1.mono (by have := HB0.out.size; simpa using this)))
  clear hb1 d0 d1
  by_cases hn : n ≤ 100
  · by_cases h0 : bits = 0
    · subst h0
      have hn' : ¬ ((100 : Int) < (n : Int)) := by omega
      go_wp2_with fail
      refine (HL.out _).mono ?_
      rintro e w2 ⟨rfl, hb2⟩
      go_wp2
      go_ret
      exact ⟨rfl, HB1.out.trans (hb2.mono HB1.out.size)⟩
    · have h0' : ((bits : Int) == 0) = false := by simp; omega
      have hn' : ¬ ((100 : Int) < (n : Int)) := by omega
      have HM := Lib.hid (made_any w1 a n c L (HR.out.later HB1.out) (by omega))
      have HOk : Hid (okF (madeF L)) := Lib.hid (madeF_ok fun r hr y hy => (HR.out.each r hr).2.2.2.1 y hy)
      go_wp2_with fail
      refine HM.out.mono ?_
      rintro e w2 ⟨g, b, rfl, hg, hbg, him, hb2⟩
      have HI2 := Lib.hid him
      have HB2 : Hid (Below w.heap.size w w2) := Lib.hid (HB1.out.trans (hb2.mono HB1.out.size))
      clear him hb2 hg hbg
      have HZ : Hid ((w2.alloc (.cells Try.zeroCells27 27)).heap[w2.heap.size]? = some (arrObj (List.replicate 256 []))) := Lib.hid (by rw [zero_img]; exact heap_alloc_new w2 _)
      go_upto_region 5 with (refine wpList_store_img rfl (.tmp 10) (.tmp 40) rfl _ (List.replicate 256 []) (madeF L) rfl rfl HZ.out List.length_replicate HOk.out.1 ?_; intro w3 H3)
      have HB3 : Hid (Below w2.heap.size w2 w3) := Lib.hid (by rw [H3.out]; exact (Below.alloc0 _ _).trans (put_below _ (Nat.le_refl _)))
      have HI3 : Hid (Img w3 g b n (madeF L)) := Lib.hid (HI2.out.later HB3.out)
      have HBW3 : Hid (Below w.heap.size w w3) := Lib.hid (HB2.out.trans (HB3.out.mono HB2.out.size))
      have hok1 : (headR 1 0).ok = true := by decide
      have HMK := Lib.hid (make_any w3 1 0 g b n (madeF L) holes (.pointer none) HI3.out holes_ok fun W hW => diff_nil W g b n (madeF L) (HI3.out.later hW) (by omega))
      have HOK := Lib.hid hok1
      clear H3 HZ hok1
      go_wp2_with fail
      refine HMK.out.mono ?_
      rintro e w4 ⟨hb4, ⟨hno, _⟩ | ⟨_, M, N, v, hM, hN, rfl, ho⟩⟩
      · rw [HOK.out] at hno; cases hno
      have HB4 : Hid (Below w.heap.size w w4) := Lib.hid (HBW3.out.trans (hb4.mono HBW3.out.size))
      have hrk := recs_ok HOk.out holes_ok HOK.out hM hN
      have hpt := recs_parts HOk.out holes_ok hM hN
      obtain ⟨XS, hXS⟩ : ∃ XS, XS = recsR 1 0 (madeF L) M N := ⟨_, rfl⟩
      have hlen := strm_len (x := headR 1 0) (xs := (pcsR M).map (dataR (madeF L)) ++ N.map holeR) HOK.out hrk.1 (by have := hrk.2; simp [recsR] at this ⊢; omega)
      have hx4 : ∀ y ∈ recsR 1 0 (madeF L) M N, y.ok = true ∧ y.k ≠ 4 := by
        intro y hy
        refine ⟨hrk.1 y hy, ?_⟩
        simp only [recsR, List.mem_cons] at hy
        rcases hy with rfl | hy
        · simp [headR]
        · exact (hpt y hy).2.2
      have htl : (tailR (recsR 1 0 (madeF L) M N)).ok = true ∧ (tailR (recsR 1 0 (madeF L) M N)).k = 4 := ⟨tailR_ok hrk.1 (by have := hrk.2; omega), rfl⟩
      obtain ⟨av, cv, rfl, hrd, hcap⟩ := ho.sl
      have HCUT : Hid (∀ k, k < (strmB (recsR 1 0 (madeF L) M N)).length → (strm ((strmB (recsR 1 0 (madeF L) M N)).take k)).2 ≠ 0) := Lib.hid fun k hk => whl_cut hx4 htl hrd.2.1 k _ hk
      have HSP : Hid (∀ j v, j < (strmB (recsR 1 0 (madeF L) M N)).length → v < 256 → v ≠ (strmB (recsR 1 0 (madeF L) M N)).getD j 0 → (strm ((strmB (recsR 1 0 (madeF L) M N)).set j v)).2 ≠ 0) := Lib.hid fun j v hj hv hne => whl_spoilt hx4 htl rfl rfl rfl hrd.2.1 j v _ hj hv hne
      have hl2 : (strmB (recsR 1 0 (madeF L) M N)).length ≤ 1000000 ∧ 12 ≤ (strmB (recsR 1 0 (madeF L) M N)).length := by
        have h2 := hrk.2
        have h3 : recsR 1 0 (madeF L) M N = headR 1 0 :: ((pcsR M).map (dataR (madeF L)) ++ N.map holeR) := rfl
        rw [h3] at h2 ⊢
        rw [List.length_cons] at h2
        omega
      obtain ⟨B, hB⟩ : ∃ B, B = strmB (recsR 1 0 (madeF L) M N) := ⟨_, rfl⟩
      rw [← hB] at hrd hcap HCUT HSP hl2 ho ⊢
      obtain ⟨bl, hbl⟩ : ∃ bl, bl = B.length := ⟨_, rfl⟩
      rw [← hbl] at hrd hcap HCUT HSP hl2 ⊢
      have HRD := Lib.hid hrd
      clear hb4 hM hN ho hrk hpt hXS hlen hx4 htl hrd hB
      obtain ⟨hl2a, hl2b⟩ := hl2
      obtain ⟨k, hk, hke⟩ := uMod p1 (m := bl) (by omega) hl2a
      obtain ⟨j, hj, hje⟩ := uMod p0 (m := bl) (by omega) hl2a
      have hst := fun W => slice_to av bl cv k .i64 (by omega) W
      have HBL := Lib.hid hbl
      have hrk := HRD.out.first (k := k) (by omega)
      have HW1 := Lib.hid (whole_any w4 av k cv (B.take k) hrk (by omega))
      have HCU := Lib.hid (HCUT.out k hk)
      clear hbl hrk
      go_wp2_with fail
      refine HW1.out.mono ?_
      rintro e w5 ⟨hb5, ⟨hno, rfl⟩ | ⟨hyes, _⟩⟩
      rotate_left
      · exact absurd hyes HCU.out
      obtain ⟨E1, hE1⟩ : ∃ E1, E1 = (strm (B.take k)).2 := ⟨_, rfl⟩
      rw [← hE1] at hno ⊢
      have he1 : ((E1 : Int) != 0) = true := by simp; omega
      have HB5 : Hid (Below w.heap.size w w5) := Lib.hid (HB4.out.trans (hb5.mono HB4.out.size))
      have HRD5 := Lib.hid (HRD.out.later hb5)
      clear hE1 hno hb5 hst
      go_upto_region 9 with fail
      obtain ⟨w6, hw6⟩ : ∃ w6, w6 = w5.alloc (.cells #[.int .i64 0, .int .i64 0] 35) := ⟨_, rfl⟩
      have HB6 : Hid (Below w.heap.size w w6) := Lib.hid (by rw [hw6]; exact HB5.out.alloc HB5.out.size _)
      have HRD6 : Hid (Rd w6 av bl B) := Lib.hid (by rw [hw6]; exact HRD5.out.later (Below.alloc0 _ _))
      try change Code.wp _ _ _ _ (w5.alloc (.cells #[.int .i64 0, .int .i64 0] 35))
      rw [← hw6]
      clear hw6
      have HF6 := Lib.hid (heap_alloc_new w6 (.cells #[] 5))
      go_upto_region 10 with (refine wpList_fresh rfl (.tmp 63) (.tmp 64) rfl _ rfl av bl cv rfl HF6.out B (HRD6.out.later (Below.alloc0 _ _)) (by omega) ?_; intro gc cc w7 h71 h72 h73)
      have HB7 : Hid (Below w.heap.size w w7) := Lib.hid (by
        have h1 := HB6.out
        have h2 : Below w6.heap.size w6 w7 := (Below.alloc0 w6 (.cells #[] 5)).trans ⟨h73.os, h73.tape, h73.output, h73.size, fun q hq => h73.block q (by simp; omega) (by simp; omega)⟩
        exact h1.trans (h2.mono h1.size))
      have HGC : Hid (w.heap.size ≤ gc) := Lib.hid (Nat.le_trans HB6.out.size h71)
      obtain ⟨_, cur, hcur⟩ := owns_block h72.2 (k := gc) rfl
      have hrd7 := h72.asSlice1 HBL.out.symm
      obtain ⟨z, hz⟩ : ∃ z, z = B.getD j 0 := ⟨_, rfl⟩
      have hz8 : z < 256 := by rw [hz]; exact hrd7.2.1 _ (by simp [List.getD, show j < B.length by have := HBL.out; omega])
      have hcz : w7.cell? ⟨gc, j, none⟩ = some (.int .u8 (z : Int)) := by
        obtain ⟨b', o', e', hc'⟩ := hrd7.2.2 (by omega)
        injection e' with e'
        injection e' with e1 e2
        subst e1
        subst e2
        rw [hz]
        simpa using hc' j hj
      have hfr : w7.frozen? ⟨gc, j, none⟩ = false := by simp [World.frozen?, hcur]
      have hxo := u8_xor_nat z bits hz8 hb
      have hx8 : z ^^^ bits < 256 := Nat.xor_lt_two_pow (n := 8) hz8 hb
      have hset := h72.set HBL.out.symm j (z ^^^ bits) hx8
      have hbs := (Below.refl w.heap.size w7).setCell (p := ⟨gc, j, none⟩) HGC.out (.int .u8 ((z ^^^ bits : Nat) : Int))
      have HSP2 := Lib.hid (HSP.out j (z ^^^ bits) hj hx8 (by
        rw [← hz]
        intro e
        have h9 : z ^^^ (z ^^^ bits) = z ^^^ z := by rw [e]
        rw [← Nat.xor_assoc, Nat.xor_self, Nat.zero_xor] at h9
        exact h0 h9))
      have HSET := Lib.hid hset
      have HBS := Lib.hid hbs
      clear h71 h72 h73 hrd7 hz hset hbs hcur
      go_upto_region 11 with fail
      try rw [hxo]
      obtain ⟨w8, hw8⟩ : ∃ w8, w8 = w7.setCell ⟨gc, j, none⟩ (.int .u8 ((z ^^^ bits : Nat) : Int)) := ⟨_, rfl⟩
      rw [← hw8] at HSET HBS ⊢
      have HB8 : Hid (Below w.heap.size w w8) := Lib.hid (HB7.out.trans HBS.out)
      have hrd8 := HSET.out.asSlice1 (by rw [List.length_set]; exact HBL.out.symm)
      have HW8 := Lib.hid (whole_any w8 (some ⟨gc, 0, none⟩) bl cc (B.set j (z ^^^ bits)) hrd8 (by omega))
      clear hw8 hrd8 hcz hfr hxo
      go_wp2_with fail
      refine HW8.out.mono ?_
      rintro e w9 ⟨hb9, ⟨hno, rfl⟩ | ⟨hyes, _⟩⟩
      rotate_left
      · exact absurd hyes HSP2.out
      obtain ⟨E2, hE2⟩ : ∃ E2, E2 = (strm (B.set j (z ^^^ bits))).2 := ⟨_, rfl⟩
      rw [← hE2] at hno ⊢
      have he2 : ((E2 : Int) != 0) = true := by simp; omega
      have HB9 : Hid (Below w.heap.size w w9) := Lib.hid (HB8.out.trans (hb9.mono HB8.out.size))
      clear hE2 hno hb9
      go_wp2
      go_ret
      exact ⟨rfl, HB9.out.alloc HB9.out.size _⟩
  · have hn' : ((100 : Int) < (n : Int)) := by omega
    go_wp2_with fail
    refine (HL.out _).mono ?_
    rintro e w2 ⟨rfl, hb2⟩
    go_wp2
    go_ret
    exact ⟨rfl, HB1.out.trans (hb2.mono HB1.out.size)⟩

end Go.Proofs.Ytaijldcfoaeogaa
