/- Is an image the document's: Like. -/
import Derived.Test.YtaijldcfoaeogaaGreatIRefPut
import Derived.BigQuiet
import Derived.Test.YtaijldcfoaeogaaGreatGKeepToINew
import Derived.Lib.MinMax
import Derived.Test.YtaijldcfoaeogaaGreatGIEqToISame
import Derived.Test.YtaijldcfoaeogaaGreatOrders
namespace Go.Proofs.YtaijldcfoaeogaaGreat
open Go.RowKit
set_option maxRecDepth 100000
set_option linter.unusedSimpArgs false

theorem strB_nil : strB [] = { data := #[] } := rfl

theorem strB_ne {l : List Nat} (h : l ≠ []) : (strB l).toList ≠ [] := by
  intro e
  rw [ByteArray.toList_eq] at e
  have := congrArg List.length e
  have h2 := strB_size l
  simp only [Array.length_toList, List.length_nil] at this
  have h3 : (strB l).size = (strB l).data.size := rfl
  exact h (List.eq_nil_of_length_eq_zero (by omega))

set_option maxHeartbeats 1000000 in
set_option maxRecDepth 100000 in
theorem like_any (w : World) (g b n : Nat) (F : List (List Nat)) (h : Img w g b n F) :
    Calls Tryz.prog 11 #[.pointer (some ⟨g, 0, none⟩), .agg (cS F).toArray] w fun e w' => e = .returned (.bool true) ∧ Below w.heap.size w w' := by
  have HI := Lib.hid h
  obtain ⟨g3, hg3⟩ : ∃ g3, g3 = w.heap.size := ⟨_, rfl⟩
  clear h
  go_enter Tryz.func11, Tryz.ntmps11
  go_upto_region 1 with fail
  change Code.wp _ _ _ _ (w.alloc (arrObj F))
  obtain ⟨w2, h2⟩ : ∃ w2, w2 = w.alloc (arrObj F) := ⟨_, rfl⟩
  rw [← h2, ← hg3]
  have HB2 : Hid (Below g3 w w2) := Lib.hid (by rw [h2, hg3]; exact Below.alloc0 _ _)
  have HS2 : Hid (w2.heap.size = g3 + 1) := Lib.hid (by rw [h2, hg3]; simp)
  have HA2 : Hid (w2.heap[g3]? = some (arrObj F)) := Lib.hid (by rw [h2, hg3]; exact heap_alloc_last _ _)
  have HG := Lib.hid hg3
  have HI2 := Lib.hid (HI.out.later (by rw [← HG.out]; exact HB2.out))
  clear h2 hg3
  go_wp2
  go_loopg [8] 256 (fun gk i wr => ∃ k : Nat, gk = 256 - k ∧ k ≤ 256 ∧ i = .int .i64 (k : Int) ∧ Hid (Below w2.heap.size w2 wr))
  case atStart => exact ⟨0, rfl, by omega, rfl, Lib.hid (Below.refl _ _)⟩
  case round =>
    obtain ⟨k, hgk, hk, rfl, HB⟩ := hrel
    have HGK := Lib.hid hgk
    clear hgk
    by_cases hlt : k < 256
    · have hlt' : (k : Int) < 256 := by omega
      have HIr := Lib.hid (HI2.out.later HB.out)
      have hwf : (Lit.int .i64 (k : Int)).wf = true := WalkArith.wf_i64 (by omega)
      obtain ⟨l, hl⟩ : ∃ l, l = fAt F (k : Int) := ⟨_, rfl⟩
      have hfk : F.getD k [] = l := by rw [hl, fAt_nat]
      rcases HI.out.ok.at_ (k : Int) with h0 | h0
      · have HGet := Lib.hid (get_hole wr g b n F (k : Int) HIr.out hwf h0)
        have hl0 : l = [] := by rw [hl, h0]
        subst hl0
        have HFK := Lib.hid hfk
        clear hl hfk h0 hwf
        go_wp2_with fail
        refine HGet.out.mono ?_
        rintro e w3 ⟨rfl, hb3⟩
        have HB3 := Lib.hid hb3
        have hc : w3.cell? ⟨g3, k, none⟩ = some (.string (strB [])) := by
          have := arr_cell (w := w3) (j := k) ((hb3.block g3 (by have := HB.out.size; have := HS2.out; omega)).trans ((HB.out.block g3 (by have := HS2.out; omega)).trans HA2.out)) (by rw [HI.out.ok.1]; exact hlt)
          rw [HFK.out] at this
          exact this
        rw [strB_nil] at hc
        have hcv : ∀ W : World, (convert 31 9 (.slice none 0 0)).run Tryz.prog W = .ok (.string { data := #[] }) W := fun W => conv_rd (w := W) (a := none) (n := 0) (l := []) ⟨rfl, by simp, by simp⟩ 0
        clear hb3
        go_upto_region 5 with fail
        go_quiet (fail)
        go_wp2
        go_roundg (256 - (k + 1))
        case measure => have := HGK.out; omega
        case rel => exact ⟨k + 1, rfl, by omega, by go_num, Lib.hid ((HB.out.trans (HB3.out.mono HB.out.size)).trans ⟨rfl, rfl, rfl, Nat.le_refl _, fun _ _ => rfl⟩)⟩
      · have hne := h0.ne
        have HGet := Lib.hid (get_block wr g b n F (k : Int) HIr.out hwf hne)
        rw [← hl] at HGet hne
        have HFK := Lib.hid hfk
        clear hl hfk h0 hwf
        go_wp2_with fail
        refine HGet.out.mono ?_
        rintro e w3 ⟨a3, c3, rfl, hr3, hb3⟩
        have HB3 := Lib.hid hb3
        have hc : w3.cell? ⟨g3, k, none⟩ = some (.string (strB l)) := by
          have := arr_cell (w := w3) (j := k) ((hb3.block g3 (by have := HB.out.size; have := HS2.out; omega)).trans ((HB.out.block g3 (by have := HS2.out; omega)).trans HA2.out)) (by rw [HI.out.ok.1]; exact hlt)
          rw [HFK.out] at this
          exact this
        have hcv : ∀ m, (convert 31 9 (.slice a3 32 c3)).run Tryz.prog (w3.drewN m) = .ok (.string (strB l)) (w3.drewN m) := fun m => conv_rd (w := w3.drewN m) hr3 c3
        have hse := strB_ne hne
        generalize strB l = sl at hc hcv hse
        have hse1 : (sl.toList == ([] : List UInt8)) = false := by simp [hse]
        have hse2 : sl.toList.isEmpty = false := by simp [hse]
        have HSE := Lib.hid hse
        clear hse
        clear hb3 hr3 hne
        go_upto_region 5 with fail
        go_quiet (fail)
        go_wp2
        go_roundg (256 - (k + 1))
        case measure => have := HGK.out; omega
        case rel => exact ⟨k + 1, rfl, by omega, by go_num, Lib.hid ((HB.out.trans (HB3.out.mono HB.out.size)).trans ⟨rfl, rfl, rfl, Nat.le_refl _, fun _ _ => rfl⟩)⟩
    · obtain rfl : k = 256 := by omega
      go_wp2
      go_ret
      exact ⟨rfl, by rw [← HG.out]; exact HB2.out.trans (HB.out.mono (by rw [HS2.out]; omega))⟩

end Go.Proofs.YtaijldcfoaeogaaGreat

/- Any writes: the image, and the document's (Made). -/
namespace Go.Proofs.YtaijldcfoaeogaaGreat
open Go.RowKit
set_option maxRecDepth 100000
set_option linter.unusedSimpArgs false

/-- A write: where, whether it clears, the bytes (and their slice). -/
structure Wr where
  i : Int
  clr : Bool
  a : Option Addr
  m : Nat
  c : Nat
  x : List Nat

instance : Inhabited Wr := ⟨⟨0, false, none, 0, 0, []⟩⟩

/-- Where a write goes. -/
def Wr.k (r : Wr) : Nat := (r.i % 256).toNat

theorem Wr.k_lt (r : Wr) : r.k < 256 := by unfold Wr.k; omega

def stepW (F : List (List Nat)) (r : Wr) : List (List Nat) := F.set r.k (if r.clr then [] else padB (r.x.take 32))

def madeF (L : List Wr) : List (List Nat) := L.foldl stepW holes

/-- The slice '.slice a n _' reads as the writes L. -/
structure RdW (w : World) (a : Option Addr) (n : Nat) (L : List Wr) : Prop where
  len : L.length = n
  each : ∀ r ∈ L, (Lit.int .i64 r.i).wf = true ∧ r.m ≤ r.c ∧ Rd w r.a r.m r.x
  cells : 0 < n → ∃ b o, a = some ⟨b, o, none⟩ ∧ ∀ j, j < n → w.cell? ⟨b, o + j * 3, none⟩ = some (.int .i64 (L.getD j default).i) ∧ w.cell? ⟨b, o + j * 3 + 1, none⟩ = some (.bool (L.getD j default).clr) ∧
    w.cell? ⟨b, o + j * 3 + 2, none⟩ = some (.slice (L.getD j default).a (L.getD j default).m (L.getD j default).c)

theorem RdW.later {w w' : World} {a : Option Addr} {n : Nat} {L : List Wr} (h : RdW w a n L) (hb : Below w.heap.size w w') : RdW w' a n L := by
  refine ⟨h.len, fun r hr => ⟨(h.each r hr).1, (h.each r hr).2.1, (h.each r hr).2.2.later hb⟩, fun hn => ?_⟩
  obtain ⟨b, o, rfl, hc⟩ := h.cells hn
  refine ⟨b, o, rfl, fun j hj => ?_⟩
  have hlt : b < w.heap.size := World.block_lt_of_cell? w _ (hc j hj).1
  exact ⟨(hb.cell (p := ⟨b, o + j * 3, none⟩) hlt).trans (hc j hj).1, (hb.cell (p := ⟨b, o + j * 3 + 1, none⟩) hlt).trans (hc j hj).2.1, (hb.cell (p := ⟨b, o + j * 3 + 2, none⟩) hlt).trans (hc j hj).2.2⟩

theorem RdW.at_ {w : World} {a : Option Addr} {n : Nat} {L : List Wr} (h : RdW w a n L) {j : Nat} (hj : j < n) :
    ∃ b o r, a = some ⟨b, o, none⟩ ∧ r = L.getD j default ∧ r ∈ L ∧ w.cell? ⟨b, o + j * 3, none⟩ = some (.int .i64 r.i) ∧ w.cell? ⟨b, o + j * 3 + 1, none⟩ = some (.bool r.clr) ∧ w.cell? ⟨b, o + j * 3 + 2, none⟩ = some (.slice r.a r.m r.c) := by
  obtain ⟨b, o, rfl, hc⟩ := h.cells (by omega)
  have hjl : j < L.length := by rw [h.len]; exact hj
  exact ⟨b, o, _, rfl, rfl, by simp [List.getD, hjl], hc j hj⟩

theorem madeF_take {L : List Wr} {j : Nat} (hj : j < L.length) : madeF (L.take (j + 1)) = stepW (madeF (L.take j)) (L.getD j default) := by
  unfold madeF
  rw [List.take_succ_eq_append_getElem hj, List.foldl_append]
  simp [List.getD, hj]

theorem stepW_ok {F : List (List Nat)} (h : okF F) (r : Wr) (hr : ∀ y ∈ r.x, y < 256) : okF (stepW F r) := by
  refine h.set _ ?_
  split
  · exact .inl rfl
  · exact .inr (padB_ok (by rw [List.length_take]; omega) fun y hy => hr y (List.mem_of_mem_take hy))

theorem take_min {x : List Nat} {m : Nat} (h : x.length = m) : x.take (min m 32) = x.take 32 := by
  rcases Nat.le_total m 32 with h1 | h1
  · rw [Nat.min_eq_left h1, List.take_of_length_le (by omega), List.take_of_length_le (by omega)]
  · rw [Nat.min_eq_right h1]

theorem wIdx (i : Int) : wrap64 ((IntKind.u64.wrap i).tmod 256) = (((i % 256).toNat : Nat) : Int) := by
  have h : IntKind.u64.wrap i = i % 18446744073709551616 := by
    simp [IntKind.wrap, IntKind.signed, IntKind.bits]
  rw [h, Int.tmod_eq_emod_of_nonneg (by omega)]
  unfold wrap64
  omega

set_option maxHeartbeats 2000000 in
set_option maxRecDepth 100000 in
theorem made_any (w : World) (a : Option Addr) (n c : Nat) (L : List Wr) (h : RdW w a n L) (hn : n ≤ 1000) :
    Calls Tryz.prog 6 #[.slice a n c] w fun e w' => ∃ g b, e = .returned (.tuple #[.pointer (some ⟨g, 0, none⟩), .agg (cS (madeF L)).toArray]) ∧ w.heap.size ≤ g ∧ w.heap.size ≤ b ∧ Img w' g b n (madeF L) ∧ Below w.heap.size w w' := by
  have HR := Lib.hid h
  obtain ⟨g3, hg3⟩ : ∃ g3, g3 = w.heap.size := ⟨_, rfl⟩
  clear h
  go_enter Tryz.func6, Tryz.ntmps6
  go_upto_region 1 with fail
  rw [zero_img]
  change Code.wp _ _ _ _ (w.alloc (arrObj holes))
  obtain ⟨w2, h2⟩ : ∃ w2, w2 = w.alloc (arrObj holes) := ⟨_, rfl⟩
  rw [← h2, ← hg3]
  have HB2 : Hid (Below g3 w w2) := Lib.hid (by rw [h2, hg3]; exact Below.alloc0 _ _)
  have HS2 : Hid (w2.heap.size = g3 + 1) := Lib.hid (by rw [h2, hg3]; simp)
  have HA2 : Hid (w2.heap[g3]? = some (arrObj holes)) := Lib.hid (by rw [h2, hg3]; exact heap_alloc_last _ _)
  have HG := Lib.hid hg3
  clear h2 hg3
  have HN := Lib.hid (imgNew_any w2)
  go_wp2_with fail
  refine HN.out.mono ?_
  rintro e w3 ⟨g, b, rfl, hgg, hbb, himg, hb3⟩
  have HGB := Lib.hid (And.intro hgg hbb)
  have HI3 := Lib.hid himg
  have HB3 := Lib.hid hb3
  clear hgg hbb himg hb3 HN
  obtain ⟨g5, hg5⟩ : ∃ g5, g5 = w3.heap.size := ⟨_, rfl⟩
  go_upto_region 3 with fail
  rw [zero_img]
  change Code.wp _ _ _ _ (w3.alloc (arrObj holes))
  obtain ⟨w4, h4⟩ : ∃ w4, w4 = w3.alloc (arrObj holes) := ⟨_, rfl⟩
  rw [← h4, ← hg5]
  have HB4 : Hid (Below g3 w w4) := Lib.hid (by rw [h4]; exact (HB2.out.trans (HB3.out.mono (by rw [HS2.out]; omega))).trans ((Below.alloc0 _ _).mono (by have := HB3.out.size; have := HS2.out; omega)))
  have HS4 : Hid (w4.heap.size = g5 + 1) := Lib.hid (by rw [h4, hg5]; simp)
  have HA4 : Hid (w4.heap[g5]? = some (arrObj holes)) := Lib.hid (by rw [h4, hg5]; exact heap_alloc_last _ _)
  have HA43 : Hid (w4.heap[g3]? = some (arrObj holes)) := Lib.hid (by
    rw [h4]
    exact (Below.heap_alloc _ _ _ (by have := HB3.out.size; have := HS2.out; omega)).trans ((HB3.out.block g3 (by rw [HS2.out]; omega)).trans HA2.out))
  have HI4 : Hid (Img w4 g b 0 holes) := Lib.hid (by rw [h4]; exact HI3.out.later (Below.alloc0 _ _))
  have HNE : Hid (g3 < g ∧ g3 < b ∧ g < g5 ∧ b < g5) := Lib.hid ⟨by have := HGB.out; have := HS2.out; omega, by have := HGB.out; have := HS2.out; omega, by rw [hg5]; exact HI3.out.lt, by rw [hg5]; exact HI3.out.map.lt⟩
  clear h4 hg5 HI3 HB3 HA2 HGB
  go_wp2
  go_loopg [13] n (fun gk i wr => ∃ (j q : Nat), gk = n - j ∧ j ≤ n ∧ i = .int .i64 (j : Int) ∧ Hid (q ≤ j) ∧ Hid (Img wr g b q (madeF (L.take j))) ∧ Hid (wr.heap[g5]? = some (arrObj (madeF (L.take j)))) ∧ Hid (wr.heap[g3]? = some (arrObj holes)) ∧ Hid (Below g3 w wr))
  case atStart => exact ⟨0, 0, rfl, Nat.zero_le _, rfl, Lib.hid (Nat.le_refl _), HI4, HA4, HA43, HB4⟩
  case round =>
    obtain ⟨j, q, hgk, hj, rfl, HQ, HI, HA5, HA3, HB⟩ := hrel
    have HGK := Lib.hid hgk
    clear hgk
    by_cases hlt : j < n
    · have hrr := HR.out.later (by rw [← HG.out]; exact HB.out)
      obtain ⟨ba, oa, r, rfl, hre, hrm, c0, c1, c2⟩ := hrr.at_ hlt
      obtain ⟨hwf, hmc, hrx⟩ := hrr.each r hrm
      have HR0 := Lib.hid (HR.out.each r hrm).2.2
      have HRe := Lib.hid hre
      have HRx := Lib.hid hrx
      have HMF := Lib.hid (madeF_take (L := L) (j := j) (by rw [HR.out.len]; exact hlt))
      obtain ⟨ri, rc, ra, rm, rcap, rx⟩ := r
      simp only at c0 c1 c2 hwf hmc HRx HR0
      clear hre hrm hrr hrx
      have hidx := wIdx ri
      have HK : Hid ((ri % 256).toNat < 256) := Lib.hid (by omega)
      go_upto_region 7 with fail
      rw [hidx]
      clear hidx
      obtain ⟨K, hK⟩ : ∃ K : Nat, K = (ri % 256).toNat := ⟨_, rfl⟩
      rw [← hK] at HK ⊢
      have hKl : K < 256 := HK.out
      have HKe := Lib.hid hK
      clear hK c0 c1 c2
      obtain ⟨w5, hw5⟩ : ∃ w5, w5 = wr.alloc (.cells #[.int .i64 ri, .bool rc, .slice ra rm rcap] 62) := ⟨_, rfl⟩
      obtain ⟨g7, hg7⟩ : ∃ g7, g7 = wr.heap.size := ⟨_, rfl⟩
      rw [← hw5, ← hg7]
      have c1 : w5.cell? ⟨g7, 1, none⟩ = some (.bool rc) := by rw [hw5, hg7]; simp [go_sem]
      have c2 : w5.cell? ⟨g7, 2, none⟩ = some (.slice ra rm rcap) := by rw [hw5, hg7]; simp [go_sem]
      have HB5 : Hid (Below wr.heap.size wr w5) := Lib.hid (by rw [hw5]; exact Below.alloc0 _ _)
      have HI5 := Lib.hid (HI.out.later HB5.out)
      have HA55 : Hid (w5.heap[g5]? = some (arrObj (madeF (L.take j)))) := Lib.hid ((HB5.out.block _ (lt_of_block HA5.out)).trans HA5.out)
      have HA53 : Hid (w5.heap[g3]? = some (arrObj holes)) := Lib.hid ((HB5.out.block _ (lt_of_block HA3.out)).trans HA3.out)
      have HR5 := Lib.hid (HRx.out.later HB5.out)
      have HBw : Hid (Below g3 w w5) := Lib.hid (HB.out.trans (HB5.out.mono (by have := lt_of_block HA3.out; omega)))
      clear hw5 hg7 HB5 HA5 HA3 HI HRx
      obtain ⟨F, hF⟩ : ∃ F, F = madeF (L.take j) := ⟨_, rfl⟩
      rw [← hF] at HI5 HA55 HMF
      clear hF
      cases rc with
      | true =>
        have HC := Lib.hid (clear_yes w5 g b q F K HI5.out hKl)
        go_wp2_with fail
        refine HC.out.mono ?_
        rintro e w6 ⟨rfl, hi6, hs6⟩
        have HI6 := Lib.hid hi6
        have HS6 := Lib.hid hs6
        have HA65 : Hid (w6.heap[g5]? = some (arrObj F)) := Lib.hid ((hs6.block _ (lt_of_block HA55.out) (by have := HNE.out; simp; omega)).trans HA55.out)
        have HA63 : Hid (w6.heap[g3]? = some (arrObj holes)) := Lib.hid ((hs6.block _ (lt_of_block HA53.out) (by have := HNE.out; simp; omega)).trans HA53.out)
        have hFl : F.length = 256 := HI5.out.ok.1
        have hc := arr_cell HA65.out (j := K) (by rw [hFl]; exact hKl)
        have hf := arr_frozen (j := K) HA65.out
        have hset := arr_set (j := K) [] HA65.out
        obtain ⟨w7, hw7⟩ : ∃ w7, w7 = put w6 g5 (arrObj (F.set K [])) := ⟨_, rfl⟩
        have HS7 : Hid (Save [g5] w6 w7) := Lib.hid (by rw [hw7]; exact (Save.refl _ _).put (by simp) _)
        have HA75 : Hid (w7.heap[g5]? = some (arrObj (F.set K []))) := Lib.hid (by rw [hw7]; exact put_same HA65.out)
        rw [← hw7, strB_nil] at hset
        clear hw7 hi6 hs6 hFl c1 c2
        go_wp2
        go_roundg (n - (j + 1))
        case measure => have := HGK.out; omega
        case rel =>
          have e : madeF (L.take (j + 1)) = F.set K [] := by
            rw [HMF.out, ← HRe.out]
            simp [stepW, Wr.k, HKe.out]
          refine ⟨j + 1, q, rfl, by omega, by go_num, Lib.hid (by have := HQ.out; omega), ?_⟩
          rw [e]
          refine ⟨Lib.hid (HI6.out.save HS7.out (by have := HNE.out; simp; omega) (by have := HNE.out; simp; omega)), HA75, Lib.hid ((HS7.out.block _ (lt_of_block HA63.out) (by have := HNE.out; simp; omega)).trans HA63.out), Lib.hid ?_⟩
          refine (HBw.out.trans (HS6.out.below ?_ ?_)).trans (HS7.out.below ?_ ?_)
          · have := lt_of_block HA53.out; omega
          · have := HNE.out; simp; omega
          · have := lt_of_block HA63.out; omega
          · have := HNE.out; simp; omega
      | false =>
        obtain ⟨M, hM⟩ : ∃ M : Nat, M = min rm 32 := ⟨_, rfl⟩
        have hmin : min (rm : Int) 32 = (M : Int) := by omega
        have hM32 : M ≤ 32 := by omega
        have hMc : M ≤ rcap := by omega
        have hsl := slice_to ra rm rcap M .i64 hMc
        have hrd : Rd w5 ra M (rx.take 32) := by
          have := HR5.out.first (k := M) (by omega)
          rw [hM, take_min HR5.out.1] at this
          rw [hM]
          exact this
        have HRd := Lib.hid hrd
        have HP := Lib.hid (imgPut_yes w5 g b q F K ra M rcap (rx.take 32) HI5.out (by have := HQ.out; omega) hKl hM32 hrd)
        have hFl : F.length = 256 := HI5.out.ok.1
        have HFl := Lib.hid hFl
        have HOk : Hid (okF (F.set K (padB (rx.take 32)))) := Lib.hid (HI5.out.ok.set K (.inr (padB_ok (by rw [List.length_take]; omega) fun y hy => HR5.out.2.1 y (List.mem_of_mem_take hy))))
        obtain ⟨X, hX⟩ : ∃ X, X = padB (rx.take 32) := ⟨_, rfl⟩
        rw [← hX] at HP HOk
        have HX := Lib.hid hX
        have HM := Lib.hid hM
        clear hM hrd hFl hX
        go_upto_region 11 with fail
        clear hmin
        go_wp2_with fail
        refine HP.out.mono ?_
        rintro e w6 ⟨rfl, hi6, hs6⟩
        have HI6 := Lib.hid hi6
        have HS6 := Lib.hid hs6
        have HA65 : Hid (w6.heap[g5]? = some (arrObj F)) := Lib.hid ((hs6.block _ (lt_of_block HA55.out) (by have := HNE.out; simp; omega)).trans HA55.out)
        have HA63 : Hid (w6.heap[g3]? = some (arrObj holes)) := Lib.hid ((hs6.block _ (lt_of_block HA53.out) (by have := HNE.out; simp; omega)).trans HA53.out)
        have HB6 : Hid (Below g3 w w6) := Lib.hid (HBw.out.trans (hs6.below (by have := lt_of_block HA53.out; omega) (by have := HNE.out; simp; omega)))
        have hrd6 : Rd w6 ra M (rx.take 32) := by
          have := (HR0.out.later (by rw [← HG.out]; exact HB6.out)).first (k := M) (by have := HM.out; omega)
          rw [HM.out, take_min HR0.out.1] at this
          rw [HM.out]
          exact this
        have HRP := Lib.hid (refPut_any w6 F K ra M rcap (rx.take 32) HFl.out hKl hM32 hrd6)
        rw [← HX.out] at HRP
        clear hi6 hs6 hrd6 hsl c1 c2
        go_upto_region 12 with fail
        go_wp2_with (refine wpList_load_img rfl (.tmp 5) rfl g5 F rfl HA65.out HFl.out ?_)
        refine HRP.out.mono ?_
        rintro e w8 ⟨rfl, hb8⟩
        have HB8 := Lib.hid hb8
        have HA85 : Hid (w8.heap[g5]? = some (arrObj F)) := Lib.hid ((hb8.block _ (lt_of_block HA65.out)).trans HA65.out)
        have HA83 : Hid (w8.heap[g3]? = some (arrObj holes)) := Lib.hid ((hb8.block _ (lt_of_block HA63.out)).trans HA63.out)
        have HI8 := Lib.hid (HI6.out.later hb8)
        clear hb8
        go_wp2_with (refine wpList_store_img rfl (.tmp 5) (.tmp 43) rfl g5 F (F.set K X) rfl rfl HA85.out HFl.out HOk.out.1 ?_; intro w7 H7)
        have HS7 : Hid (Save [g5] w8 w7) := Lib.hid (by rw [H7.out]; exact (Save.refl _ _).put (by simp) _)
        have HA75 : Hid (w7.heap[g5]? = some (arrObj (F.set K X))) := Lib.hid (by rw [H7.out]; exact put_same HA85.out)
        clear H7
        go_wp2
        go_roundg (n - (j + 1))
        case measure => have := HGK.out; omega
        case rel =>
          have e : madeF (L.take (j + 1)) = F.set K X := by
            rw [HMF.out, ← HRe.out]
            simp [stepW, Wr.k, HKe.out, HX.out]
          refine ⟨j + 1, q + 1, rfl, by omega, by go_num, Lib.hid (by have := HQ.out; omega), ?_⟩
          rw [e]
          refine ⟨Lib.hid (HI8.out.save HS7.out (by have := HNE.out; simp; omega) (by have := HNE.out; simp; omega)), HA75, Lib.hid ((HS7.out.block _ (lt_of_block HA83.out) (by have := HNE.out; simp; omega)).trans HA83.out), Lib.hid ?_⟩
          refine (HB6.out.trans (HB8.out.mono ?_)).trans (HS7.out.below ?_ ?_)
          · have := lt_of_block HA63.out; omega
          · have := lt_of_block HA83.out; omega
          · have := HNE.out; simp; omega
    · obtain rfl : j = n := by omega
      rw [List.take_of_length_le (by rw [HR.out.len]; exact Nat.le_refl _)] at HI HA5
      have hFl : (madeF L).length = 256 := HI.out.ok.1
      have HFl := Lib.hid hFl
      clear hFl
      go_upto_region 14 with fail
      refine wp_region_still_tail 3 (by kernel_rfl) (by kernel_rfl) ?_
      simp only [List.take_succ_cons, List.take_zero, List.drop_succ_cons, List.drop_zero]
      change wpStill _ _ wr.drew _ _ _
      obtain ⟨w5, h5⟩ : ∃ w5, w5 = wr.drew := ⟨_, rfl⟩
      have HI5 : Hid (Img w5 g b q (madeF L)) := by rw [h5]; exact Lib.hid HI.out.drew
      have HA55 : Hid (w5.heap[g5]? = some (arrObj (madeF L))) := by rw [h5]; exact HA5
      have HA53 : Hid (w5.heap[g3]? = some (arrObj holes)) := by rw [h5]; exact HA3
      have HB5 : Hid (Below g3 w w5) := by rw [h5]; exact Lib.hid HB.out.drew
      rw [← h5]
      have H5 := Lib.hid h5
      clear h5
      still_step
      refine wpStill_load_img rfl (.tmp 5) rfl g5 (madeF L) rfl HA55.out HFl.out ?_
      still_step
      refine wpStill_nil ?_
      change wpList _ _ _ _ _ wr.drew
      rw [← H5.out]
      refine wpList_store_img rfl (.tmp 3) (.tmp 46) rfl g3 holes (madeF L) rfl rfl HA53.out List.length_replicate HFl.out ?_
      intro w6 H6
      have HI6 : Hid (Img w6 g b q (madeF L)) := Lib.hid (HI5.out.save (X := [g3]) (by rw [H6.out]; exact (Save.refl _ _).put (by simp) _) (by have := HNE.out; simp; omega) (by have := HNE.out; simp; omega))
      have HA6 : Hid (w6.heap[g3]? = some (arrObj (madeF L))) := Lib.hid (by rw [H6.out]; exact put_same HA53.out)
      have HB6 : Hid (Below g3 w w6) := Lib.hid (by rw [H6.out]; exact HB5.out.trans (put_below _ (Nat.le_refl _)))
      clear H6
      go_wp2
      refine bodyPost_ret (v := .tuple #[.pointer (some ⟨g, 0, none⟩), .agg (cS (madeF L)).toArray]) ?_ rfl ⟨g, b, rfl, ?_, ?_, ⟨HI6.out.blk, HI6.out.map.mono HQ.out, HI6.out.ok⟩, by rw [← HG.out]; exact HB6.out⟩
      · exact ret_tmp_img (p := 3) (u := 2) rfl rfl HA6.out HFl.out
      · rw [← HG.out]; have := HNE.out; omega
      · rw [← HG.out]; have := HNE.out; omega

end Go.Proofs.YtaijldcfoaeogaaGreat

/- The image that calls make keeps its shape. -/
namespace Go.Proofs.YtaijldcfoaeogaaGreat
open Go.RowKit
set_option maxRecDepth 100000

theorem madeF_ok {L : List Wr} (h : ∀ r ∈ L, ∀ y ∈ r.x, y < 256) : okF (madeF L) := by
  unfold madeF
  have : ∀ (F : List (List Nat)), okF F → okF (L.foldl stepW F) := by
    induction L with
    | nil => intro F hF; exact hF
    | cons r L ih => intro F hF; exact ih (fun q hq => h q (by simp [hq])) _ (stepW_ok hF r (h r (by simp)))
  exact this _ holes_ok

end Go.Proofs.YtaijldcfoaeogaaGreat

/- In a region that draws its order: an operation that calls a function of Go, by its contract alone (no simp over the region's rest); the load of an image; two images compared. -/
namespace Go.Proofs.YtaijldcfoaeogaaGreat
open Go.RowKit
set_option maxRecDepth 100000

theorem ready_call {P : Program} {o : Oper} {a : Act} {w : World} {K : Act → World → Prop} {Q : Exit → Act → World → Prop} {f : FuncId} {vs : Array Value} {c : Prop} [Decidable c]
    (hw : c) (hx : (execOp a.eval o).run P w = .ok (.enter f vs) w)
    (hc : Calls P f vs w fun e w' => ∃ v, e = .returned v ∧ K (a.put o.dst v) w') : if c then Oper.wp P o a w K Q else K (a.put o.dst undef) w := by
  rw [if_pos hw, Oper.wp, hx, Oper.upon_enter]
  refine hc.mono ?_
  rintro e w' ⟨v, rfl, hK⟩
  exact hK

/-- The same, for an operation that makes a value and leaves the world as it is. -/
theorem ready_val {P : Program} {o : Oper} {a : Act} {w : World} {K : Act → World → Prop} {Q : Exit → Act → World → Prop} {v : Value} {c : Prop} [Decidable c]
    (hw : c) (hx : (execOp a.eval o).run P w = .ok (.value v) w) (hc : K (a.put o.dst v) w) : if c then Oper.wp P o a w K Q else K (a.put o.dst undef) w := by
  rw [if_pos hw, Oper.wp, hx, Oper.upon_value]
  exact hc

theorem exec_load_img {w : World} {o : Oper} {a : Act} {p : Operand} {g : Nat} {F : List (List Nat)} (hop : o.op = Op.load 28 p) (hp : a.eval p = .pointer (some ⟨g, 0, none⟩)) (hg : w.heap[g]? = some (arrObj F)) (hl : F.length = 256) :
    (execOp a.eval o).run Tryz.prog w = .ok (.value (.agg (cS F).toArray)) w := by
  have h1 := run_load_img hg hl
  simp only [execOp, hop, hp, Sem.run_bind, h1, Result.andThen, Sem.run_pure]

end Go.Proofs.YtaijldcfoaeogaaGreat
