/- RecordReads, walked: over any world. -/
import Derived.Test.YtngnlnkkehnomaaRrRead
import Derived.Test.YtngnlnkkehnomaaRcLives
import Derived.Test.YtngnlnkkehnomaaRcLaw
import Derived.Laws.BitsAllLaws
namespace Go.Proofs.Ytngnlnkkehnomaa
open Go.RowKit
set_option linter.unusedSimpArgs false

/-- The cells of a row of bytes, whatever they are. -/
def SomeB (w : World) (g n : Nat) : Prop := ∃ cur : Array Value, w.heap[g]? = some (.cells cur 5 (0, 0)) ∧ ∀ j, j < n → ∃ z : Nat, z < 256 ∧ cur[j]? = some (.int .u8 (z : Int))

theorem Own.someB {w : World} {base g n cap : Nat} {l : List Nat} (h : Own w base (.slice (some ⟨g, 0, none⟩) n cap) l) (hl : l.length = n) : SomeB w g n := by
  obtain ⟨hb, h1⟩ := h
  rcases h1.2 with ⟨hv, _⟩ | ⟨g', cap', cur, hv, _, hh, hc, _, hs, ht⟩
  · cases hv
  · injection hv with h2 h3 h4
    injection h2 with h2
    injection h2 with h2
    subst h2
    refine ⟨cur, hh, fun j hj => ?_⟩
    have hj' : j < l.length := by omega
    refine ⟨l[j], hb _ (List.getElem_mem hj'), ?_⟩
    have e : (cur.toList.take (l.length * 1))[j]? = (cB l)[j]? := by rw [ht]
    rw [List.getElem?_take, if_pos (by omega)] at e
    simpa [cB, hj'] using e

theorem Own.asSlice {w : World} {base n c : Nat} {a : Option Addr} {l : List Nat} (h : Own w base (.slice a n c) l) (hl : l.length = n) : Rd w a n l := by
  obtain ⟨a', c', hv, hr, _⟩ := h.sl
  injection hv with h1 h2 h3
  subst h1
  rw [hl] at hr
  exact hr

theorem SomeB.set {w : World} {g n j : Nat} (h : SomeB w g n) (z : Nat) (hz : z < 256) : SomeB (w.setCell ⟨g, j, none⟩ (.int .u8 (z : Int))) g n := by
  obtain ⟨cur, hg, hc⟩ := h
  refine ⟨cur.setIfInBounds j (.int .u8 (z : Int)), heap_setCell_same w g j cur 5 _ hg, fun i hi => ?_⟩
  obtain ⟨y, hy, hcy⟩ := hc i hi
  by_cases e : j = i
  · subst e
    refine ⟨z, hz, ?_⟩
    have : j < cur.size := by
      rcases Nat.lt_or_ge j cur.size with h | h
      · exact h
      · rw [Array.getElem?_eq_none h] at hcy; cases hcy
    simp [this]
  · exact ⟨y, hy, by rw [Array.getElem?_setIfInBounds_ne e]; exact hcy⟩

theorem xor_byte {z : Nat} (h : z < 256) : bits .xor .u8 (z : Int) 255 = ((z ^^^ 255 : Nat) : Int) ∧ z ^^^ 255 < 256 :=
  ⟨u8_xor_nat z 255 h (by omega), Nat.xor_lt_two_pow (n := 8) h (by omega)⟩

set_option maxHeartbeats 4000000 in
set_option maxRecDepth 100000 in
theorem recordReads_walk (a : Option Addr) (n c : Nat) (l : List Nat) (w : World) (h : Rd w a n l) (hc : n ≤ c) :
    Calls Try.prog 4 #[.slice a n c] w fun e w' => e = .returned (.bool true) ∧ Below w.heap.size w w' := by
  have HR := Lib.hid h
  clear h
  by_cases hn : n ≤ 1000
  · have hd1 : decide (1000 < (n : Int)) = false := by simp; omega
    go_enter Try.func4, Try.ntmps4
    go_wp2_with fail
    refine (lives_any w).mono ?_
    rintro e w1 ⟨rfl, hb1⟩
    have H1 := Lib.hid (HR.out.later hb1)
    have HB1 := Lib.hid hb1
    clear hb1
    go_wp2_with (at_builtin; have _t := hn; refine wpList_fresh rfl (.tmp 17) (.tmp 18) rfl w1.heap.size rfl a n c rfl (heap_alloc_new w1 _) l (H1.out.later (Below.alloc0 _ _)) (by omega) ?next)
    case next =>
      intro gO cO w2 hgO hO hg2
      have HO := Lib.hid hO
      have HG2 := Lib.hid hg2
      clear hO hg2
      have HB2 : Hid (Below w1.heap.size w1 w2) := Lib.hid ((Below.alloc0 w1 _).grown HG2.out (by simp) (by simp))
      have HR2 := Lib.hid (HO.out.asSlice HR.out.1)
      go_wp2_with fail
      refine (open_any _ n cO l w2 HR2.out (by omega)).mono ?_
      rintro e w3 ⟨g1, rfl, hg1, hrd1, hb3⟩
      have HB3 := Lib.hid hb3
      have HG1 := Lib.hid hg1
      have hre := rread_any w3 g1 0 l hrd1
      have HRX := Lib.hid hre
      have hgO2 : gO < w2.heap.size := by
        obtain ⟨cur, hcur, _⟩ := HO.out.someB HR.out.1
        exact lt_of_block hcur
      have HGO := Lib.hid (And.intro hgO hgO2)
      have HS2 := Lib.hid (HO.out.someB HR.out.1)
      obtain ⟨⟨Q, er⟩, hQ⟩ : ∃ Q, Q = rdRec 0 l := ⟨_, rfl⟩
      have HQ := Lib.hid hQ
      rw [← hQ] at HRX
      simp only at HRX
      obtain ⟨k, i, b, f, t, lb, cn, dn, ds⟩ := Q
      simp only [rcV] at HRX
      clear hb3 hg1 hrd1 hre hgO hgO2 hQ HO HR2
      go_wp2_with fail
      refine HRX.out.mono ?_
      rintro e w4 ⟨a2, n2, c2, rfl, HX⟩
      have HB24 : Hid (Below w2.heap.size w2 w4) := Lib.hid (HB3.out.trans (HX.out.1.below HB3.out.size (by have := HG1.out; simp; omega)))
      obtain ⟨w5, hw5⟩ : ∃ w5, w5 = w4.alloc (.cells #[.int .u8 (k : Int), .int .i64 i, .int .i64 b, .int .i64 f, .int .i64 t, .slice a2 n2 c2, .int .i64 cn, .int .u64 (dn : Int), .int .u64 (ds : Int)] 30) := ⟨_, rfl⟩
      obtain ⟨q5, hq5⟩ : ∃ q5, q5 = w4.heap.size := ⟨_, rfl⟩
      have HW5 : Hid (w4.alloc (.cells #[.int .u8 (k : Int), .int .i64 i, .int .i64 b, .int .i64 f, .int .i64 t, .slice a2 n2 c2, .int .i64 cn, .int .u64 (dn : Int), .int .u64 (ds : Int)] 30) = w5 ∧ w4.heap.size = q5) := Lib.hid ⟨hw5.symm, hq5.symm⟩
      have hb45 : Below w4.heap.size w4 w5 := by rw [hw5]; exact Below.alloc0 _ _
      have HB45 := Lib.hid hb45
      have HQ5 : Hid (w5.heap[q5]? = some (.cells #[.int .u8 (k : Int), .int .i64 i, .int .i64 b, .int .i64 f, .int .i64 t, .slice a2 n2 c2, .int .i64 cn, .int .u64 (dn : Int), .int .u64 (ds : Int)] 30 (0, 0))) := Lib.hid (by rw [hw5, hq5]; exact heap_alloc_new w4 _)
      clear hw5 hq5 hb45 HRX
      go_upto_region 5 with fail
      change Code.wp _ _ _ _ (w4.alloc (.cells #[.int .u8 (k : Int), .int .i64 i, .int .i64 b, .int .i64 f, .int .i64 t, .slice a2 n2 c2, .int .i64 cn, .int .u64 (dn : Int), .int .u64 (ds : Int)] 30))
      rw [HW5.out.1]
      try rw [HW5.out.2]
      have HB25 : Hid (Below w2.heap.size w2 w5) := Lib.hid (HB24.out.trans (HB45.out.mono HB24.out.size))
      have HB05 : Hid (Below w.heap.size w w5) := Lib.hid (HB1.out.trans ((HB2.out.mono HB1.out.size).trans (HB25.out.mono (Nat.le_trans HB1.out.size HB2.out.size))))
      obtain ⟨w6, hw6⟩ : ∃ w6, w6 = w5.alloc (.cells #[.slice a n c, .int .i64 0] 50) := ⟨_, rfl⟩
      obtain ⟨g6, hg6⟩ : ∃ g6, g6 = w5.heap.size := ⟨_, rfl⟩
      have HW6 : Hid (w5.alloc (.cells #[.slice a n c, .int .i64 0] 50) = w6 ∧ w5.heap.size = g6) := Lib.hid ⟨hw6.symm, hg6.symm⟩
      have hb56 : Below w5.heap.size w5 w6 := by rw [hw6]; exact Below.alloc0 _ _
      have HB56 := Lib.hid hb56
      have hr6 : Rdr w6 50 g6 0 l := ⟨a, n, c, by rw [hw6, hg6]; exact heap_alloc_new w5 _, (HR.out.later HB05.out).later hb56, hc, by omega⟩
      have hrf := rfread_any w6 g6 0 l hr6
      rw [← HQ.out] at hrf
      simp only [pcV] at hrf
      have HRF := Lib.hid hrf
      clear hw6 hg6 hb56 hr6 hrf
      go_wp2_with fail
      rw [HW6.out.1]
      try rw [HW6.out.2]
      refine HRF.out.mono ?_
      rintro e w7 ⟨rfl, HS7⟩
      have HB57 : Hid (Below w5.heap.size w5 w7) := Lib.hid (HB56.out.trans (HS7.out.below HB56.out.size (by have := HW6.out.2; simp; omega)))
      obtain ⟨w8, hw8⟩ : ∃ w8, w8 = w7.alloc (.cells #[.int .u8 (k : Int), .int .i64 i, .int .i64 b, .int .i64 f, .int .i64 t, .string (strB lb), .int .i64 cn, .int .u64 (dn : Int), .int .u64 (ds : Int)] 33) := ⟨_, rfl⟩
      obtain ⟨q8, hq8⟩ : ∃ q8, q8 = w7.heap.size := ⟨_, rfl⟩
      have HW8 : Hid (w7.alloc (.cells #[.int .u8 (k : Int), .int .i64 i, .int .i64 b, .int .i64 f, .int .i64 t, .string (strB lb), .int .i64 cn, .int .u64 (dn : Int), .int .u64 (ds : Int)] 33) = w8 ∧ w7.heap.size = q8) := Lib.hid ⟨hw8.symm, hq8.symm⟩
      have hb78 : Below w7.heap.size w7 w8 := by rw [hw8]; exact Below.alloc0 _ _
      have HQ8 : Hid (w8.heap[q8]? = some (.cells #[.int .u8 (k : Int), .int .i64 i, .int .i64 b, .int .i64 f, .int .i64 t, .string (strB lb), .int .i64 cn, .int .u64 (dn : Int), .int .u64 (ds : Int)] 33 (0, 0))) := Lib.hid (by rw [hw8, hq8]; exact heap_alloc_new w7 _)
      have HB58 : Hid (Below w5.heap.size w5 w8) := Lib.hid (HB57.out.trans (hb78.mono HB57.out.size))
      have HB28 : Hid (Below w2.heap.size w2 w8) := Lib.hid (HB25.out.trans (HB58.out.mono HB25.out.size))
      have HB08 : Hid (Below w.heap.size w w8) := Lib.hid (HB05.out.trans (HB58.out.mono HB05.out.size))
      have HQ58 : Hid (w8.heap[q5]? = some (.cells #[.int .u8 (k : Int), .int .i64 i, .int .i64 b, .int .i64 f, .int .i64 t, .slice a2 n2 c2, .int .i64 cn, .int .u64 (dn : Int), .int .u64 (ds : Int)] 30 (0, 0))) := Lib.hid ((HB58.out.block q5 (lt_of_block HQ5.out)).trans HQ5.out)
      have HRD8 : Hid (Rd w8 a2 n2 lb) := Lib.hid ((HX.out.2.2.1.later HB45.out).later HB58.out)
      have HLIE : Hid (∀ b' o, a2 = some ⟨b', o, none⟩ → 0 < n2 → w2.heap.size ≤ b') := Lib.hid fun b' o he h0 => Nat.le_trans HB3.out.size (HX.out.2.2.2 b' o he h0)
      have HQN : Hid (w2.heap.size ≤ q5 ∧ w2.heap.size ≤ q8) := Lib.hid (by
        have h1 := HB24.out.size
        have h2 := HB25.out.size
        have h3 := HB57.out.size
        have h4 := HW5.out.2
        have h5 := HW8.out.2
        omega)
      have HS8 : Hid (SomeB w8 gO n) := Lib.hid (by
        obtain ⟨cur, hcur, hcc⟩ := HS2.out
        exact ⟨cur, (HB28.out.block gO HGO.out.2).trans hcur, hcc⟩)
      clear hw8 hq8 hb78 HS2 HX
      go_upto_region 6 with fail
      change Code.wp _ _ _ _ (w7.alloc (.cells #[.int .u8 (k : Int), .int .i64 i, .int .i64 b, .int .i64 f, .int .i64 t, .string (strB lb), .int .i64 cn, .int .u64 (dn : Int), .int .u64 (ds : Int)] 33))
      rw [HW8.out.1]
      try rw [HW8.out.2]
      go_wp2
      go_loopg [35] n (fun kk v wr => ∃ j, kk = n - j ∧ j ≤ n ∧ v = .int .i64 (j : Int) ∧ Hid (SomeB wr gO n) ∧ Hid (w8.grownBy wr (some gO)))
      case atStart => exact ⟨0, rfl, Nat.zero_le _, rfl, HS8, Lib.hid (World.grownBy.refl _ _)⟩
      case round =>
        obtain ⟨j, hk, hj, rfl, HSB, HGR⟩ := hrel
        have HK := Lib.hid hk
        clear hk
        by_cases hlt : j < n
        · obtain ⟨cur, hcur, hcc⟩ := HSB.out
          obtain ⟨z, hz, hcz⟩ := hcc j hlt
          have hcell : wr.cell? ⟨gO, j, none⟩ = some (.int .u8 (z : Int)) := by rw [cell_of_row wr gO j cur 5 (0, 0) hcur]; exact hcz
          have hfr : wr.frozen? ⟨gO, j, none⟩ = false := by simp [World.frozen?, hcur]
          clear hcur hcc hcz
          go_wp2
          go_roundg (n - (j + 1))
          case measure => have := HK.out; omega
          case rel => exact ⟨j + 1, rfl, by omega, by go_num, Lib.hid (by rw [(xor_byte hz).1]; exact HSB.out.set _ (xor_byte hz).2), Lib.hid (HGR.out.trans (grown_set _ _ _ _))⟩
        · have hq5 : wr.heap[q5]? = some (.cells #[.int .u8 (k : Int), .int .i64 i, .int .i64 b, .int .i64 f, .int .i64 t, .slice a2 n2 c2, .int .i64 cn, .int .u64 (dn : Int), .int .u64 (ds : Int)] 30 (0, 0)) := (HGR.out.block q5 (lt_of_block HQ58.out) (by intro e; injection e with e; have := HQN.out; have := HGO.out; omega)).trans HQ58.out
          have hq8 : wr.heap[q8]? = some (.cells #[.int .u8 (k : Int), .int .i64 i, .int .i64 b, .int .i64 f, .int .i64 t, .string (strB lb), .int .i64 cn, .int .u64 (dn : Int), .int .u64 (ds : Int)] 33 (0, 0)) := (HGR.out.block q8 (lt_of_block HQ8.out) (by intro e; injection e with e; have := HQN.out; have := HGO.out; omega)).trans HQ8.out
          have hrd : Rd wr a2 n2 lb := by
            rcases Nat.eq_zero_or_pos n2 with h0 | h0
            · exact ⟨HRD8.out.1, HRD8.out.2.1, by omega⟩
            · refine ⟨HRD8.out.1, HRD8.out.2.1, fun _ => ?_⟩
              obtain ⟨b', o', rfl, hcell⟩ := HRD8.out.2.2 h0
              have := HLIE.out b' o' rfl h0
              exact ⟨b', o', rfl, fun j' hj' => HGR.out.cell (hcell j' hj') (by intro e; injection e with e; have := HGO.out; simp only at *; omega)⟩
          have HKK : Hid (∀ W, Below wr.heap.size wr W → W.cell? ⟨q5, 0, none⟩ = some (.int .u8 (k : Int)) ∧ W.cell? ⟨q5, 1, none⟩ = some (.int .i64 i) ∧ W.cell? ⟨q5, 2, none⟩ = some (.int .i64 b) ∧ W.cell? ⟨q5, 3, none⟩ = some (.int .i64 f) ∧ W.cell? ⟨q5, 4, none⟩ = some (.int .i64 t) ∧ W.cell? ⟨q5, 5, none⟩ = some (.slice a2 n2 c2) ∧ W.cell? ⟨q5, 6, none⟩ = some (.int .i64 cn) ∧ W.cell? ⟨q5, 7, none⟩ = some (.int .u64 (dn : Int)) ∧ W.cell? ⟨q5, 8, none⟩ = some (.int .u64 (ds : Int)) ∧ W.cell? ⟨q8, 0, none⟩ = some (.int .u8 (k : Int)) ∧ W.cell? ⟨q8, 1, none⟩ = some (.int .i64 i) ∧ W.cell? ⟨q8, 2, none⟩ = some (.int .i64 b) ∧ W.cell? ⟨q8, 3, none⟩ = some (.int .i64 f) ∧ W.cell? ⟨q8, 4, none⟩ = some (.int .i64 t) ∧ W.cell? ⟨q8, 5, none⟩ = some (.string (strB lb)) ∧ W.cell? ⟨q8, 6, none⟩ = some (.int .i64 cn) ∧ W.cell? ⟨q8, 7, none⟩ = some (.int .u64 (dn : Int)) ∧ W.cell? ⟨q8, 8, none⟩ = some (.int .u64 (ds : Int))) := by
            refine Lib.hid fun W hW => ?_
            have h1 := (hW.block q5 (lt_of_block hq5)).trans hq5
            have h2 := (hW.block q8 (lt_of_block hq8)).trans hq8
            refine ⟨?_, ?_, ?_, ?_, ?_, ?_, ?_, ?_, ?_, ?_, ?_, ?_, ?_, ?_, ?_, ?_, ?_, ?_⟩ <;> simp [World.cell?, h1, h2]
          have HPL : Hid (∀ W, Below wr.heap.size wr W → Calls Try.prog 7 #[.agg #[.int .u8 (k : Int), .int .i64 i, .int .i64 b, .int .i64 f, .int .i64 t, .slice a2 n2 c2, .int .i64 cn, .int .u64 (dn : Int), .int .u64 (ds : Int)]] W fun e w' => e = .returned (.agg #[.int .u8 (k : Int), .int .i64 i, .int .i64 b, .int .i64 f, .int .i64 t, .string (strB lb), .int .i64 cn, .int .u64 (dn : Int), .int .u64 (ds : Int)]) ∧ Hid (Below wr.heap.size wr w')) := by
            refine Lib.hid fun W hW => (lawPlain_any ⟨k, i, b, f, t, lb, cn, dn, ds⟩ a2 n2 c2 W (hrd.later hW)).mono ?_
            rintro e w' ⟨rfl, hb⟩
            exact ⟨rfl, Lib.hid (hW.trans (hb.mono hW.size))⟩
          have HFIN : Hid (∀ W, Below wr.heap.size wr W → Below w.heap.size w W) := Lib.hid fun W hW =>
            (HB08.out.grown HGR.out HB08.out.size (by intro k' e; injection e with e; have := HGO.out; have := HB1.out.size; omega)).trans (hW.mono (Nat.le_trans HB08.out.size HGR.out.size))
          clear hq5 hq8 hrd
          go_upto_region 11 with fail
          have H : Hid (Below wr.heap.size wr wr.drew) := Lib.hid (Below.refl _ _).drew
          refine wp_region_held_drew (S := fun W => W.cell? ⟨q5, 0, none⟩ = some (.int .u8 (k : Int)) ∧ W.cell? ⟨q5, 1, none⟩ = some (.int .i64 i) ∧ W.cell? ⟨q5, 2, none⟩ = some (.int .i64 b) ∧ W.cell? ⟨q5, 3, none⟩ = some (.int .i64 f) ∧ W.cell? ⟨q5, 4, none⟩ = some (.int .i64 t) ∧ W.cell? ⟨q5, 5, none⟩ = some (.slice a2 n2 c2) ∧ W.cell? ⟨q5, 6, none⟩ = some (.int .i64 cn) ∧ W.cell? ⟨q5, 7, none⟩ = some (.int .u64 (dn : Int)) ∧ W.cell? ⟨q5, 8, none⟩ = some (.int .u64 (ds : Int)) ∧ W.cell? ⟨q8, 0, none⟩ = some (.int .u8 (k : Int)) ∧ W.cell? ⟨q8, 1, none⟩ = some (.int .i64 i) ∧ W.cell? ⟨q8, 2, none⟩ = some (.int .i64 b) ∧ W.cell? ⟨q8, 3, none⟩ = some (.int .i64 f) ∧ W.cell? ⟨q8, 4, none⟩ = some (.int .i64 t) ∧ W.cell? ⟨q8, 5, none⟩ = some (.string (strB lb)) ∧ W.cell? ⟨q8, 6, none⟩ = some (.int .i64 cn) ∧ W.cell? ⟨q8, 7, none⟩ = some (.int .u64 (dn : Int)) ∧ W.cell? ⟨q8, 8, none⟩ = some (.int .u64 (ds : Int))) (by kernel_rfl) (HKK.out _ H.out) (fun _ => ?_)
          obtain ⟨w9, hw9⟩ : ∃ w9, w9 = wr.drew := ⟨_, rfl⟩
          rw [← hw9] at H ⊢
          clear hw9
          refine wpAnyH_take (i := 0) (v := ?vr0) rfl (by kernel_rfl) (by kernel_rfl) (by kernel_rfl) (fun _ _ _ h => h) (Or.inl ⟨by rfl, ?hr0⟩) (HKK.out _ H.out) ?rr0
          case hr0 => (intro W hW; (try dsimp only at hW); go_simp; try with_reducible rfl)
          simp only [Act.put, List.getElem_toArray, List.getElem_cons_succ, List.getElem_cons_zero, List.setIfInBounds_toArray, List.set_cons_zero, List.set_cons_succ]
          refine wpAnyH_take (i := 1) (v := ?vr1) rfl (by kernel_rfl) (by kernel_rfl) (by kernel_rfl) (fun _ _ _ h => h) (Or.inl ⟨by rfl, ?hr1⟩) (HKK.out _ H.out) ?rr1
          case hr1 => (intro W hW; (try dsimp only at hW); go_simp; try with_reducible rfl)
          simp only [Act.put, List.getElem_toArray, List.getElem_cons_succ, List.getElem_cons_zero, List.setIfInBounds_toArray, List.set_cons_zero, List.set_cons_succ]
          refine wpAnyH_take (i := 2) (v := ?vr2) rfl (by kernel_rfl) (by kernel_rfl) (by kernel_rfl) (fun _ _ _ h => h) (Or.inl ⟨by rfl, ?hr2⟩) (HKK.out _ H.out) ?rr2
          case hr2 => (intro W hW; (try dsimp only at hW); go_simp; try with_reducible rfl)
          simp only [Act.put, List.getElem_toArray, List.getElem_cons_succ, List.getElem_cons_zero, List.setIfInBounds_toArray, List.set_cons_zero, List.set_cons_succ]
          refine wpAnyH_take (i := 3) (v := ?vr3) rfl (by kernel_rfl) (by kernel_rfl) (by kernel_rfl) (fun _ _ _ h => h) (Or.inl ⟨by rfl, ?hr3⟩) (HKK.out _ H.out) ?rr3
          case hr3 => (intro W hW; (try dsimp only at hW); go_simp; try with_reducible rfl)
          simp only [Act.put, List.getElem_toArray, List.getElem_cons_succ, List.getElem_cons_zero, List.setIfInBounds_toArray, List.set_cons_zero, List.set_cons_succ]
          refine wpAnyH_take (i := 4) (v := ?vr4) rfl (by kernel_rfl) (by kernel_rfl) (by kernel_rfl) (fun _ _ _ h => h) (Or.inl ⟨by rfl, ?hr4⟩) (HKK.out _ H.out) ?rr4
          case hr4 => (intro W hW; (try dsimp only at hW); go_simp; try with_reducible rfl)
          simp only [Act.put, List.getElem_toArray, List.getElem_cons_succ, List.getElem_cons_zero, List.setIfInBounds_toArray, List.set_cons_zero, List.set_cons_succ]
          refine wpAnyH_take (i := 6) (v := ?vr6) rfl (by kernel_rfl) (by kernel_rfl) (by kernel_rfl) (fun _ _ _ h => h) (Or.inl ⟨by rfl, ?hr6⟩) (HKK.out _ H.out) ?rr6
          case hr6 => (intro W hW; (try dsimp only at hW); go_simp; try with_reducible rfl)
          simp only [Act.put, List.getElem_toArray, List.getElem_cons_succ, List.getElem_cons_zero, List.setIfInBounds_toArray, List.set_cons_zero, List.set_cons_succ]
          refine wpAnyH_ready (rs := [5]) (by kernel_rfl) (by simp) ?_
          refine AllReadyH.cons rfl (fun K hK => ?_) AllReadyH.nil
          refine ready_call (f := 7) (vs := #[.agg #[.int .u8 (k : Int), .int .i64 i, .int .i64 b, .int .i64 f, .int .i64 t, .slice a2 n2 c2, .int .i64 cn, .int .u64 (dn : Int), .int .u64 (ds : Int)]]) (by rfl) (by (go_simp; try with_reducible rfl)) ?_
          refine (HPL.out _ H.out).mono ?_
          rintro e w10 ⟨rfl, H10⟩
          refine ⟨_, rfl, hK.out _ _ (HKK.out _ H10.out) (fun _ => ?_)⟩
          clear hK K
          simp only [Act.put, List.getElem_toArray, List.getElem_cons_succ, List.getElem_cons_zero, List.setIfInBounds_toArray, List.set_cons_zero, List.set_cons_succ]
          refine wpAnyH_take (i := 7) (v := ?vr7) rfl (by kernel_rfl) (by kernel_rfl) (by kernel_rfl) (fun _ _ _ h => h) (Or.inl ⟨by rfl, ?hr7⟩) (HKK.out _ H10.out) ?rr7
          case hr7 => (intro W hW; (try dsimp only at hW); go_simp; try with_reducible rfl)
          simp only [Act.put, List.getElem_toArray, List.getElem_cons_succ, List.getElem_cons_zero, List.setIfInBounds_toArray, List.set_cons_zero, List.set_cons_succ]
          refine wpAnyH_take (i := 8) (v := ?vr8) rfl (by kernel_rfl) (by kernel_rfl) (by kernel_rfl) (fun _ _ _ h => h) (Or.inl ⟨by rfl, ?hr8⟩) (HKK.out _ H10.out) ?rr8
          case hr8 => (intro W hW; (try dsimp only at hW); go_simp; try with_reducible rfl)
          simp only [Act.put, List.getElem_toArray, List.getElem_cons_succ, List.getElem_cons_zero, List.setIfInBounds_toArray, List.set_cons_zero, List.set_cons_succ]
          refine wpAnyH_take (i := 9) (v := ?vr9) rfl (by kernel_rfl) (by kernel_rfl) (by kernel_rfl) (fun _ _ _ h => h) (Or.inl ⟨by rfl, ?hr9⟩) (HKK.out _ H10.out) ?rr9
          case hr9 => (intro W hW; (try dsimp only at hW); go_simp; try with_reducible rfl)
          simp only [Act.put, List.getElem_toArray, List.getElem_cons_succ, List.getElem_cons_zero, List.setIfInBounds_toArray, List.set_cons_zero, List.set_cons_succ]
          refine wpAnyH_done (by kernel_rfl) ?_ _
          go_wp2
          go_ret
          exact ⟨rfl, HFIN.out _ H10.out⟩
  · have hn' : (1000 : Int) < (n : Int) := by omega
    clear hn
    go_enter Try.func4, Try.ntmps4
    go_wp2_with fail
    refine (lives_any w).mono ?_
    rintro e w1 ⟨rfl, hb1⟩
    have HB1 := Lib.hid hb1
    clear hb1
    go_wp2_with fail
    refine (lives_any w1).mono ?_
    rintro e w2 ⟨rfl, hb2⟩
    have HB2 := Lib.hid hb2
    clear hb2
    go_wp2
    go_ret
    exact ⟨rfl, HB1.out.trans (HB2.out.mono HB1.out.size)⟩

end Go.Proofs.Ytngnlnkkehnomaa
