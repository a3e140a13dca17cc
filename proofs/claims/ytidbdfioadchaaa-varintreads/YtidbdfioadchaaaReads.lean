/- VarintReads returns true at every input: any bytes, read as any numbers and texts, give what the document gives, and its first error; the arguments read as they did. No condition. -/
import Derived.Test.YtidbdfioadchaaaFresh
import Derived.Test.YtidbdfioadchaaaOrders
import Derived.Deep.DeepCutAuto
import Derived.Deep.RegionWith
import Derived.Deep.DrawnRows
import Derived.Deep.RegionHeld3
namespace Go.Proofs.Ytidbdfioadchaaa
open Go.RowKit

/-- The slice '.slice a n _' reads as the numbers L, of 16 bits. -/
def RdH (w : World) (a : Option Addr) (n : Nat) (L : List Nat) : Prop :=
  L.length = n ∧ (∀ x ∈ L, x < 65536) ∧ (0 < n → ∃ b o, a = some ⟨b, o, none⟩ ∧ ∀ j, j < n → w.cell? ⟨b, o + j, none⟩ = some (.int .u16 ((L.getD j 0 : Nat) : Int)))

theorem RdH.at_ {w w' : World} {a : Option Addr} {n : Nat} {L : List Nat} (h : RdH w a n L) (hb : Below w.heap.size w w') {j : Nat} (hj : j < n) :
    ∃ b o, a = some ⟨b, o, none⟩ ∧ w'.cell? ⟨b, o + j, none⟩ = some (.int .u16 ((L.getD j 0 : Nat) : Int)) := by
  obtain ⟨b, o, rfl, hc⟩ := h.2.2 (by omega)
  have hlt : b < w.heap.size := World.block_lt_of_cell? w _ (hc j hj)
  exact ⟨b, o, rfl, (hb.cell (p := ⟨b, o + j, none⟩) hlt).trans (hc j hj)⟩

/-- The cells of a row of bytes, whatever they are. -/
def SomeB (w : World) (g n : Nat) : Prop := ∃ cur : Array Value, w.heap[g]? = some (.cells cur 5 (0, 0)) ∧ ∀ j, j < n → ∃ z : Nat, z < 256 ∧ cur[j]? = some (.int .u8 (z : Int))

theorem Own.someB {w : World} {base g n cap : Nat} {l : List Nat} (h : Own w base (.slice (some ⟨g, 0, none⟩) n cap) l) (hl : l.length = n) : SomeB w g n := by
  obtain ⟨hb, h1⟩ := h
  rcases h1.2 with ⟨hv, _⟩ | ⟨g', cap', cur, hv, _, hh, hc, _, hs, ht⟩
  · cases hv
  · injection hv with h2 h3 h4
    injection h2 with h2
    injection h2 with h2
    subst h2
    refine ⟨cur, hh, fun j hj => ?_⟩
    have hj' : j < l.length := by omega
    refine ⟨l[j], hb _ (List.getElem_mem hj'), ?_⟩
    have e : (cur.toList.take (l.length * 1))[j]? = (cB l)[j]? := by rw [ht]
    rw [List.getElem?_take, if_pos (by omega)] at e
    simpa [cB, hj'] using e

theorem Own.asSlice {w : World} {base n c : Nat} {a : Option Addr} {l : List Nat} (h : Own w base (.slice a n c) l) (hl : l.length = n) : Rd w a n l := by
  obtain ⟨a', c', hv, hr, _⟩ := h.sl
  injection hv with h1 h2 h3
  subst h1
  rw [hl] at hr
  exact hr

theorem SomeB.set {w : World} {g n j : Nat} (h : SomeB w g n) (z : Nat) (hz : z < 256) : SomeB (w.setCell ⟨g, j, none⟩ (.int .u8 (z : Int))) g n := by
  obtain ⟨cur, hg, hc⟩ := h
  refine ⟨cur.setIfInBounds j (.int .u8 (z : Int)), heap_setCell_same w g j cur 5 _ hg, fun i hi => ?_⟩
  obtain ⟨y, hy, hcy⟩ := hc i hi
  by_cases e : j = i
  · subst e
    refine ⟨z, hz, ?_⟩
    have : j < cur.size := by
      rcases Nat.lt_or_ge j cur.size with h | h
      · exact h
      · rw [Array.getElem?_eq_none h] at hcy; cases hcy
    simp [this]
  · exact ⟨y, hy, by rw [Array.getElem?_setIfInBounds_ne e]; exact hcy⟩

theorem xor_byte {z : Nat} (h : z < 256) : bits .xor .u8 (z : Int) 255 = ((z ^^^ 255 : Nat) : Int) ∧ z ^^^ 255 < 256 :=
  ⟨u8_xor_nat z 255 h (by omega), Nat.xor_lt_two_pow (n := 8) h (by omega)⟩

theorem most_small {y : Nat} (hy : y ≤ 63) : IntKind.u64.wrap (IntKind.u64.wrap ((2 : Int) ^ y) - 1) = ((2 ^ y - 1 : Nat) : Int) := by
  have h1 : (2 : Nat) ^ y ≤ 2 ^ 63 := Nat.pow_le_pow_right (by omega) hy
  have h2 : 0 < (2 : Nat) ^ y := Nat.pow_pos (by omega)
  have e : ((2 : Int) ^ y) = ((2 ^ y : Nat) : Int) := by simp
  rw [e, IntKind.wrap_u64, IntKind.wrap_u64]
  omega

set_option maxHeartbeats 4000000 in
set_option maxRecDepth 100000 in
theorem varintReads_walk (a : Option Addr) (n c : Nat) (l : List Nat) (ua : Option Addr) (un uc : Nat) (L : List Nat) (w : World) (h : Rd w a n l) (hu : RdH w ua un L) :
    Calls Try.prog 4 #[.slice a n c, .slice ua un uc] w fun e w' => e = .returned (.bool true) ∧ Below w.heap.size w w' := by
  have HR := Lib.hid h
  have HU := Lib.hid hu
  clear h hu
  by_cases hbig : 2000 < n ∨ 60 < un
  · have hcase : (2000 < (n : Int)) ∨ ((n : Int) ≤ 2000 ∧ 60 < (un : Int)) := by omega
    clear hbig
    rcases hcase with hbig | ⟨hbig, hbig2⟩
    all_goals
      go_enter Try.func4, Try.ntmps4
      go_wp2_with fail
      refine (lives_any w).mono ?_
      rintro e w1 ⟨rfl, hb⟩
      have HB := Lib.hid hb
      clear hb
      go_wp2_with fail
      refine (lives_any w1).mono ?_
      rintro e w2 ⟨rfl, hb2⟩
      have HB2 := Lib.hid hb2
      clear hb2
      go_wp2
      go_ret
      exact ⟨rfl, HB.out.trans (HB2.out.mono HB.out.size)⟩
  · have hn : n ≤ 2000 := by omega
    have hun : un ≤ 60 := by omega
    clear hbig
    have hd1 : decide (2000 < (n : Int)) = false := by simp; omega
    have hd2 : decide (60 < (un : Int)) = false := by simp; omega
    go_enter Try.func4, Try.ntmps4
    go_wp2_with fail
    refine (lives_any w).mono ?_
    rintro e w1 ⟨rfl, hb1⟩
    have H1 := Lib.hid (HR.out.later hb1)
    have HB1 := Lib.hid hb1
    clear hb1
    go_wp2_with (at_builtin; have _t := hn; refine wpList_fresh rfl (.tmp 27) (.tmp 28) rfl w1.heap.size rfl a n c rfl (heap_alloc_new w1 _) l (H1.out.later (Below.alloc0 _ _)) (by omega) ?next)
    case next =>
      intro gO cO w2 hgO hO hg2
      have HO := Lib.hid hO
      have HG2 := Lib.hid hg2
      clear hO hg2
      have HB2 : Hid (Below w1.heap.size w1 w2) := (Below.alloc0 w1 _).grown HG2.out (by simp) (by simp)
      have HR2 := Lib.hid (HO.out.asSlice HR.out.1)
      go_wp2_with fail
      refine (openLo_any _ n cO l w2 HR2.out (by omega)).mono ?_
      rintro e w3 ⟨g1, rfl, hR1, hb3⟩
      have HR1 := Lib.hid hR1
      have HB3 := Lib.hid hb3
      clear hR1 hb3
      have HB13 : Hid (Below w1.heap.size w1 w3) := HB2.out.trans (HB3.out.mono HB2.out.size)
      go_wp2_with (at_builtin; have _t := hn; refine wpList_fresh rfl (.tmp 32) (.tmp 33) rfl w3.heap.size rfl a n c rfl (heap_alloc_new w3 _) l ((H1.out.later HB13.out).later (Below.alloc0 _ _)) (by omega) ?next2)
      case next2 =>
        intro gM cM w4 hgM hM hg4
        have HM := Lib.hid hM
        have HG4 := Lib.hid hg4
        clear hM hg4
        go_wp2
        obtain ⟨w5, hw5⟩ : ∃ w5, w5 = w4.alloc (.cells #[.slice (some ⟨gM, 0, none⟩) n cM, .int .i64 0] 41) := ⟨_, rfl⟩
        rw [← hw5]
        have HB34 : Hid (Below w3.heap.size w3 w4) := (Below.alloc0 w3 _).grown HG4.out (by simp) (by simp)
        have HB35 : Hid (Below w3.heap.size w3 w5) := by rw [hw5]; exact HB34.out.alloc HB34.out.size _
        have HLM : Hid (RdrLo w5 41 w4.heap.size 0 l w3.heap.size) := by
          rw [hw5]
          refine ⟨_, n, cM, heap_alloc_new w4 _, (HM.out.asSlice HR.out.1).later (Below.alloc0 _ _), ?_, by omega, HB34.out.size, ?_⟩
          · obtain ⟨_, _, hv, _, hc⟩ := HM.out.sl
            injection hv with _ h2 h3
            omega
          · intro b o hb
            injection hb with hb
            injection hb with hb
            omega
        have HL1 : Hid (RdrLo w5 52 g1 0 l w2.heap.size) := HR1.out.keep fun k _ hk => HB35.out.block k hk
        have HgO : Hid (gO < w2.heap.size) := by
          obtain ⟨cur, hcur, _⟩ := HO.out.someB HR.out.1
          exact lt_of_block hcur
        have HS5 : Hid (SomeB w5 gO n) := by
          obtain ⟨cur, hcur, hc⟩ := HO.out.someB HR.out.1
          exact ⟨cur, ((HB35.out.block gO (Nat.lt_of_lt_of_le HgO.out HB3.out.size)).trans ((HB3.out.block gO HgO.out).trans hcur)), hc⟩
        have HBW : Hid (Below w.heap.size w w5) := HB1.out.trans ((HB13.out.mono HB1.out.size).trans (HB35.out.mono (Nat.le_trans HB1.out.size HB13.out.size)))
        have hne : g1 ≠ w4.heap.size := by
          obtain ⟨_, _, _, hh, _⟩ := HR1.out
          have := lt_of_block hh
          have := HB34.out.size
          omega
        have hlo : w.heap.size ≤ gO ∧ w.heap.size ≤ g1 ∧ w.heap.size ≤ w4.heap.size := by
          obtain ⟨_, _, _, _, _, _, _, h1, _⟩ := HL1.out
          have := HB1.out.size
          have := HB2.out.size
          have := HB13.out.size
          have := HB34.out.size
          omega
        obtain ⟨hlo0, hlo1, hlo2⟩ := hlo
        have hsz : w2.heap.size ≤ w3.heap.size := HB3.out.size
        have HNE := Lib.hid hne
        obtain ⟨gm, hgm⟩ : ∃ gm, gm = w4.heap.size := ⟨_, rfl⟩
        rw [← hgm] at HLM hlo2 HNE ⊢
        clear hw5 hgm hne HB34 HB35 HM HG4 HR1 HB3 HR2 HO HG2 HB2 HB13 H1 HB1
        go_loopg [39] n (fun k i wr => ∃ j, k = n - j ∧ j ≤ n ∧ i = .int .i64 (j : Int) ∧ SomeB wr gO n ∧ w5.grownBy wr (some gO))
        case atStart => exact ⟨0, rfl, Nat.zero_le _, rfl, HS5.out, World.grownBy.refl _ _⟩
        case round =>
          obtain ⟨j, hk, hj, rfl, hsb, hgr⟩ := hrel
          have HK := Lib.hid hk
          have HSB := Lib.hid hsb
          have HGR := Lib.hid hgr
          clear hk hgr
          by_cases hlt : j < n
          · obtain ⟨cur, hcur, hc⟩ := hsb
            obtain ⟨z, hz, hcz⟩ := hc j hlt
            have hcell : wr.cell? ⟨gO, j, none⟩ = some (.int .u8 (z : Int)) := by rw [cell_of_row wr gO j cur 5 (0, 0) hcur]; exact hcz
            have hfr : wr.frozen? ⟨gO, j, none⟩ = false := by simp [World.frozen?, hcur]
            clear hcur hc hcz
            go_wp2
            go_roundg (n - (j + 1))
            case measure => have := HK.out; omega
            case rel => exact ⟨j + 1, rfl, by omega, by go_num, by rw [(xor_byte hz).1]; exact HSB.out.set _ (xor_byte hz).2, HGR.out.trans (grown_set _ _ _ _)⟩
          · go_wp2
            have h1 : Rdr wr 52 g1 0 l := (HL1.out.keep fun k hk1 hk2 => HGR.out.block k hk2 (by have := HgO.out; intro e; injection e with e; omega)).rdr
            have h2 : Rdr wr 41 gm 0 l := (HLM.out.keep fun k hk1 hk2 => HGR.out.block k hk2 (by have := HgO.out; intro e; injection e with e; omega)).rdr
            have h3 : Below w.heap.size w wr := HBW.out.grown HGR.out HBW.out.size (by intro k e; injection e with e; omega)
            have H1 := Lib.hid h1
            have H2 := Lib.hid h2
            have H3 := Lib.hid h3
            obtain ⟨w6, hw6⟩ : ∃ w6, w6 = wr := ⟨_, rfl⟩
            rw [← hw6] at H1 H2 H3 ⊢
            clear hw6 HGR HSB hsb HK HLM HL1 HgO HS5 HBW hsz
            clear h1 h2 h3
            go_loopg [51] un (fun k i wr => ∃ j E l', k = un - j ∧ j ≤ un ∧ i = .int .i64 (j : Int) ∧ Rdr wr 52 g1 E l' ∧ Rdr wr 41 gm E l' ∧ Below w.heap.size w wr)
            case atStart => exact ⟨0, 0, l, rfl, Nat.zero_le _, rfl, H1.out, H2.out, H3.out⟩
            case round =>
              obtain ⟨i, E, l', hk, hi, rfl, hr1, hr2, hbw⟩ := hrel
              have HK := Lib.hid hk
              have HR1 := Lib.hid hr1
              have HR2 := Lib.hid hr2
              have HBW := Lib.hid hbw
              clear hk hr1 hr2 hbw H1 H2 H3
              by_cases hil : i < un
              · obtain ⟨ub, uo, rfl, hx⟩ := HU.out.at_ HBW.out hil
                obtain ⟨x, hxe⟩ : ∃ x, x = L.getD i 0 := ⟨_, rfl⟩
                rw [← hxe] at hx
                have hx16 : x < 65536 := by
                  rw [hxe]
                  exact HU.out.2.1 _ (by have := HU.out.1; simp [List.getD, show i < L.length by omega])
                clear hxe
                obtain ⟨M, hM⟩ : ∃ M, M = 2 ^ (x / 4 % 65) - 1 := ⟨_, rfl⟩
                have HM := Lib.hid hM
                clear hM
                go_upto_if 63 with fail
                go_cut [11] (fun s wx => s = .int .u64 (M : Int) ∧ wr = wx)
                case first =>
                  by_cases hy : x / 4 % 65 = 64
                  · have hy' : ((x : Int) / 4 % 65 == 64) = true := by simp; omega
                    have hM64 : ((M : Nat) : Int) = 18446744073709551615 := by rw [HM.out, hy]; rfl
                    have HM64 := Lib.hid hM64
                    clear hM64 hy
                    go_wp2
                    go_meet
                    exact ⟨by rw [HM64.out], rfl⟩
                  · have hy' : ((x : Int) / 4 % 65 == 64) = false := by simp; omega
                    have hMs := most_small (y := x / 4 % 65) (by omega)
                    rw [← HM.out] at hMs
                    have HMS := Lib.hid hMs
                    clear hMs hy
                    go_wp2
                    go_meet
                    exact ⟨by rw [HMS.out], rfl⟩
                case rest =>
                  obtain ⟨rfl, rfl⟩ := hcut
                  go_upto_if 66 with fail
                  go_cut [] (fun wx => ∃ E1 l1, Rdr wx 52 g1 E1 l1 ∧ Rdr wx 41 gm E1 l1 ∧ Below w.heap.size w wx)
                  case first =>
                    by_cases hp : x % 2 = 0
                    · have hp' : ((x : Int) % 2 == 0) = true := by simp; omega
                      have hN1 := number_any wr g1 E l' M HR1.out
                      have hN2 := fun W (h : Rdr W 41 gm E l') => refNumber_any W gm E l' M h
                      obtain ⟨⟨k, E1, l1⟩, hk⟩ : ∃ k, k = rNum E l' M := ⟨_, rfl⟩
                      rw [← hk] at hN1 hN2
                      dsimp only at hN1 hN2
                      have HN1 := Lib.hid hN1
                      have HN2 := Lib.hid hN2
                      clear hk hN1 hN2 hp
                      go_wp2_with fail
                      refine HN1.out.mono ?_
                      rintro e w7 ⟨rfl, hra, hga⟩
                      have HRA := Lib.hid hra
                      have HGA := Lib.hid hga
                      clear hra hga
                      go_wp2_with fail
                      refine (HN2.out w7 (HR2.out.beside HR1.out (Ne.symm HNE.out) HGA.out)).mono ?_
                      rintro e w8 ⟨rfl, hrb, hgb⟩
                      have HRB := Lib.hid hrb
                      have HGB := Lib.hid hgb
                      clear hrb hgb
                      go_wp2
                      go_meet
                      exact ⟨E1, l1, HRA.out.beside (HR2.out.beside HR1.out (Ne.symm HNE.out) HGA.out) HNE.out HGB.out, HRB.out, (HBW.out.grown HGA.out HBW.out.size (by intro k e; injection e with e; omega)).grown HGB.out (Nat.le_trans HBW.out.size HGA.out.size) (by intro k e; injection e with e; omega)⟩
                    · have hp' : ((x : Int) % 2 == 0) = false := by simp; omega
                      obtain ⟨q, hq⟩ : ∃ q : Int, q = (x : Int) / 2 % 300 - 2 := ⟨_, rfl⟩
                      have hq2 : q = (q.toNat : Int) ∨ (q < 0 ∧ q.toNat = 0) := by omega
                      have hq3 : q.toNat ≤ 1000000 := by omega
                      have HY1 : Hid (Calls Try.prog 14 #[.pointer (some ⟨g1, 0, none⟩), .int .i64 ((x : Int) / 2 % 300 - 2)] wr.drew fun e w' => ∃ a n c, e = .returned (.slice a n c) ∧ Rd w' a n (rByt E l' q.toNat).1 ∧ Rdr w' 52 g1 (rByt E l' q.toNat).2.1 (rByt E l' q.toNat).2.2 ∧ wr.drew.grownBy w' (some g1)) := by
                        rw [← hq]; exact bytes_any wr.drew g1 E l' q _ hq2 hq3 HR1.out
                      have HY2 : Hid (∀ W, Rdr W 41 gm E l' → Calls Try.prog 17 #[.pointer (some ⟨gm, 0, none⟩), .int .i64 ((x : Int) / 2 % 300 - 2)] W fun e w' => ∃ a n c, e = .returned (.slice a n c) ∧ Rd w' a n (rByt E l' q.toNat).1 ∧ Rdr w' 41 gm (rByt E l' q.toNat).2.1 (rByt E l' q.toNat).2.2 ∧ W.grownBy w' (some gm)) := by
                        intro W hW
                        rw [← hq]; exact refBytes_any W gm E l' q _ hq2 hq3 hW
                      obtain ⟨t, ht⟩ : ∃ t, t = rByt E l' q.toNat := ⟨_, rfl⟩
                      rw [← ht] at HY1 HY2
                      have HR2d : Hid (Rdr wr.drew 41 gm E l') := HR2.out
                      have HR1d : Hid (Rdr wr.drew 52 g1 E l') := HR1.out
                      clear hq hq2 hq3 ht hp
                      go_wp2_with fail
                      refine wp_region_held_drew (S := fun _ => True) (by kernel_rfl) trivial (fun _ => ?_)
                      refine wpAnyH_take (i := 0) (v := ?v0) rfl (by kernel_rfl) (by kernel_rfl) (by kernel_rfl) (fun _ _ _ h => h) (Or.inl ⟨by rfl, ?h0⟩) trivial ?r0
                      case h0 => (intro W hW; go_simp; try with_reducible rfl)
                      simp only [Act.put, List.getElem_toArray, List.getElem_cons_zero, List.setIfInBounds_toArray, List.set_cons_zero, List.set_cons_succ]
                      refine wpAnyH_take (i := 1) (v := ?v1) rfl (by kernel_rfl) (by kernel_rfl) (by kernel_rfl) (fun _ _ _ h => h) (Or.inl ⟨by rfl, ?h1⟩) trivial ?r1
                      case h1 => (intro W hW; go_simp; try with_reducible rfl)
                      simp only [Act.put, List.getElem_toArray, List.getElem_cons_succ, List.getElem_cons_zero, List.setIfInBounds_toArray, List.set_cons_zero, List.set_cons_succ]
                      refine wpAnyH_take (i := 4) (v := ?v4) rfl (by kernel_rfl) (by kernel_rfl) (by kernel_rfl) (fun _ _ _ h => h) (Or.inl ⟨by rfl, ?h4⟩) trivial ?r4
                      case h4 => (intro W hW; go_simp; try with_reducible rfl)
                      simp only [Act.put, List.getElem_toArray, List.getElem_cons_succ, List.getElem_cons_zero, List.setIfInBounds_toArray, List.set_cons_zero, List.set_cons_succ]
                      refine wpAnyH_take (i := 5) (v := ?v5) rfl (by kernel_rfl) (by kernel_rfl) (by kernel_rfl) (fun _ _ _ h => h) (Or.inl ⟨by rfl, ?h5⟩) trivial ?r5
                      case h5 => (intro W hW; go_simp; try with_reducible rfl)
                      simp only [Act.put, List.getElem_toArray, List.getElem_cons_succ, List.getElem_cons_zero, List.setIfInBounds_toArray, List.set_cons_zero, List.set_cons_succ]
                      refine wpAnyH_ready (rs := [2]) (by kernel_rfl) (by simp) ?_
                      refine AllReadyH.cons rfl (fun K hK => ?_) AllReadyH.nil
                      go_simp
                      refine HY1.out.mono ?_
                      rintro e w7 ⟨a7, n7, c7, rfl, hr7, hrd7, hg7⟩
                      have HR7 := Lib.hid hr7
                      have HRA := Lib.hid hrd7
                      have HGA := Lib.hid hg7
                      clear hr7 hrd7 hg7
                      refine hK.out _ _ trivial (fun _ => ?_)
                      clear hK K
                      refine wpAnyH_strong (S1 := fun W => (convert 22 9 (.slice a7 n7 c7)).run Try.prog W = .ok (.string (strB t.1)) W) (fun _ _ => trivial) ?_
                      refine wpAnyH_take (i := 3) (v := ?v3) rfl (by kernel_rfl) (by kernel_rfl) (by kernel_rfl) (fun _ _ _ h => h) (Or.inl ⟨by rfl, ?h3⟩) (conv_rd HR7.out c7) ?r3
                      case h3 => (intro W hW; go_simp; try with_reducible rfl)
                      simp only [Act.put, List.getElem_toArray, List.getElem_cons_succ, List.getElem_cons_zero, List.setIfInBounds_toArray, List.set_cons_zero, List.set_cons_succ]
                      refine wpAnyH_ready (rs := [6]) (by kernel_rfl) (by simp) ?_
                      refine AllReadyH.cons rfl (fun K hK => ?_) AllReadyH.nil
                      go_simp
                      refine (HY2.out w7 (HR2d.out.beside HR1d.out (Ne.symm HNE.out) HGA.out)).mono ?_
                      rintro e w8 ⟨a8, n8, c8, rfl, hr8, hrd8, hg8⟩
                      have HR8 := Lib.hid hr8
                      have HRB := Lib.hid hrd8
                      have HGB := Lib.hid hg8
                      clear hr8 hrd8 hg8
                      have HC7 : Hid ((convert 22 9 (.slice a7 n7 c7)).run Try.prog w8 = .ok (.string (strB t.1)) w8) := by
                        obtain ⟨_, _, _, hh, _⟩ := HR2d.out.beside HR1d.out (Ne.symm HNE.out) HGA.out
                        exact conv_rd (HR7.out.beside hh HGB.out) c7
                      refine hK.out _ _ HC7.out (fun _ => ?_)
                      clear hK K
                      refine wpAnyH_strong (S1 := fun W => (convert 22 9 (.slice a7 n7 c7)).run Try.prog W = .ok (.string (strB t.1)) W ∧ (convert 22 9 (.slice a8 n8 c8)).run Try.prog W = .ok (.string (strB t.1)) W) (fun _ h => h.1) ?_
                      refine wpAnyH_take (i := 7) (v := ?v7) rfl (by kernel_rfl) (by kernel_rfl) (by kernel_rfl) (fun _ _ _ h => h) (Or.inl ⟨by rfl, ?h7⟩) ⟨HC7.out, conv_rd HR8.out c8⟩ ?r7
                      case h7 => (intro W hW; (try dsimp only at hW); go_simp; try with_reducible rfl)
                      simp only [Act.put, List.getElem_toArray, List.getElem_cons_succ, List.getElem_cons_zero, List.setIfInBounds_toArray, List.set_cons_zero, List.set_cons_succ]
                      refine wpAnyH_take (i := 8) (v := ?v8) rfl (by kernel_rfl) (by kernel_rfl) (by kernel_rfl) (fun _ _ _ h => h) (Or.inl ⟨by rfl, ?h8⟩) ⟨HC7.out, conv_rd HR8.out c8⟩ ?r8
                      case h8 => (intro W hW; (try dsimp only at hW); go_simp; try with_reducible rfl)
                      simp only [Act.put, List.getElem_toArray, List.getElem_cons_succ, List.getElem_cons_zero, List.setIfInBounds_toArray, List.set_cons_zero, List.set_cons_succ]
                      refine wpAnyH_done (by kernel_rfl) ?_ _
                      go_wp2
                      go_meet
                      exact ⟨t.2.1, t.2.2, HRA.out.beside (HR2d.out.beside HR1d.out (Ne.symm HNE.out) HGA.out) HNE.out HGB.out, HRB.out, (HBW.out.drew.grown HGA.out HBW.out.size (by intro k e; injection e with e; omega)).grown HGB.out (Nat.le_trans HBW.out.size HGA.out.size) (by intro k e; injection e with e; omega)⟩
                  case rest =>
                    clear HR1 HR2 HBW HM
                    obtain ⟨E1, l1, hra, hrb, hbw⟩ := hcut
                    have HRA : Hid (Rdr wc.drew 52 g1 E1 l1) := hra
                    have HRAc := Lib.hid hra
                    have HRBc := Lib.hid hrb
                    have HBW := Lib.hid hbw
                    obtain ⟨a9, n9, c9, hg9, hr9, hc9, hm9⟩ := hrb
                    have m0 : wc.cell? ⟨gm, 0, none⟩ = some (.slice a9 n9 c9) := by rw [cell_of_row wc gm 0 _ 41 (0, 0) hg9]; rfl
                    have m1 : wc.cell? ⟨gm, 1, none⟩ = some (.int .i64 (E1 : Int)) := by rw [cell_of_row wc gm 1 _ 41 (0, 0) hg9]; rfl
                    have HL9 := Lib.hid hr9.1
                    clear hra hbw hg9 hr9
                    have hcase : (E1 ≠ 0 ∧ rEnd E1 l1 = E1) ∨ (E1 = 0 ∧ n9 = 0 ∧ rEnd E1 l1 = 0) ∨ (E1 = 0 ∧ 0 < n9 ∧ rEnd E1 l1 = 5) := by
                      by_cases hE : E1 = 0
                      · subst hE
                        right
                        by_cases h9 : n9 = 0
                        · left
                          have : l1 = [] := List.eq_nil_of_length_eq_zero (by rw [HL9.out]; exact h9)
                          exact ⟨rfl, h9, by simp [rEnd, this]⟩
                        · right
                          have : l1 ≠ [] := by rintro rfl; have := HL9.out; simp at this; omega
                          exact ⟨rfl, by omega, by simp [rEnd, this]⟩
                      · left; exact ⟨hE, by simp [rEnd, hE]⟩
                    have hEnd := end_any wc.drew g1 E1 l1 HRA.out
                    have HFail := Lib.hid (failed_any wc.drew g1 E1 l1 HRA.out)
                    rcases hcase with ⟨hE, hR⟩ | ⟨rfl, rfl, hR⟩ | ⟨rfl, h9, hR⟩
                    · rw [hR] at hEnd
                      have HEnd := Lib.hid hEnd
                      have hE1 : ((E1 : Int) == 0) = false := by simp; omega
                      clear hEnd hR
                      go_wp2_with fail
                      go_region_held3 (fun W => W.cell? ⟨gm, 1, none⟩ = some (.int .i64 (E1 : Int))) (first | exact m1 | go_keep) (first | (go_at_call 18; refine HFail.out.mono ?_; rintro e w' ⟨rfl, rfl⟩) | (go_at_call 15; refine HEnd.out.mono ?_; rintro e w' ⟨rfl, rfl⟩))
                      go_wp2
                      go_roundg (un - (i + 1))
                      case measure => have := HK.out; omega
                      case rel => exact ⟨i + 1, E1, l1, rfl, by omega, by go_num, HRAc.out, HRBc.out, HBW.out.drew⟩
                    · rw [hR] at hEnd
                      have HEnd := Lib.hid hEnd
                      clear hEnd hR
                      go_wp2_with fail
                      go_region_held3 (fun W => W.cell? ⟨gm, 1, none⟩ = some (.int .i64 0)) (first | exact m1 | go_keep) (first | (go_at_call 18; refine HFail.out.mono ?_; rintro e w' ⟨rfl, rfl⟩) | (go_at_call 15; refine HEnd.out.mono ?_; rintro e w' ⟨rfl, rfl⟩))
                      go_wp2
                      go_roundg (un - (i + 1))
                      case measure => have := HK.out; omega
                      case rel => exact ⟨i + 1, 0, l1, rfl, by omega, by go_num, HRAc.out, HRBc.out, HBW.out.drew⟩
                    · rw [hR] at hEnd
                      have HEnd := Lib.hid hEnd
                      have h9' : 0 < (n9 : Int) := by omega
                      clear hEnd hR
                      go_wp2_with fail
                      go_region_held3 (fun W => W.cell? ⟨gm, 1, none⟩ = some (.int .i64 0)) (first | exact m1 | go_keep) (first | (go_at_call 18; refine HFail.out.mono ?_; rintro e w' ⟨rfl, rfl⟩) | (go_at_call 15; refine HEnd.out.mono ?_; rintro e w' ⟨rfl, rfl⟩))
                      go_wp2
                      go_roundg (un - (i + 1))
                      case measure => have := HK.out; omega
                      case rel => exact ⟨i + 1, 0, l1, rfl, by omega, by go_num, HRAc.out, HRBc.out, HBW.out.drew⟩
              · go_wp2
                go_ret
                exact ⟨rfl, HBW.out⟩
end Go.Proofs.Ytidbdfioadchaaa
