/- What records make of an image, in the document: the contract of its Apply, over any world. -/
import Derived.Test.YtaijldcfoaeogaaGreatGRrRowToRrHead
import Derived.Test.YtaijldcfoaeogaaGreatGSmChangeToSmApply
import Derived.Test.YtaijldcfoaeogaaGreatIRefPut
import Derived.Deep.DeepCutAuto
namespace Go.Proofs.YtaijldcfoaeogaaGreat
open Go.RowKit
set_option maxRecDepth 100000
set_option linter.unusedSimpArgs false

theorem str_cut (l : List Nat) (i j : Nat) : (strB l).extract i j = strB ((l.drop i).take (j - i)) := by
  apply ByteArray.ext
  apply Array.ext'
  simp [strB, strOfNums_data, ByteArray.data_extract, List.map_drop, List.map_take]

theorem slice_str (l : List Nat) (i j : Nat) (hij : i ≤ j) (hj : j ≤ l.length) (w : World) : (Instr.slice 9 (.string (strB l)) (some (.int .i64 (i : Int))) (some (.int .i64 (j : Int))) none).run Tryz.prog w = .ok (.string (strB ((l.drop i).take (j - i)))) w := by
  rw [run_slice_string w 9 (strB l) .i64 .i64 (i : Int) (j : Int) Tryz.underlying9 (by omega) (by omega) (by rw [strB_size]; omega)]
  simp [str_cut l i j]

set_option maxHeartbeats 4000000 in
set_option maxRecDepth 100000 in
theorem rapply_any (w : World) (F : List (List Nat)) (hF : okF F) (a : Option Addr) (n c : Nat) (xs : List Rec) (h : RdP w a n xs) (hn : n ≤ 100000) (hxs : ∀ y ∈ xs, y.ok = true ∧ (y.k = 2 ∨ y.k = 3)) (hby : ∀ y ∈ xs, ∀ z ∈ y.l, z < 256) :
    Calls Tryz.prog 12 #[.agg (cS F).toArray, .slice a n c] w fun e w' => e = .returned (.agg (cS (apF F xs)).toArray) ∧ Below w.heap.size w w' := by
  obtain ⟨g2, hg2⟩ : ∃ g2, g2 = w.heap.size := ⟨_, rfl⟩
  have HR := Lib.hid h
  have HX := Lib.hid (And.intro hxs hby)
  have HF := Lib.hid hF
  clear h hxs hby
  go_enter Tryz.func12, Tryz.ntmps12
  go_upto_region 1 with fail
  rw [zero_img]
  try change Code.wp _ _ _ _ ((w.alloc (arrObj F)).alloc (arrObj holes))
  obtain ⟨w2, h2⟩ : ∃ w2, w2 = (w.alloc (arrObj F)).alloc (arrObj holes) := ⟨_, rfl⟩
  rw [← h2, ← hg2]
  have HB2 : Hid (Below g2 w w2) := Lib.hid (by rw [h2, hg2]; exact ((Below.refl _ _).alloc (Nat.le_refl _) _).alloc (by simp) _)
  have HS2 : Hid (w2.heap.size = g2 + 1 + 1) := Lib.hid (by rw [h2, hg2]; simp)
  have HA2 : Hid (w2.heap[g2]? = some (arrObj F)) := Lib.hid (by rw [h2, hg2]; exact (Below.heap_alloc _ _ _ (by simp)).trans (heap_alloc_last _ _))
  have HZ2 : Hid (w2.heap[g2 + 1]? = some (arrObj holes)) := Lib.hid (by
    rw [h2, hg2]
    have := heap_alloc_last (w.alloc (arrObj F)) (arrObj holes)
    rw [World.size_alloc] at this
    exact this)
  have HG := Lib.hid hg2
  have HRW : Hid (∀ W, Save [g2] w2 W → RdP W a n xs) := Lib.hid fun W hW => HR.out.blk fun z o e hz => by
    have h9 := HR.out
    rw [e] at h9
    have h8 := h9.in_ hz
    exact (hW.block z (by have := HB2.out.size; omega) (by have := HG.out; simp; omega)).trans (HB2.out.block z (by have := HG.out; omega))
  clear h2 hg2
  go_wp2_with fail
  go_loopg [5] n (fun gk v5 wr => ∃ j : Nat, gk = n - j ∧ j ≤ n ∧ v5 = .int .i64 (j : Int) ∧ Hid (wr.heap[g2]? = some (arrObj (apF F (xs.take j))) ∧ okF (apF F (xs.take j))) ∧ Hid (Save [g2] w2 wr))
  case atStart => exact ⟨0, rfl, Nat.zero_le _, rfl, Lib.hid ⟨by simpa [apF] using HA2.out, by simpa [apF] using HF.out⟩, Lib.hid (Save.refl _ _)⟩
  case round =>
    obtain ⟨j, hgk, hj, rfl, HA, HSV⟩ := hrel
    have HGK := Lib.hid hgk
    clear hgk
    by_cases hlt : j < n
    · obtain ⟨br, or_, x, rfl, hxe, hxm, hcl⟩ := (HRW.out wr HSV.out).at_ hlt
      have hx := HX.out.1 x hxm
      have hby := HX.out.2 x hxm
      have hjx : j < xs.length := by have := HR.out.len; omega
      have HAP : Hid (apF F (xs.take (j + 1)) = chF (apF F (xs.take j)) x) := Lib.hid (by rw [apF_take F hjx, hxe])
      have hft : 0 ≤ x.f ∧ x.f < x.t ∧ x.t ≤ 256 ∧ (x.k = 2 → x.t ≤ x.f + 4 ∧ x.l.length = (x.t - x.f).toNat * 32) := by
        rcases Rec.ok_cases hx.1 with ⟨i, b, h1, h2, rfl⟩ | ⟨f, t, l, h1, h2, h3, h4, rfl⟩ | ⟨f, t, h1, h2, rfl⟩ | ⟨c', n', s', h1, h2, h3, rfl⟩
        · have := hx.2; simp at this
        · exact ⟨by simp, by simp; omega, by simp; omega, fun _ => ⟨by simp; omega, by simp [h4]⟩⟩
        · exact ⟨by simp, by simp; omega, by simp; omega, fun h => by simp at h⟩
        · have := hx.2; simp at this
      have hk23 := hx.2
      obtain ⟨xk, xi, xb, xf, xt, xl, xc, xn, xs'⟩ := x
      simp only at hft hk23 hby
      obtain ⟨f, rfl⟩ := Int.eq_ofNat_of_zero_le hft.1
      obtain ⟨t, rfl⟩ := Int.eq_ofNat_of_zero_le (Int.le_trans hft.1 (Int.le_of_lt hft.2.1))
      have hft' : f < t ∧ t ≤ 256 ∧ (xk = 2 → t ≤ f + 4 ∧ xl.length = (t - f) * 32) := ⟨by omega, by omega, fun h => ⟨by have := (hft.2.2.2 h).1; omega, by have := (hft.2.2.2 h).2; rw [this]; congr 1; omega⟩⟩
      clear hft
      have hft := hft'
      clear hft'
      have HFT := Lib.hid (And.intro hft (And.intro hk23 hby))
      have hbr : br < w2.heap.size ∧ br ≠ g2 := by
        have h9 := HR.out
        have h8 := h9.in_ (by omega)
        have := HB2.out.size
        have := HG.out
        omega
      have HBR := Lib.hid hbr
      have HC : Hid (∀ W, Save [g2] wr W → W.cell? ⟨br, or_ + j * 9 + 0, none⟩ = some (.int .u8 (xk : Int)) ∧ W.cell? ⟨br, or_ + j * 9 + 3, none⟩ = some (.int .i64 (f : Int)) ∧ W.cell? ⟨br, or_ + j * 9 + 4, none⟩ = some (.int .i64 (t : Int)) ∧ W.cell? ⟨br, or_ + j * 9 + 5, none⟩ = some (.string (strB xl))) := Lib.hid fun W hW => by
        have e := hW.block br (Nat.lt_of_lt_of_le hbr.1 HSV.out.size) (by simp; exact hbr.2)
        exact ⟨(World.cell?_of_block (w := wr) e).trans (hcl 0 _ rfl), (World.cell?_of_block (w := wr) e).trans (hcl 3 _ rfl), (World.cell?_of_block (w := wr) e).trans (hcl 4 _ rfl), (World.cell?_of_block (w := wr) e).trans (hcl 5 _ rfl)⟩
      obtain ⟨c0, c3, c4, c5⟩ := HC.out wr (Save.refl _ _)
      simp only [Nat.add_zero] at c0
      clear hcl hx hby hjx hxe hxm hft hk23 hbr
      go_wp2_with fail
      go_loopg [6] (t - f) (fun k2 v6 w3 => ∃ u : Nat, k2 = (t - f) - u ∧ u ≤ t - f ∧ v6 = .int .i64 ((f + u : Nat) : Int) ∧ Hid (w3.heap[g2]? = some (arrObj (chP (apF F (xs.take j)) ⟨xk, xi, xb, f, t, xl, xc, xn, xs'⟩ u)) ∧ okF (chP (apF F (xs.take j)) ⟨xk, xi, xb, f, t, xl, xc, xn, xs'⟩ u)) ∧ Hid (Save [g2] wr w3))
      case atStart => exact ⟨0, rfl, Nat.zero_le _, rfl, Lib.hid ⟨by simpa [chP] using HA.out.1, by simpa [chP] using HA.out.2⟩, Lib.hid (Save.refl _ _)⟩
      case round =>
        obtain ⟨u, hk2, hu, rfl, HU, HSU⟩ := hrel
        have HK2 := Lib.hid hk2
        obtain ⟨p, hp⟩ : ∃ p, p = f + u := ⟨_, rfl⟩
        rw [← hp]
        have HP := Lib.hid hp
        clear hk2
        obtain ⟨c0, c3, c4, c5⟩ := HC.out wr HSU.out
        simp only [Nat.add_zero] at c0
        by_cases hlu : p < t
        · obtain ⟨G, hG⟩ : ∃ G, G = chP (apF F (xs.take j)) ⟨xk, xi, xb, f, t, xl, xc, xn, xs'⟩ u := ⟨_, rfl⟩
          rw [← hG] at HU
          have HGE : Hid (chP (apF F (xs.take j)) ⟨xk, xi, xb, f, t, xl, xc, xn, xs'⟩ (u + 1) = G.set p (blkAt ⟨xk, xi, xb, f, t, xl, xc, xn, xs'⟩ u)) := Lib.hid (by rw [chP_succ, hG, hp]; simp)
          have hp256 : p < 256 := by have := HFT.out.1; omega
          have hGl := HU.out.2.1
          have hc := arr_cell HU.out.1 (j := p) (by rw [hGl]; exact hp256)
          have hf := arr_frozen (j := p) HU.out.1
          have hset := arr_set (j := p) [] HU.out.1
          obtain ⟨w6, hw6⟩ : ∃ w6, w6 = put wr g2 (arrObj (G.set p [])) := ⟨_, rfl⟩
          have HA6 : Hid (w6.heap[g2]? = some (arrObj (G.set p []))) := Lib.hid (by rw [hw6]; exact put_same HU.out.1)
          have hs6 := HSU.out.trans ((Save.refl [g2] wr).put (g := g2) (o := arrObj (G.set p [])) (by simp))
          rw [← hw6] at hs6
          have HS6 := Lib.hid hs6
          rw [← hw6] at hset
          have HGl := Lib.hid hGl
          have hse : (strB []) = ⟨#[]⟩ := rfl
          rw [hse] at hset
          clear hw6 hG hGl hp hse hs6
          obtain ⟨c0, c3, c4, c5⟩ := HC.out w6 HS6.out
          simp only [Nat.add_zero] at c0
          by_cases hk2 : xk = 2
          · have b1 : ((xk : Int) == 2) = true := by simp; omega
            have HK := Lib.hid hk2
            have hb := HFT.out.1.2.2 hk2
            obtain ⟨at_, hat⟩ : ∃ at_ : Nat, at_ = 32 * u := ⟨_, rfl⟩
            have HAT := Lib.hid hat
            have hu4 : u ≤ 4 := by have := HP.out; omega
            have hlen : at_ + 32 ≤ xl.length := by have := HP.out; rw [hb.2]; omega
            have HSL : Hid (∀ W, (Instr.slice 9 (.string (strB xl)) (some (.int .i64 (at_ : Int))) (some (.int .i64 ((at_ : Int) + 32))) none).run Tryz.prog W = .ok (.string (strB ((xl.drop at_).take 32))) W) := Lib.hid fun W => by
              have h9 := slice_str xl at_ (at_ + 32) (by omega) hlen W
              rw [show ((at_ + 32 : Nat) : Int) = (at_ : Int) + 32 by omega, show at_ + 32 - at_ = 32 by omega] at h9
              exact h9
            have hah : at_ ≤ 128 := by omega
            have hsub : (p : Int) - (f : Int) = (u : Int) := by have := HP.out; omega
            have hmul : 32 * (u : Int) = (at_ : Int) := by omega
            have hpi : (p : Int) < 256 := by omega
            have hwu : IntKind.i64.wrap (u : Int) = (u : Int) := IntWalk.i64_in _ (by omega)
            have hwm : IntKind.i64.wrap (at_ : Int) = (at_ : Int) := IntWalk.i64_in _ (by omega)
            have hwr : IntKind.i64.wrap ((at_ : Int) + 32) = (at_ : Int) + 32 := IntWalk.i64_in _ (by omega)
            have HBK : Hid ((xl.drop at_).take 32 = blkAt ⟨xk, xi, xb, f, t, xl, xc, xn, xs'⟩ u ∧ okB ((xl.drop at_).take 32)) := Lib.hid ⟨by simp [blkAt, hk2, hat], by simp [List.length_take, List.length_drop]; omega, fun z hz => HFT.out.2.2 z (List.mem_of_mem_drop (List.mem_of_mem_take hz))⟩
            obtain ⟨y, hy⟩ : ∃ y, y = (xl.drop at_).take 32 := ⟨_, rfl⟩
            rw [← hy] at HSL HBK
            have hb : f ≤ 256 ∧ u ≤ 4 := by omega
            have HS : Hid (∀ W', Save [g2] w6 W' → W'.cell? ⟨br, or_ + j * 9 + 3, none⟩ = some (.int .i64 (f : Int)) ∧ W'.cell? ⟨br, or_ + j * 9 + 5, none⟩ = some (.string (strB xl))) := Lib.hid fun W' hW' => ⟨(HC.out W' (HS6.out.trans hW')).2.1, (HC.out W' (HS6.out.trans hW')).2.2.2⟩
            clear hy hk2 hat hlen
            go_upto_region 9 with fail
            (try rw [hset])
            clear hset hc hf c0 c3 c4 c5
            have HS0 : Hid (Save [g2] w6 w6.drew) := Lib.hid (Save.refl [g2] w6).drew
            have hsl := HSL.out
            refine wp_region_held_drew (S := fun W => W.cell? ⟨br, or_ + j * 9 + 3, none⟩ = some (.int .i64 (f : Int)) ∧ W.cell? ⟨br, or_ + j * 9 + 5, none⟩ = some (.string (strB xl))) (by kernel_rfl) (HS.out _ HS0.out) (fun _ => ?_)
            refine wpAnyH_take (i := 0) (v := ?va0) rfl (by kernel_rfl) (by kernel_rfl) (by kernel_rfl) (fun _ _ _ h => h) (Or.inl ⟨by rfl, ?ha0⟩) (HS.out _ HS0.out) ?ra0
            case ha0 => (intro W hW; (try dsimp only at hW); go_simp; try with_reducible rfl)
            simp only [Act.put, List.getElem_toArray, List.getElem_cons_succ, List.getElem_cons_zero, List.setIfInBounds_toArray, List.set_cons_zero, List.set_cons_succ]
            refine wpAnyH_take (i := 1) (v := ?va1) rfl (by kernel_rfl) (by kernel_rfl) (by kernel_rfl) (fun _ _ _ h => h) (Or.inl ⟨by rfl, ?ha1⟩) (HS.out _ HS0.out) ?ra1
            case ha1 => (intro W hW; (try dsimp only at hW); go_simp; try with_reducible rfl)
            simp only [Act.put, List.getElem_toArray, List.getElem_cons_succ, List.getElem_cons_zero, List.setIfInBounds_toArray, List.set_cons_zero, List.set_cons_succ]
            refine wpAnyH_take (i := 2) (v := ?va2) rfl (by kernel_rfl) (by kernel_rfl) (by kernel_rfl) (fun _ _ _ h => h) (Or.inl ⟨by rfl, ?ha2⟩) (HS.out _ HS0.out) ?ra2
            case ha2 => (intro W hW; (try dsimp only at hW); go_simp; try with_reducible rfl)
            simp only [Act.put, List.getElem_toArray, List.getElem_cons_succ, List.getElem_cons_zero, List.setIfInBounds_toArray, List.set_cons_zero, List.set_cons_succ]
            refine wpAnyH_take (i := 3) (v := ?va3) rfl (by kernel_rfl) (by kernel_rfl) (by kernel_rfl) (fun _ _ _ h => h) (Or.inl ⟨by rfl, ?ha3⟩) (HS.out _ HS0.out) ?ra3
            case ha3 => (intro W hW; (try dsimp only at hW); go_simp; try with_reducible rfl)
            simp only [Act.put, List.getElem_toArray, List.getElem_cons_succ, List.getElem_cons_zero, List.setIfInBounds_toArray, List.set_cons_zero, List.set_cons_succ]
            refine wpAnyH_take (i := 4) (v := ?va4) rfl (by kernel_rfl) (by kernel_rfl) (by kernel_rfl) (fun _ _ _ h => h) (Or.inl ⟨by rfl, ?ha4⟩) (HS.out _ HS0.out) ?ra4
            case ha4 => (intro W hW; (try dsimp only at hW); go_simp; try with_reducible rfl)
            simp only [Act.put, List.getElem_toArray, List.getElem_cons_succ, List.getElem_cons_zero, List.setIfInBounds_toArray, List.set_cons_zero, List.set_cons_succ]
            refine wpAnyH_take (i := 5) (v := ?va5) rfl (by kernel_rfl) (by kernel_rfl) (by kernel_rfl) (fun _ _ _ h => h) (Or.inl ⟨by rfl, ?ha5⟩) (HS.out _ HS0.out) ?ra5
            case ha5 => (intro W hW; (try dsimp only at hW); go_simp; try with_reducible rfl)
            simp only [Act.put, List.getElem_toArray, List.getElem_cons_succ, List.getElem_cons_zero, List.setIfInBounds_toArray, List.set_cons_zero, List.set_cons_succ]
            refine wpAnyH_take (i := 6) (v := ?va6) rfl (by kernel_rfl) (by kernel_rfl) (by kernel_rfl) (fun _ _ _ h => h) (Or.inl ⟨by rfl, ?ha6⟩) (HS.out _ HS0.out) ?ra6
            case ha6 => (intro W hW; (try dsimp only at hW); go_simp; try with_reducible rfl)
            simp only [Act.put, List.getElem_toArray, List.getElem_cons_succ, List.getElem_cons_zero, List.setIfInBounds_toArray, List.set_cons_zero, List.set_cons_succ]
            refine wpAnyH_take (i := 7) (v := ?va7) rfl (by kernel_rfl) (by kernel_rfl) (by kernel_rfl) (fun _ _ _ h => h) (Or.inl ⟨by rfl, ?ha7⟩) (HS.out _ HS0.out) ?ra7
            case ha7 => (intro W hW; (try dsimp only at hW); go_simp; try with_reducible rfl)
            simp only [Act.put, List.getElem_toArray, List.getElem_cons_succ, List.getElem_cons_zero, List.setIfInBounds_toArray, List.set_cons_zero, List.set_cons_succ]
            refine wpAnyH_take (i := 8) (v := ?va8) rfl (by kernel_rfl) (by kernel_rfl) (by kernel_rfl) (fun _ _ _ h => h) (Or.inl ⟨by rfl, ?ha8⟩) (HS.out _ HS0.out) ?ra8
            case ha8 => (intro W hW; (try dsimp only at hW); go_simp; try with_reducible rfl)
            simp only [Act.put, List.getElem_toArray, List.getElem_cons_succ, List.getElem_cons_zero, List.setIfInBounds_toArray, List.set_cons_zero, List.set_cons_succ]
            refine wpAnyH_take (i := 9) (v := ?va9) rfl (by kernel_rfl) (by kernel_rfl) (by kernel_rfl) (fun _ _ _ h => h) (Or.inl ⟨by rfl, ?ha9⟩) (HS.out _ HS0.out) ?ra9
            case ha9 => (intro W hW; (try dsimp only at hW); go_simp; try with_reducible rfl)
            simp only [Act.put, List.getElem_toArray, List.getElem_cons_succ, List.getElem_cons_zero, List.setIfInBounds_toArray, List.set_cons_zero, List.set_cons_succ]
            refine wpAnyH_take (i := 10) (v := ?va10) rfl (by kernel_rfl) (by kernel_rfl) (by kernel_rfl) (fun _ _ _ h => h) (Or.inl ⟨by rfl, ?ha10⟩) (HS.out _ HS0.out) ?ra10
            case ha10 => (intro W hW; (try dsimp only at hW); go_simp; try with_reducible rfl)
            simp only [Act.put, List.getElem_toArray, List.getElem_cons_succ, List.getElem_cons_zero, List.setIfInBounds_toArray, List.set_cons_zero, List.set_cons_succ]
            refine wpAnyH_take (i := 11) (v := ?va11) rfl (by kernel_rfl) (by kernel_rfl) (by kernel_rfl) (fun _ _ _ h => h) (Or.inl ⟨by rfl, ?ha11⟩) (HS.out _ HS0.out) ?ra11
            case ha11 => (intro W hW; (try dsimp only at hW); go_simp; try with_reducible rfl)
            simp only [Act.put, List.getElem_toArray, List.getElem_cons_succ, List.getElem_cons_zero, List.setIfInBounds_toArray, List.set_cons_zero, List.set_cons_succ]
            refine wpAnyH_take (i := 12) (v := ?va12) rfl (by kernel_rfl) (by kernel_rfl) (by kernel_rfl) (fun _ _ _ h => h) (Or.inl ⟨by rfl, ?ha12⟩) (HS.out _ HS0.out) ?ra12
            case ha12 => (intro W hW; (try dsimp only at hW); go_simp; try with_reducible rfl)
            simp only [Act.put, List.getElem_toArray, List.getElem_cons_succ, List.getElem_cons_zero, List.setIfInBounds_toArray, List.set_cons_zero, List.set_cons_succ]
            refine wpAnyH_take (i := 13) (v := ?va13) rfl (by kernel_rfl) (by kernel_rfl) (by kernel_rfl) (fun _ _ _ h => h) (Or.inl ⟨by rfl, ?ha13⟩) (HS.out _ HS0.out) ?ra13
            case ha13 => (intro W hW; (try dsimp only at hW); go_simp; try with_reducible rfl)
            simp only [Act.put, List.getElem_toArray, List.getElem_cons_succ, List.getElem_cons_zero, List.setIfInBounds_toArray, List.set_cons_zero, List.set_cons_succ]
            refine wpAnyH_take (i := 14) (v := ?va14) rfl (by kernel_rfl) (by kernel_rfl) (by kernel_rfl) (fun _ _ _ h => h) (Or.inl ⟨by rfl, ?ha14⟩) (HS.out _ HS0.out) ?ra14
            case ha14 => (intro W hW; (try dsimp only at hW); go_simp; try with_reducible rfl)
            simp only [Act.put, List.getElem_toArray, List.getElem_cons_succ, List.getElem_cons_zero, List.setIfInBounds_toArray, List.set_cons_zero, List.set_cons_succ]
            refine wpAnyH_take (i := 15) (v := ?va15) rfl (by kernel_rfl) (by kernel_rfl) (by kernel_rfl) (fun _ _ _ h => h) (Or.inl ⟨by rfl, ?ha15⟩) (HS.out _ HS0.out) ?ra15
            case ha15 => (intro W hW; (try dsimp only at hW); go_simp; try with_reducible rfl)
            simp only [Act.put, List.getElem_toArray, List.getElem_cons_succ, List.getElem_cons_zero, List.setIfInBounds_toArray, List.set_cons_zero, List.set_cons_succ]
            refine wpAnyH_take (i := 16) (v := ?va16) rfl (by kernel_rfl) (by kernel_rfl) (by kernel_rfl) (fun _ _ _ h => h) (Or.inl ⟨by rfl, ?ha16⟩) (HS.out _ HS0.out) ?ra16
            case ha16 => (intro W hW; (try dsimp only at hW); go_simp; try with_reducible rfl)
            simp only [Act.put, List.getElem_toArray, List.getElem_cons_succ, List.getElem_cons_zero, List.setIfInBounds_toArray, List.set_cons_zero, List.set_cons_succ]
            refine wpAnyH_take (i := 17) (v := ?va17) rfl (by kernel_rfl) (by kernel_rfl) (by kernel_rfl) (fun _ _ _ h => h) (Or.inl ⟨by rfl, ?ha17⟩) (HS.out _ HS0.out) ?ra17
            case ha17 => (intro W hW; (try dsimp only at hW); go_simp; try with_reducible rfl)
            simp only [Act.put, List.getElem_toArray, List.getElem_cons_succ, List.getElem_cons_zero, List.setIfInBounds_toArray, List.set_cons_zero, List.set_cons_succ]
            refine wpAnyH_take (i := 18) (v := ?va18) rfl (by kernel_rfl) (by kernel_rfl) (by kernel_rfl) (fun _ _ _ h => h) (Or.inl ⟨by rfl, ?ha18⟩) (HS.out _ HS0.out) ?ra18
            case ha18 => (intro W hW; (try dsimp only at hW); go_simp; try with_reducible rfl)
            simp only [Act.put, List.getElem_toArray, List.getElem_cons_succ, List.getElem_cons_zero, List.setIfInBounds_toArray, List.set_cons_zero, List.set_cons_succ]
            refine wpAnyH_take (i := 19) (v := ?va19) rfl (by kernel_rfl) (by kernel_rfl) (by kernel_rfl) (fun _ _ _ h => h) (Or.inl ⟨by rfl, ?ha19⟩) (HS.out _ HS0.out) ?ra19
            case ha19 => (intro W hW; (try dsimp only at hW); go_simp; try with_reducible rfl)
            simp only [Act.put, List.getElem_toArray, List.getElem_cons_succ, List.getElem_cons_zero, List.setIfInBounds_toArray, List.set_cons_zero, List.set_cons_succ]
            refine wpAnyH_take (i := 20) (v := ?va20) rfl (by kernel_rfl) (by kernel_rfl) (by kernel_rfl) (fun _ _ _ h => h) (Or.inl ⟨by rfl, ?ha20⟩) (HS.out _ HS0.out) ?ra20
            case ha20 => (intro W hW; (try dsimp only at hW); go_simp; try with_reducible rfl)
            simp only [Act.put, List.getElem_toArray, List.getElem_cons_succ, List.getElem_cons_zero, List.setIfInBounds_toArray, List.set_cons_zero, List.set_cons_succ]
            refine wpAnyH_take (i := 21) (v := ?va21) rfl (by kernel_rfl) (by kernel_rfl) (by kernel_rfl) (fun _ _ _ h => h) (Or.inl ⟨by rfl, ?ha21⟩) (HS.out _ HS0.out) ?ra21
            case ha21 => (intro W hW; (try dsimp only at hW); go_simp; try with_reducible rfl)
            simp only [Act.put, List.getElem_toArray, List.getElem_cons_succ, List.getElem_cons_zero, List.setIfInBounds_toArray, List.set_cons_zero, List.set_cons_succ]
            refine wpAnyH_take (i := 22) (v := ?va22) rfl (by kernel_rfl) (by kernel_rfl) (by kernel_rfl) (fun _ _ _ h => h) (Or.inl ⟨by rfl, ?ha22⟩) (HS.out _ HS0.out) ?ra22
            case ha22 => (intro W hW; (try dsimp only at hW); go_simp; try with_reducible rfl)
            simp only [Act.put, List.getElem_toArray, List.getElem_cons_succ, List.getElem_cons_zero, List.setIfInBounds_toArray, List.set_cons_zero, List.set_cons_succ]
            refine wpAnyH_take (i := 23) (v := ?va23) rfl (by kernel_rfl) (by kernel_rfl) (by kernel_rfl) (fun _ _ _ h => h) (Or.inl ⟨by rfl, ?ha23⟩) (HS.out _ HS0.out) ?ra23
            case ha23 => (intro W hW; (try dsimp only at hW); go_simp; try with_reducible rfl)
            simp only [Act.put, List.getElem_toArray, List.getElem_cons_succ, List.getElem_cons_zero, List.setIfInBounds_toArray, List.set_cons_zero, List.set_cons_succ]
            refine wpAnyH_take (i := 24) (v := ?va24) rfl (by kernel_rfl) (by kernel_rfl) (by kernel_rfl) (fun _ _ _ h => h) (Or.inl ⟨by rfl, ?ha24⟩) (HS.out _ HS0.out) ?ra24
            case ha24 => (intro W hW; (try dsimp only at hW); go_simp; try with_reducible rfl)
            simp only [Act.put, List.getElem_toArray, List.getElem_cons_succ, List.getElem_cons_zero, List.setIfInBounds_toArray, List.set_cons_zero, List.set_cons_succ]
            have hpl : p < (G.set p []).length := by rw [List.length_set, HGl.out]; omega
            have hc9 := (show w6.drew.cell? ⟨g2, p, none⟩ = w6.cell? ⟨g2, p, none⟩ from rfl).trans (arr_cell HA6.out (j := p) hpl)
            have hf9 := (show w6.drew.frozen? ⟨g2, p, none⟩ = w6.frozen? ⟨g2, p, none⟩ from rfl).trans (arr_frozen (j := p) HA6.out)
            have HA9 : Hid (w6.drew.heap[g2]? = some (arrObj (G.set p []))) := Lib.hid HA6.out
            have hset := arr_set (j := p) y HA9.out
            have HPUT := Lib.hid hset
            clear hset
            refine wpAnyH_ready (rs := [25]) (by kernel_rfl) (by simp) ?_
            refine AllReadyH.cons rfl (fun K hK => ?_) AllReadyH.nil
            refine ready_skp (w' := put w6.drew g2 (arrObj ((G.set p []).set p y))) (by rfl) (by rw [← HPUT.out]; (go_simp; try with_reducible rfl)) ?_
            have HS9 : Hid (Save [g2] w6 (put w6.drew g2 (arrObj ((G.set p []).set p y)))) := Lib.hid (HS0.out.put (by simp) _)
            refine hK.out _ _ (HS.out _ HS9.out) (fun _ => ?_)
            have HA10 : Hid ((put w6.drew g2 (arrObj ((G.set p []).set p y))).heap[g2]? = some (arrObj (G.set p y))) := Lib.hid (by rw [put_same HA9.out]; simp [List.set_set])
            clear hK K hc9 hf9 hsl hwr hwm hwu hmul hsub hpi hpl
            generalize put w6.drew g2 (arrObj ((G.set p []).set p y)) = w9 at HS9 HA10 ⊢
            simp only [Act.put, List.getElem_toArray, List.getElem_cons_succ, List.getElem_cons_zero, List.setIfInBounds_toArray, List.set_cons_zero, List.set_cons_succ]
            refine wpAnyH_done (by kernel_rfl) ?_ _
            have HS10 := Lib.hid (HS6.out.trans HS9.out)
            go_wp2_with fail
            go_roundg ((t - f) - (u + 1))
            case measure => have := HK2.out; have := HP.out; have := HFT.out.1; omega
            case rel =>
              refine ⟨u + 1, rfl, by have := HP.out; have := HFT.out.1; omega, by have := HP.out; simp; omega, Lib.hid ?_, HS10⟩
              rw [HGE.out, ← HBK.out.1]
              exact ⟨HA10.out, HU.out.2.set p (.inr HBK.out.2)⟩
          · have b1 : ((xk : Int) == 2) = false := by simp; omega
            have HBK : Hid (blkAt ⟨xk, xi, xb, f, t, xl, xc, xn, xs'⟩ u = []) := Lib.hid (by have h3 : xk = 3 := (HFT.out.2.1).resolve_left hk2; simp [blkAt, h3])
            clear hk2
            go_wp2_with fail
            try rw [hset]
            go_roundg ((t - f) - (u + 1))
            case measure => have := HK2.out; have := HP.out; have := HFT.out.1; omega
            case rel =>
              refine ⟨u + 1, rfl, by have := HP.out; have := HFT.out.1; omega, by have := HP.out; simp; omega, Lib.hid ?_, HS6⟩
              rw [HGE.out]
              rw [HBK.out]
              exact ⟨HA6.out, HU.out.2.set p (.inl rfl)⟩
        · have he : u = t - f := by have := HP.out; omega
          have HU9 := HU.out
          have HE : Hid (chP (apF F (xs.take j)) ⟨xk, xi, xb, f, t, xl, xc, xn, xs'⟩ u = apF F (xs.take (j + 1))) := Lib.hid (by
            rw [HAP.out]
            unfold chF
            rw [he]
            congr 1
            simp only
            omega)
          rw [HE.out] at HU9
          have HU8 := Lib.hid HU9
          have HSX := Lib.hid (HSV.out.trans HSU.out)
          clear HU9 he
          go_wp2_with fail
          go_roundg (n - (j + 1))
          case measure => have := HGK.out; omega
          case rel => exact ⟨j + 1, rfl, by omega, by simp, HU8, HSX⟩
    · obtain rfl : j = n := by omega
      have htk : xs.take j = xs := List.take_of_length_le (by have := HR.out.len; omega)
      rw [htk] at HA
      have HZ : Hid (wr.heap[g2 + 1]? = some (arrObj holes)) := Lib.hid ((HSV.out.block _ (by rw [HS2.out]; omega) (by simp)).trans HZ2.out)
      have HA6 := Lib.hid HA.out.1
      have HL6 := Lib.hid HA.out.2.1
      have HB6 : Hid (Below g2 w wr) := Lib.hid (HB2.out.trans (HSV.out.below (by rw [HS2.out]; omega) (by simp)))
      clear htk
      go_wp2_with (first
        | (refine wpList_load_img rfl (.tmp 2) rfl g2 (apF F xs) rfl HA6.out HL6.out ?_)
        | (refine wpList_store_img rfl (.tmp 4) (.tmp 60) rfl (g2 + 1) holes (apF F xs) rfl rfl HZ.out List.length_replicate HL6.out ?_; intro w7 H7))
      have HA7 : Hid (w7.heap[g2 + 1]? = some (arrObj (apF F xs))) := Lib.hid (by rw [H7.out]; exact put_same HZ.out)
      have HB7 : Hid (Below g2 w w7) := Lib.hid (by rw [H7.out]; exact HB6.out.trans (put_below _ (by omega)))
      refine bodyPost_ret (v := .agg (cS (apF F xs)).toArray) ?_ rfl ⟨rfl, by rw [← HG.out]; exact HB7.out⟩
      exact ret_img rfl rfl HA7.out HL6.out

end Go.Proofs.YtaijldcfoaeogaaGreat
