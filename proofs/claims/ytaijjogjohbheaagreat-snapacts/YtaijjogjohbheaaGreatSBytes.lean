/- The contract of a state's bytes. -/
import Derived.Test.YtaijjogjohbheaaGreatSSta
import Derived.Test.YtaijjogjohbheaaGreatGDiskToRSec
import Derived.Test.YtaijjogjohbheaaGreatGAppGToIEq
namespace Go.Proofs.YtaijjogjohbheaaGreat
open Go.RowKit
set_option maxRecDepth 100000
set_option linter.unusedSimpArgs false

theorem imgEnc_any (w : World) (V : List Nat) (N g : Nat) (F : List (List Nat)) (h : ImgV w V N g F) :
    Calls Tryz.prog 90 #[.pointer (some ⟨g, 0, none⟩)] w fun e w' => ∃ a c, e = .returned (.slice a (iEnc F).length c) ∧ Own w' w.heap.size (.slice a (iEnc F).length c) (iEnc F) ∧ Rd w' a (iEnc F).length (iEnc F) ∧ Below w.heap.size w w' := by
  obtain ⟨b, n, h1, h2, h3, h4⟩ := h
  refine (imgBytes_any w g b n F h1).mono ?_
  rintro e w' ⟨v, M, rfl, hM, ho, hb⟩
  rw [← iEnc_eq hM] at ho
  obtain ⟨a, c, rfl, hr, _⟩ := ho.sl
  exact ⟨a, c, rfl, ho, hr, hb⟩

theorem rdU_one {w : World} {ty : TypeId} {x : Nat} (hx : x ≤ 18446744073709551615) :
    RdU (w.alloc (.cells #[.int .u64 (x : Int)] ty)) (some ⟨w.heap.size, 0, none⟩) 1 [x] := by
  refine ⟨rfl, by simp; omega, fun _ => ⟨_, _, rfl, fun j hj => ?_⟩⟩
  rw [World.cell?_alloc_new]
  obtain rfl : j = 0 := by omega
  rfl

set_option maxHeartbeats 4000000 in
theorem stBytes_any (w : World) (V : List Nat) (N gi last n c : Nat) (a : Option Addr) (F : List (List Nat)) (X : List (Nat × List (List Nat))) (h : Sta w V N gi a n F X) (hok : OkS F last X) :
    Calls Tryz.prog 57 #[stV gi last a n c] w fun e w' => ∃ v, e = .returned v ∧ Own w' w.heap.size v (sEnc F last X) ∧ Below w.heap.size w w' := by
  have hn := h.len
  have hlast := hok.last
  have hn32 : n ≤ 32 := by have := hok.few; omega
  have hfew := hok.few
  have h10 := vEnc_len 1 last (by omega)
  have h11 := vEnc_len 1 n (by omega)
  have HST := Lib.hid h
  have HOk := Lib.hid hok
  have HLen := Lib.hid hok.len
  have hil := iEnc_len hok.img
  obtain ⟨B0, hB0⟩ : ∃ B0, B0 = iEnc F := ⟨_, rfl⟩
  have HB0 := Lib.hid hB0
  unfold stV
  go_enter Tryz.func57, Tryz.ntmps57
  go_upto_region 1 with fail
  obtain ⟨w1, hw1⟩ : ∃ w1, w1 = w.alloc (.cells #[.pointer (some ⟨gi, 0, none⟩), .int .i64 (last : Int), .slice a n c] 76) := ⟨_, rfl⟩
  obtain ⟨q, hq⟩ : ∃ q, q = w.heap.size := ⟨_, rfl⟩
  rw [← hw1, ← hq]
  have hob : w1.heap[q]? = some (.cells #[.pointer (some ⟨gi, 0, none⟩), .int .i64 (last : Int), .slice a n c] 76 (0, 0)) := by rw [hw1, hq]; exact heap_alloc_new _ _
  have hbe : Below w.heap.size w w1 := by rw [hw1]; exact Below.alloc0 _ _
  have HBE := Lib.hid hbe
  have HK : Hid (∀ W, Below w1.heap.size w1 W → W.cell? ⟨q, 0, none⟩ = some (.pointer (some ⟨gi, 0, none⟩)) ∧ W.cell? ⟨q, 1, none⟩ = some (.int .i64 (last : Int)) ∧ W.cell? ⟨q, 2, none⟩ = some (.slice a n c)) := by
    refine Lib.hid fun W hW => ?_
    have e := (hW.block q (lt_of_block hob)).trans hob
    simp [World.cell?, e]
  have HI : Hid (∀ W, Below w1.heap.size w1 W → Calls Tryz.prog 90 #[.pointer (some ⟨gi, 0, none⟩)] W fun e w' => ∃ a' c', e = .returned (.slice a' B0.length c') ∧ Own w' W.heap.size (.slice a' B0.length c') B0 ∧ Rd w' a' B0.length B0 ∧ Below W.heap.size W w') := by
    refine Lib.hid fun W hW => ?_
    rw [hB0]
    exact imgEnc_any W V N gi F ((HST.out.later hbe).later hW).img
  have hq1 : q < w1.heap.size := lt_of_block hob
  have HQ := Lib.hid hq
  have hwl : IntKind.u64.wrap (last : Int) = (last : Int) := by rw [IntKind.wrap_u64]; omega
  have hwn : IntKind.u64.wrap (n : Int) = (n : Int) := by rw [IntKind.wrap_u64]; omega
  have HQ1 := Lib.hid hq1
  obtain ⟨bl, hbl⟩ : ∃ bl, bl = B0.length := ⟨_, rfl⟩
  rw [← hbl] at HI
  have HBL := Lib.hid hbl
  have hbl2 : bl ≤ 9300 := by rw [hbl, hB0]; exact hil
  clear h hok hn hw1 hq hob hbe hB0 hil hbl hq1
  have HPut : Hid (∀ W a1 c1 ua, Rd W a1 bl B0 → RdU W ua 2 [last, n] → Calls Tryz.prog 89 #[.slice a1 bl c1, .slice ua 2 2] W fun e w' => ∃ v, e = .returned v ∧ Own w' W.heap.size v (B0 ++ [last, n].flatMap vEnc) ∧ Below W.heap.size W w') :=
    Lib.hid fun W a1 c1 ua h1 h2 => put_any a1 bl c1 B0 ua 2 2 [last, n] W h1 h2 (by omega) (by omega)
  have k1 := HK.out w1.drew (Below.refl _ _).drew
  have HUA : Hid (∀ W : World, RdU (W.alloc (.cells #[.int .u64 (last : Int), .int .u64 (n : Int)] 104)) (some ⟨W.heap.size, 0, none⟩) 2 [last, n]) := Lib.hid fun W => by exact rdU_two (w := W) (ty := 104) (x := last) (y := n) (by omega) (by omega)
  go_cut [3] (fun v W => ∃ sv, sv = v ∧ Hid (Own W w1.heap.size sv (B0 ++ [last, n].flatMap vEnc)) ∧ Hid (Below w1.heap.size w1 W))
  case first =>
    go_region_held3 (fun W => W.cell? ⟨q, 0, none⟩ = some (.pointer (some ⟨gi, 0, none⟩)) ∧ W.cell? ⟨q, 1, none⟩ = some (.int .i64 (last : Int)) ∧ W.cell? ⟨q, 2, none⟩ = some (.slice a n c))
      (first
        | exact HK.out _ (Below.refl _ _).drew
        | exact HK.out _ (Below.alloc0 _ _).drew
        | exact HK.out _ ((Below.refl _ _).drew.trans hb2)
        | exact HK.out _ ((Below.alloc0 _ _).drew.trans (hb2.mono (by simp)))
        | exact HK.out _ (((Below.refl _ _).drew.trans hb2).alloc (by have := hb2.size; simpa using this) _)
        | exact HK.out _ ((((Below.refl _ _).drew.trans hb2).alloc (by have := hb2.size; simpa using this) _).trans (hb3.mono (by have := hb2.size; simp only [World.size_alloc, World.drew] at this ⊢; exact Nat.le_succ_of_le this)))
        | exact HK.out _ (((Below.alloc0 _ _).drew.trans (hb2.mono (by simp))).trans (hb3.mono (by have := hb2.size; simp only [World.size_alloc, World.drew] at this; exact Nat.le_of_succ_le this)))
        | go_keep)
      (first
        | (go_at_call 90; refine (HI.out _ ?_).mono ?_; (first | exact (Below.refl _ _).drew | exact (Below.alloc0 _ _).drew); rintro e w2 ⟨a2, c2, rfl, ho2, hr2, hb2⟩)
        | (go_at_call 89; refine (HPut.out _ a2 c2 _ ?_ ?_).mono ?_; (first | exact hr2 | exact hr2.later (Below.alloc0 _ _)); (first | exact HUA.out _ | exact ((HUA.out _).later (Below.refl _ _).drew).later hb2); rintro e w3 ⟨v3, rfl, ho3, hb3⟩))
    all_goals
      have hb13 : Below w1.heap.size w1 w3 := by
        first
          | exact ((((Below.refl _ _).drew.trans hb2).alloc (by have := hb2.size; simpa using this) _).trans (hb3.mono (by have := hb2.size; simp only [World.size_alloc, World.drew] at this ⊢; exact Nat.le_succ_of_le this)))
          | exact (((Below.alloc0 _ _).drew.trans (hb2.mono (by simp))).trans (hb3.mono (by have := hb2.size; simp only [World.size_alloc, World.drew] at this; exact Nat.le_of_succ_le this)))
      have ho13 : Own w3 w1.heap.size v3 (B0 ++ [last, n].flatMap vEnc) := ho3.mono (by
        have h2 := hb2.size
        simp only [World.size_alloc, World.drew] at h2 ⊢
        omega)
      go_wp2_with fail
      go_meet
      exact ⟨v3, rfl, Lib.hid ho13, Lib.hid hb13⟩
  case rest =>
    obtain ⟨sv, rfl, HO, HB⟩ := hcut
    obtain ⟨T, hX, hRY, hT, _⟩ := HST.out.row
    have HRY := Lib.hid hRY
    have HT := Lib.hid hT
    have HX := Lib.hid hX
    have HTl : Hid (T.length = n) := Lib.hid (by simpa using hRY.1)
    clear hX hRY hT
    obtain ⟨P0, hP0⟩ : ∃ P0, P0 = B0 ++ [last, n].flatMap vEnc := ⟨_, rfl⟩
    rw [← hP0] at HO
    have HP0 : Hid (P0 = B0 ++ [last, n].flatMap vEnc ∧ P0.length ≤ 9400) := by
      refine Lib.hid ⟨hP0, ?_⟩
      have h1 := HBL.out
      rw [hP0]
      simp only [List.length_append, List.flatMap_cons, List.flatMap_nil, List.length_nil]
      omega
    have k3 := (HK.out wc HB.out).2.2
    clear hP0 k1
    go_wp2
    go_loopg [3, 21] n (fun k v i wr => ∃ (j : Nat) (sv : Value), sv = v ∧ k = n - j ∧ j ≤ n ∧ i = .int .i64 (j : Int) ∧ Hid (Own wr w1.heap.size sv (P0 ++ xEnc (X.take j))) ∧ Hid (Below w1.heap.size w1 wr))
    case atStart => exact ⟨0, _, rfl, rfl, Nat.zero_le _, rfl, Lib.hid (by simpa [xEnc] using HO.out), HB⟩
    case round =>
      obtain ⟨j, sv, rfl, hk, hj, rfl, HOj, HBj⟩ := hrel
      have HKj := Lib.hid hk
      clear hk k3
      by_cases hlt : j < n
      · have hjT : j < T.length := by have := HTl.out; omega
        obtain ⟨b, o, r, rfl, hre, hbl, e0, e1⟩ := (HRY.out.later HBE.out).at_ HBj.out hlt
        have hm := getD_memS (T := T) hjT
        rw [getD_tY hjT] at hre
        obtain ⟨t, ht⟩ : ∃ t, t = T.getD j default := ⟨_, rfl⟩
        rw [← ht] at hre hm
        obtain ⟨p, g, G⟩ := t
        simp only [tY] at hre
        subst hre
        simp only at e0 e1
        have himg := HT.out _ hm
        simp only at himg
        have hpok := HOk.out.ims (p, G) (by rw [HX.out]; exact List.mem_map.2 ⟨_, hm, rfl⟩)
        have HTK : Hid (X.take (j + 1) = X.take j ++ [(p, G)]) := by
          refine Lib.hid ?_
          have hjX : j < X.length := by rw [HX.out]; simpa using hjT
          rw [List.take_succ_eq_append_getElem hjX]
          congr 2
          have e := getD_tX (T := T) hjT
          rw [← ht, ← HX.out] at e
          have : X.getD j default = X[j] := by simp [List.getD, hjX]
          rw [← this, e]
          rfl
        have HXl : Hid ((P0 ++ xEnc (X.take j)).length ≤ 320000) := by
          refine Lib.hid ?_
          have h1 := xEnc_len (X := X.take j) (last := last) (fun q hq => HOk.out.ims q (List.mem_of_mem_take hq)) hlast
          have h2 := HP0.out.2
          rw [List.length_append]
          rw [List.length_take] at h1
          omega
        have hp0 : p ≤ 10000 := by have := hpok.2.2; simp only at this; omega
        have hwp : IntKind.u64.wrap (p : Int) = (p : Int) := by rw [IntKind.wrap_u64]; omega
        have hvl := vEnc_len 1 p (by omega)
        have hgl := iEnc_len hpok.1
        simp only at hgl
        have HIM := Lib.hid himg
        clear himg hpok hm ht hbl
        obtain ⟨IG, hIG⟩ : ∃ IG, IG = iEnc G := ⟨_, rfl⟩
        rw [← hIG] at hgl
        have HIGe := Lib.hid hIG
        clear hIG
        go_wp2_with fail
        have hb2 : Below wr.heap.size wr ((wr.alloc (.cells #[.int .i64 (p : Int), .pointer (some ⟨g, 0, none⟩)] 98)).alloc (.cells #[.int .u64 (p : Int)] 104)) := (Below.alloc0 _ _).alloc (by simp) _
        have hu : RdU ((wr.alloc (.cells #[.int .i64 (p : Int), .pointer (some ⟨g, 0, none⟩)] 98)).alloc (.cells #[.int .u64 (p : Int)] 104)) (some ⟨wr.heap.size + 1, 0, none⟩) 1 [p] := by
          have h := rdU_one (w := wr.alloc (.cells #[.int .i64 (p : Int), .pointer (some ⟨g, 0, none⟩)] 98)) (ty := 104) (x := p) (by omega)
          rw [show (wr.alloc (.cells #[.int .i64 (p : Int), .pointer (some ⟨g, 0, none⟩)] 98)).heap.size = wr.heap.size + 1 by simp] at h
          exact h
        have hbox : ((wr.alloc (.cells #[.int .i64 (p : Int), .pointer (some ⟨g, 0, none⟩)] 98)).alloc (.cells #[.int .u64 (p : Int)] 104)).heap[wr.heap.size]? = some (.cells #[.int .i64 (p : Int), .pointer (some ⟨g, 0, none⟩)] 98 (0, 0)) := by
          rw [heap_alloc_old _ _ (by simp)]
          exact heap_alloc_new _ _
        refine (put_any none 0 0 [] _ 1 1 [p] _ ⟨rfl, by simp, by omega⟩ hu (by omega) (by omega)).mono ?_
        rintro e w3 ⟨v3, rfl, ho3, hb3⟩
        have e3 : [] ++ [p].flatMap vEnc = vEnc p := by simp
        rw [e3] at ho3
        obtain ⟨a3, c3, rfl, hr3, _⟩ := ho3.sl
        have HB3 : Hid (Below w1.heap.size w1 w3) := Lib.hid ((HBj.out.trans (hb2.mono HBj.out.size)).trans (hb3.mono (by have := HBj.out.size; simp; omega)))
        have hsx : w3.heap[wr.heap.size]? = some (.cells #[.int .i64 (p : Int), .pointer (some ⟨g, 0, none⟩)] 98 (0, 0)) := (hb3.block _ (by simp; omega)).trans hbox
        have hfar : ∀ k, sv.ownBlock = some k → k < wr.heap.size := fun k hk => (World.ownsRow.lt HOj.out.2 k hk).2
        have HO3 : Hid (Own w3 w1.heap.size sv (P0 ++ xEnc (X.take j))) := Lib.hid ((HOj.out.kept hb2).kept hb3)
        have HR3 := Lib.hid hr3
        have HSX := Lib.hid hsx
        obtain ⟨qx, hqx⟩ : ∃ qx, qx = wr.heap.size := ⟨_, rfl⟩
        rw [← hqx] at HSX ⊢
        have HFar : Hid (sv.ownBlock ≠ some qx ∧ wr.heap.size = qx) := Lib.hid ⟨fun e => by have := hfar qx e; omega, hqx.symm⟩
        obtain ⟨vl, hvl2⟩ : ∃ vl, vl = (vEnc p).length := ⟨_, rfl⟩
        rw [← hvl2] at HR3 hvl ⊢
        clear hb2 hu hbox ho3 hb3 hr3 hsx e3 e0 e1 hqx hvl2 hfar
        go_wp2_with (at_builtin; refine wpList_append_rdG rfl (.tmp 25) (.tmp 30) rfl _ rfl a3 vl c3 rfl w1.heap.size _ HO3.out HB3.out.size (vEnc p) HR3.out (by have := HXl.out; omega) ?_; intro v4 w4 ho4 hb4 hs4; have d1 : w4.cell? ⟨qx, 1, none⟩ = some (.pointer (some ⟨g, 0, none⟩)) := (by rw [cell_of_row w4 qx _ _ _ _ ((hs4 qx (lt_of_block HSX.out) HFar.out.1).trans HSX.out)]; rfl); have HO4 := Lib.hid ho4; have HB4 := Lib.hid (HB3.out.trans hb4); clear ho4 hb4 hs4)
        have HI4 : Hid (ImgV w4 V N g G) := Lib.hid ((HIM.out.save (Save.of_below HBE.out []) (by simp)).save (Save.of_below HB4.out []) (by simp))
        have himg := imgEnc_any w4 V N g G HI4.out
        rw [← HIGe.out] at himg
        refine himg.mono ?_
        rintro e w5 ⟨a5, c5, rfl, ho5, hr5, hb5⟩
        have HR5 := Lib.hid hr5
        have HB5 := Lib.hid (HB4.out.trans (hb5.mono HB4.out.size))
        have HO5 := Lib.hid (HO4.out.kept hb5)
        obtain ⟨il, hil⟩ : ∃ il, il = IG.length := ⟨_, rfl⟩
        rw [← hil] at HR5 hgl ⊢
        clear ho5 hr5 hb5 himg d1 hil
        go_wp2_with (at_builtin; refine wpList_append_rdG rfl (.tmp 32) (.tmp 35) rfl _ rfl a5 il c5 rfl w1.heap.size _ HO5.out HB5.out.size IG HR5.out (by have := HXl.out; have h2 := HR3.out.1; rw [List.length_append, h2]; omega) ?_; intro v6 w6 ho6 hb6 hs6)
        have HO6 : Hid (Own w6 w1.heap.size v6 (P0 ++ xEnc (X.take (j + 1)))) := by
          refine Lib.hid ?_
          rw [HTK.out, xEnc_append, xEnc_one, ← HIGe.out]
          simpa [List.append_assoc] using ho6
        have HB6 := Lib.hid (HB5.out.trans hb6)
        clear ho6 hb6 hs6
        go_wp2
        go_roundg (n - (j + 1))
        case measure => have := HKj.out; omega
        case rel => exact ⟨j + 1, v6, rfl, rfl, by omega, by go_num, HO6, HB6⟩
      · obtain rfl : j = n := by omega
        have HE : Hid (P0 ++ xEnc (X.take j) = sEnc F last X) := by
          refine Lib.hid ?_
          have hl : X.length = j := by rw [HX.out, List.length_map]; exact HTl.out
          rw [HP0.out.1, HB0.out, List.take_of_length_le (by omega)]
          unfold sEnc
          rw [hl]
          simp [List.append_assoc]
        go_wp2
        go_ret
        refine ⟨_, rfl, ?_, HBE.out.trans (HBj.out.mono HBE.out.size)⟩
        rw [← HE.out]
        exact HOj.out.mono HBE.out.size

end Go.Proofs.YtaijjogjohbheaaGreat
