/- check of the statements: a block's bytes, read as it; put on a tape, and got; over any world. -/
import Derived.Test.YtkfnjekeegebaaaSgTape9
import Derived.Test.YtkfnjekeegebaaaSgOf
import Derived.Test.YtkfnjekeegebaaaSgRefBytes
import Derived.Test.YtkfnjekeegebaaaOrders
import Derived.Test.YtkfnjekeegebaaaReadyC
import Derived.Deep.RegionHeld3
import Derived.Deep.DeepCutAuto
import Derived.Deep.CutBlock
namespace Go.Proofs.Ytkfnjekeegebaaa
open Go.RowKit
set_option linter.unusedSimpArgs false

theorem docV_some (x : Sg) : docV (some x) = blV x.kind x.nums (strB x.text) := rfl

theorem Sg.kind_lt (x : Sg) : x.kind < 256 := by
  rcases x with ⟨⟩ | ⟨⟩ | ⟨l⟩ <;> simp [Sg.kind]

theorem ok900 : Pw.ok ⟨true, none, 0⟩ := ⟨(fun k t h => by cases h), by simp⟩

set_option maxHeartbeats 8000000 in
set_option maxRecDepth 100000 in
theorem check_any (v : Value) (x : Sg) (w : World) (hv : SgV w v (some x)) (htb : ∀ z ∈ x.text, z < 256) (htl : x.text.length ≤ 1000) :
    Calls Try.prog 7 #[v] w fun e w' => e = .returned (.bool true) ∧ Below w.heap.size w w' := by
  have hof := fun (v' : Value) (W : World) (hW : SgV W v' (some x)) => sgOf_any v' (some x) W hW
  have hby := fun (W : World) (hW : Below w.heap.size w W) => sbytes_any v x W (hv.later hW)
  have hrt := fun W => rightBlk_any x.kind x.nums x.text W x.kind_lt (by omega)
  have hput := fun (W W' : World) (gt gp : Nat) (F : List Nat) (h : Liv W W' gt gp ⟨true, none, 0⟩ ⟨900, 0, [], [], [], 0⟩ F) (hW : Below w.heap.size w W') => sput_any W W' gt gp _ _ F h ok900 v x (hv.later hW)
  have hdb := fun (W : World) (ho : x.ok = true) => refBlB_any x W ho htb
  have hrd := fun (ho : x.ok = true) => rdSg_bytes ho
  have hbl : x.ok = true → 0 < x.bytes.length ∧ x.bytes.length ≤ 165 := fun ho => by
    have := Sg.plain_len ho
    have h2 := Sg.bytes_len x
    omega
  have heq := fun w => eq_blk x.kind x.nums (strB x.text) w
  rw [docOk_any] at hrt
  rw [docV_some] at hof hdb
  obtain ⟨B, hB⟩ : ∃ B, B = x.bytes := ⟨_, rfl⟩
  obtain ⟨O, hO⟩ : ∃ P, P = x.ok := ⟨_, rfl⟩
  obtain ⟨s, hs⟩ : ∃ s, s = strB x.text := ⟨_, rfl⟩
  obtain ⟨k, hk⟩ : ∃ k, k = x.kind := ⟨_, rfl⟩
  obtain ⟨N, hN⟩ : ∃ N, N = x.nums := ⟨_, rfl⟩
  rw [← hB] at hby hput hdb hrd hbl
  rw [← hO] at hby hrt hput hdb hrd hbl
  rw [← hs] at hof hrt hdb heq
  rw [← hk, ← hN] at hof hrt hdb heq
  obtain ⟨n0, n1, n2, n3, n4⟩ := N
  simp only [blV] at hof hrt hdb heq
  have HVW := Lib.hid hv
  have HOF := Lib.hid hof
  have HBY := Lib.hid hby
  have HRT := Lib.hid hrt
  have HPUT := Lib.hid hput
  have HDB := Lib.hid hdb
  have HRD := Lib.hid hrd
  have HBL := Lib.hid hbl
  have HEQ := Lib.hid heq
  clear hof hby hrt hput hdb hrd hbl heq hB hO hs hk hN hv htb htl
  go_enter Try.func7, Try.ntmps7
  go_wp2_with fail
  refine (HOF.out v w HVW.out).mono ?_
  rintro e w1 ⟨rfl, hb1⟩
  obtain ⟨w2, hw2⟩ : ∃ w2, w2 = w1.alloc (.cells #[.int .u8 (k : Int), .int .i64 n0, .int .i64 n1, .int .i64 n2, .int .i64 n3, .int .i64 n4, .string s] 40) := ⟨_, rfl⟩
  obtain ⟨q, hq⟩ : ∃ q, q = w1.heap.size := ⟨_, rfl⟩
  have HW2 : Hid (w1.alloc (.cells #[.int .u8 (k : Int), .int .i64 n0, .int .i64 n1, .int .i64 n2, .int .i64 n3, .int .i64 n4, .string s] 40) = w2 ∧ w1.heap.size = q) := Lib.hid ⟨hw2.symm, hq.symm⟩
  have hb12 : Below w1.heap.size w1 w2 := by rw [hw2]; exact Below.alloc0 _ _
  have HB2 : Hid (Below w.heap.size w w2) := Lib.hid (hb1.trans (hb12.mono hb1.size))
  have HQ2 : Hid (w2.heap[q]? = some (.cells #[.int .u8 (k : Int), .int .i64 n0, .int .i64 n1, .int .i64 n2, .int .i64 n3, .int .i64 n4, .string s] 40 (0, 0))) := Lib.hid (by rw [hw2, hq]; exact heap_alloc_new w1 _)
  have HK : Hid (∀ W, Below w2.heap.size w2 W → W.cell? ⟨q, 0, none⟩ = some (.int .u8 (k : Int)) ∧ W.cell? ⟨q, 1, none⟩ = some (.int .i64 n0) ∧ W.cell? ⟨q, 2, none⟩ = some (.int .i64 n1) ∧ W.cell? ⟨q, 3, none⟩ = some (.int .i64 n2) ∧ W.cell? ⟨q, 4, none⟩ = some (.int .i64 n3) ∧ W.cell? ⟨q, 5, none⟩ = some (.int .i64 n4) ∧ W.cell? ⟨q, 6, none⟩ = some (.string s)) := Lib.hid fun W hW => seven_cells ((hW.block q (lt_of_block HQ2.out)).trans HQ2.out)
  clear hw2 hq hb1 hb12
  go_upto_region 2 with fail
  change Code.wp _ _ _ _ (w1.alloc (.cells #[.int .u8 (k : Int), .int .i64 n0, .int .i64 n1, .int .i64 n2, .int .i64 n3, .int .i64 n4, .string s] 40))
  rw [HW2.out.1]
  try rw [HW2.out.2]
  go_wp2_with fail
  refine (HBY.out w2 HB2.out).mono ?_
  rintro e w3 ⟨hb3, hor⟩
  have HB3 := Lib.hid hb3
  have HOR := Lib.hid hor
  clear hb3 hor
  obtain ⟨w4, hw4⟩ : ∃ w4, w4 = w3.alloc (powObj ⟨true, none, 0⟩) := ⟨_, rfl⟩
  obtain ⟨gp, hgp⟩ : ∃ gp, gp = w3.heap.size := ⟨_, rfl⟩
  have HNEW : Hid (Calls Try.prog 14 #[] w3 fun e w' => e = .returned (.pointer (some ⟨gp, 0, none⟩)) ∧ w' = w4) := Lib.hid (by rw [hgp, hw4]; exact new_any w3)
  have hp4 : Pow w4 gp ⟨true, none, 0⟩ := by rw [hw4, hgp]; exact pow_laid w3 _
  have hb34 : Below w3.heap.size w3 w4 := by rw [hw4]; exact Below.alloc0 _ _
  have HT : Hid (Calls Try.prog 13 #[.agg #[.int .i64 900, .int .i64 0, .slice none 0 0, .slice none 0 0], .pointer (some ⟨gp, 0, none⟩)] w4 fun e w' => ∃ gt F, e = .returned (.tuple #[.pointer (some ⟨gt, 0, none⟩), .int .i64 0]) ∧ Hid (Liv w3 w' gt gp ⟨true, none, 0⟩ ⟨900, 0, [], [], [], 0⟩ F)) := by
    refine Lib.hid ((tnew_yes w4 900 0 gp none none 0 0 0 0 [] [] ⟨true, none, 0⟩ (by omega) (by omega) (by omega) (rdI_nil _) (rdI_nil _) (by omega) (by omega) hp4).mono ?_)
    rintro e w' ⟨gt, F, rfl, h2, h3, h4⟩
    exact ⟨gt, F, rfl, Lib.hid ⟨h2, fun k hk => Nat.le_trans hb34.size (h4 k hk), by rw [hgp]; exact Nat.le_refl _, hb34.trans (h3.mono hb34.size)⟩⟩
  have HGP : Hid (w3.heap.size ≤ gp) := Lib.hid (by omega)
  clear hw4 hgp hp4 hb34
  cases O with
  | false =>
    have he : e = .returned (.tuple #[.slice none 0 0, .int .i64 1]) := by
      rcases HOR.out with ⟨_, he⟩ | ⟨h, _⟩
      · exact he
      · cases h
    subst he
    clear HOR
    go_wp2_with fail
    refine HNEW.out.mono ?_
    rintro e w4' ⟨rfl, rfl⟩
    go_wp2_with fail
    refine HT.out.mono ?_
    rintro e w5 ⟨gt, F, rfl, HL5⟩
    have HB5 : Hid (Below w2.heap.size w2 w5) := Lib.hid (HB3.out.trans (HL5.out.bel.mono HB3.out.size))
    go_wp2_with fail
    refine (HPUT.out w3 w5 gt gp F HL5.out (HB2.out.trans (HB5.out.mono HB2.out.size))).mono ?_
    rintro e w6 hor6
    have he6 : e = .returned (.int .i64 1) ∧ Liv w3 w6 gt gp ⟨true, none, 0⟩ ⟨900, 0, [], [], [], 0⟩ F := by
      rcases hor6 with ⟨_, h⟩ | ⟨h, _⟩
      · exact h
      · cases h
    obtain ⟨rfl, hl6⟩ := he6
    have HL6 := Lib.hid hl6
    have HB6 : Hid (Below w2.heap.size w2 w6) := Lib.hid (HB3.out.trans (hl6.bel.mono HB3.out.size))
    clear hor6 hl6
    obtain ⟨z0, z1, z2, z3, z4, z5, z6⟩ := HK.out w6 HB6.out
    go_wp2_with fail
    refine (HRT.out w6).mono ?_
    rintro e w7 ⟨rfl, hb7⟩
    have HL7 := Lib.hid (HL6.out.later hb7)
    clear hb7 z0 z1 z2 z3 z4 z5 z6
    have HLN := Lib.hid (tlen_any w7 gt gp _ _ F HL7.out.tap)
    simp only [List.length_nil, Int.natCast_zero] at HLN
    go_wp2_with fail
    refine HLN.out.mono ?_
    rintro e w8 ⟨rfl, rfl⟩
    have HF : Hid (Below w.heap.size w w8) := Lib.hid (HB2.out.trans ((HB3.out.trans (HL7.out.bel.mono HB3.out.size)).mono HB2.out.size))
    go_wp2
    go_ret
    exact ⟨rfl, HF.out⟩
  | true =>
    obtain ⟨ab, cb, he, ho3⟩ : ∃ a c, e = .returned (.tuple #[.slice a B.length c, .int .i64 0]) ∧ Own w3 w2.heap.size (.slice a B.length c) B := by
      rcases HOR.out with ⟨h, _⟩ | ⟨_, h⟩
      · cases h
      · exact h
    subst he
    obtain ⟨hbl1, hbl2⟩ := HBL.out rfl
    obtain ⟨sp, hsp, hon⟩ := put_900 B hbl1 (by omega)
    have hsk := seek_900 sp B hon
    have hg1 := get_900 sp B hon hbl1
    have hg2 := get_901 sp B hon
    have HPS := Lib.hid (And.intro hsp (And.intro hsk (And.intro hg1 hg2)))
    obtain ⟨_, _, hvv, hr3, hc3⟩ := ho3.sl
    injection hvv with e1 _ e3
    subst e1 e3
    have HR3 := Lib.hid hr3
    have HRS := Lib.hid (HRD.out rfl)
    obtain ⟨nl, hnl⟩ : ∃ nl, nl = B.length := ⟨_, rfl⟩
    have HNL := Lib.hid hnl
    have HC3 : Hid (nl ≤ cb ∧ nl ≤ 1000000 ∧ B.length ≤ 1000000) := Lib.hid ⟨by omega, by omega, by omega⟩
    rw [← hnl] at HR3 ⊢
    clear HOR ho3 hbl1 hbl2 hsp hsk hg1 hg2 hr3 hc3 hnl hon
    go_wp2_with fail
    refine HNEW.out.mono ?_
    rintro e w4' ⟨rfl, rfl⟩
    go_wp2_with fail
    refine HT.out.mono ?_
    rintro e w5 ⟨gt, F, rfl, HL5⟩
    have HB5 : Hid (Below w2.heap.size w2 w5) := Lib.hid (HB3.out.trans (HL5.out.bel.mono HB3.out.size))
    go_wp2_with fail
    refine (HPUT.out w3 w5 gt gp F HL5.out (HB2.out.trans (HB5.out.mono HB2.out.size))).mono ?_
    rintro e w6 hor6
    have he6 : e = .returned (.int .i64 0) ∧ ∃ F', Liv w3 w6 gt gp sp ⟨900, 0, [], [], [B], 1⟩ F' := by
      rcases hor6 with ⟨h, _⟩ | ⟨_, h1, h2⟩
      · cases h
      · rw [HPS.out.1] at h1 h2
        exact ⟨h1, h2⟩
    obtain ⟨rfl, F6, hl6⟩ := he6
    have HL6 := Lib.hid hl6
    have HB6 : Hid (Below w2.heap.size w2 w6) := Lib.hid (HB3.out.trans (hl6.bel.mono HB3.out.size))
    clear hor6 hl6
    obtain ⟨z0, z1, z2, z3, z4, z5, z6⟩ := HK.out w6 HB6.out
    go_wp2_with fail
    refine (HRT.out w6).mono ?_
    rintro e w7 ⟨rfl, hb7⟩
    have HL7 := Lib.hid (HL6.out.later hb7)
    clear hb7 z0 z1 z2 z3 z4 z5 z6
    have hre := sread_any ab nl cb B w7 (HR3.out.later HL7.out.bel) HC3.out.2.1 HC3.out.1
    rw [HRS.out] at hre
    have HRE := Lib.hid hre
    clear hre
    go_wp2_with fail
    refine HRE.out.mono ?_
    rintro e w8 ⟨hb8, vz, rfl, hvz, hlz⟩
    have HL8 := Lib.hid (HL7.out.later hb8)
    have hfl : ∀ k ∈ gp :: F6, k < w7.heap.size := by
      have h := Tap.fl HL7.out.tap
      intro k hk
      simp only [List.mem_cons] at hk
      rcases hk with rfl | hk
      · exact h.2
      · exact h.1 k hk
    have HFL := Lib.hid hfl
    have HVZ8 := Lib.hid (And.intro hvz hlz)
    have HB78 := Lib.hid hb8
    clear hb8 hvz hlz hfl
    have hse := seek_any w8 gt gp _ _ F6 HL8.out.tap 0
    rw [HPS.out.2.1] at hse
    have HSE := Lib.hid hse
    clear hse
    go_wp2_with fail
    refine HSE.out.mono ?_
    rintro e w9 ⟨rfl, hT9, hs9⟩
    have hs9' : Save (gp :: F6) w8 w9 := hs9.mono (by simp +contextual)
    have HL9 : Hid (Liv w3 w9 gt gp sp ⟨900, 0, [], [], [B], 0⟩ F6) := Lib.hid (HL8.out.next hT9 hs9' (fun k hk => .inl hk))
    have HVZ9 : Hid (SgV w9 vz (some x) ∧ SgLo w7.heap.size vz) := Lib.hid ⟨HVZ8.out.1.save HVZ8.out.2 hs9' HFL.out, HVZ8.out.2⟩
    have HZ9 : Hid (w7.heap.size ≤ w9.heap.size) := Lib.hid (Nat.le_trans HB78.out.size hs9.size)
    clear hT9 hs9 hs9'
    have hge := sget_any w3 w9 gt gp _ _ F6 HL9.out (by simp) (by rw [HPS.out.2.2.1]; exact HC3.out.2.2)
    rw [HPS.out.2.2.1] at hge
    simp only at hge
    rw [HRS.out] at hge
    have HGE := Lib.hid hge
    clear hge
    go_wp2_with fail
    refine HGE.out.mono ?_
    rintro e w10 ⟨hl10, hs10, hor10⟩
    obtain ⟨vw, rfl, hvw, hlw⟩ : ∃ v, e = .returned (.tuple #[v, .int .i64 0]) ∧ SgV w10 v (some x) ∧ SgLo w9.heap.size v := by
      rcases hor10 with ⟨h, _⟩ | ⟨_, h⟩
      · exact absurd rfl h
      · exact h
    have HL10 := Lib.hid hl10
    have HVZ10 : Hid (SgV w10 vz (some x) ∧ SgLo w7.heap.size vz) := Lib.hid ⟨HVZ9.out.1.save HVZ9.out.2 hs10 HFL.out, HVZ9.out.2⟩
    have HVW10 : Hid (SgV w10 vw (some x) ∧ SgLo w9.heap.size vw) := Lib.hid ⟨hvw, hlw⟩
    clear hl10 hs10 hor10 hvw hlw
    have hge := sget_any w3 w10 gt gp _ _ F6 HL10.out (by simp) (by rw [HPS.out.2.2.2]; simp)
    rw [HPS.out.2.2.2] at hge
    simp only at hge
    have HGE := Lib.hid hge
    clear hge
    go_wp2_with fail
    refine HGE.out.mono ?_
    rintro e w11 ⟨hl11, hs11, hor11⟩
    obtain rfl : e = .returned (.tuple #[.nilIface, .int .i64 6]) := by
      rcases hor11 with ⟨_, h⟩ | ⟨h, _⟩
      · exact h
      · simp at h
    have HVZ11 : Hid (SgV w11 vz (some x)) := Lib.hid (HVZ10.out.1.save HVZ10.out.2 hs11 HFL.out)
    have HVW11 : Hid (SgV w11 vw (some x)) := Lib.hid (HVW10.out.1.save HVW10.out.2 hs11 (fun k hk => Nat.lt_of_lt_of_le (HFL.out k hk) HZ9.out))
    have HR11 : Hid (Rd w11 ab nl B) := Lib.hid (HR3.out.later hl11.bel)
    have HB11 : Hid (Below w2.heap.size w2 w11) := Lib.hid (HB3.out.trans (hl11.bel.mono HB3.out.size))
    clear hl11 hs11 hor11
    go_upto_region 11 with fail
    have HKW : Hid (∀ W, Below w11.heap.size w11 W → W.cell? ⟨q, 0, none⟩ = some (.int .u8 (k : Int)) ∧ W.cell? ⟨q, 1, none⟩ = some (.int .i64 n0) ∧ W.cell? ⟨q, 2, none⟩ = some (.int .i64 n1) ∧ W.cell? ⟨q, 3, none⟩ = some (.int .i64 n2) ∧ W.cell? ⟨q, 4, none⟩ = some (.int .i64 n3) ∧ W.cell? ⟨q, 5, none⟩ = some (.int .i64 n4) ∧ W.cell? ⟨q, 6, none⟩ = some (.string s)) := Lib.hid fun W hW => HK.out W (HB11.out.trans (hW.mono HB11.out.size))
    obtain ⟨sl, hsl⟩ : ∃ sl, sl = strB B := ⟨_, rfl⟩
    have HSL := Lib.hid hsl
    have HCV : Hid (∀ W, Below w11.heap.size w11 W → (convert 26 9 (.slice ab nl cb)).run Try.prog W = .ok (.string sl) W) := Lib.hid fun W hW => by rw [HSL.out]; exact conv_rd (HR11.out.later hW) cb
    have HDB2 : Hid (∀ W, Calls Try.prog 20 #[.agg #[.int .u8 (k : Int), .int .i64 n0, .int .i64 n1, .int .i64 n2, .int .i64 n3, .int .i64 n4, .string s]] W fun e w' => ∃ a c, e = .returned (.slice a nl c) ∧ Hid (Rd w' a nl B ∧ Below W.heap.size W w')) := by
      refine Lib.hid fun W => (HDB.out W (by first | rfl | trivial)).mono ?_
      rintro e w' ⟨v, rfl, ho, hb⟩
      obtain ⟨a, c, rfl, hr, _⟩ := ho.sl
      rw [← HNL.out] at hr ⊢
      exact ⟨a, c, rfl, Lib.hid ⟨hr, hb⟩⟩
    clear hsl
    have H : Hid (Below w11.heap.size w11 w11.drew) := Lib.hid (Below.refl _ _).drew
    refine wp_region_held_drew (S := fun W => Below w11.heap.size w11 W) (by kernel_rfl) H.out (fun _ => ?_)
    obtain ⟨w12, hw12⟩ : ∃ w12, w12 = w11.drew := ⟨_, rfl⟩
    rw [← hw12] at H ⊢
    clear hw12
    refine wpAnyH_take (i := 0) (v := ?vr0) rfl (by kernel_rfl) (by kernel_rfl) (by kernel_rfl) (fun _ _ _ h => h) (Or.inl ⟨by rfl, ?hr0⟩) H.out ?rr0
    case hr0 => (intro W hW; clear hW; go_simp; try with_reducible rfl)
    simp only [Act.put, List.getElem_toArray, List.getElem_cons_succ, List.getElem_cons_zero, List.setIfInBounds_toArray, List.set_cons_zero, List.set_cons_succ]
    refine wpAnyH_take (i := 1) (v := ?vr1) rfl (by kernel_rfl) (by kernel_rfl) (by kernel_rfl) (fun _ _ _ h => h) (Or.inl ⟨by rfl, ?hr1⟩) H.out ?rr1
    case hr1 => (intro W hW; clear hW; go_simp; try with_reducible rfl)
    simp only [Act.put, List.getElem_toArray, List.getElem_cons_succ, List.getElem_cons_zero, List.setIfInBounds_toArray, List.set_cons_zero, List.set_cons_succ]
    refine wpAnyH_take (i := 2) (v := ?vr2) rfl (by kernel_rfl) (by kernel_rfl) (by kernel_rfl) (fun _ _ _ h => h) (Or.inl ⟨by rfl, ?hr2⟩) H.out ?rr2
    case hr2 => (intro W hW; clear hW; go_simp; try with_reducible rfl)
    simp only [Act.put, List.getElem_toArray, List.getElem_cons_succ, List.getElem_cons_zero, List.setIfInBounds_toArray, List.set_cons_zero, List.set_cons_succ]
    refine wpAnyH_take (i := 3) (v := ?vr3) rfl (by kernel_rfl) (by kernel_rfl) (by kernel_rfl) (fun _ _ _ h => h) (Or.inl ⟨by rfl, ?hr3⟩) H.out ?rr3
    case hr3 => (intro W hW; clear hW; go_simp; try with_reducible rfl)
    simp only [Act.put, List.getElem_toArray, List.getElem_cons_succ, List.getElem_cons_zero, List.setIfInBounds_toArray, List.set_cons_zero, List.set_cons_succ]
    refine wpAnyH_take (i := 4) (v := ?vr4) rfl (by kernel_rfl) (by kernel_rfl) (by kernel_rfl) (fun _ _ _ h => h) (Or.inl ⟨by rfl, ?hr4⟩) H.out ?rr4
    case hr4 => (intro W hW; have hcv := HCV.out W hW; clear hW; go_simp; try with_reducible rfl)
    simp only [Act.put, List.getElem_toArray, List.getElem_cons_succ, List.getElem_cons_zero, List.setIfInBounds_toArray, List.set_cons_zero, List.set_cons_succ]
    refine wpAnyH_take (i := 5) (v := ?vr5) rfl (by kernel_rfl) (by kernel_rfl) (by kernel_rfl) (fun _ _ _ h => h) (Or.inl ⟨by rfl, ?hr5⟩) H.out ?rr5
    case hr5 => (intro W hW; obtain ⟨z0, z1, z2, z3, z4, z5, z6⟩ := HKW.out W hW; clear hW; go_simp; try with_reducible rfl)
    simp only [Act.put, List.getElem_toArray, List.getElem_cons_succ, List.getElem_cons_zero, List.setIfInBounds_toArray, List.set_cons_zero, List.set_cons_succ]
    refine wpAnyH_ready (rs := [6]) (by kernel_rfl) (by simp) ?_
    refine AllReadyH.cons rfl (fun K hK => ?_) AllReadyH.nil
    refine ready_call (f := 20) (vs := #[.agg #[.int .u8 (k : Int), .int .i64 n0, .int .i64 n1, .int .i64 n2, .int .i64 n3, .int .i64 n4, .string s]]) (by rfl) (by (go_simp; try with_reducible rfl)) ?_
    refine (HDB2.out _).mono ?_
    rintro e w13 ⟨aZ, cZ, rfl, HZ⟩
    have H13 : Hid (Below w11.heap.size w11 w13) := Lib.hid (H.out.trans (HZ.out.2.mono H.out.size))
    refine ⟨_, rfl, hK.out _ _ H13.out (fun _ => ?_)⟩
    clear hK K
    simp only [Act.put, List.getElem_toArray, List.getElem_cons_succ, List.getElem_cons_zero, List.setIfInBounds_toArray, List.set_cons_zero, List.set_cons_succ]
    have HCZ : Hid (∀ W, Below w13.heap.size w13 W → (convert 26 9 (.slice aZ nl cZ)).run Try.prog W = .ok (.string sl) W) := Lib.hid fun W hW => by rw [HSL.out]; exact conv_rd (HZ.out.1.later hW) cZ
    refine wpAnyH_strong (S1 := fun W => Below w13.heap.size w13 W) (fun W hW => H13.out.trans (hW.mono H13.out.size)) ?_
    have hll : (sl.toList == sl.toList) = true := by simp
    refine wpAnyH_take (i := 7) (v := ?vr7) rfl (by kernel_rfl) (by kernel_rfl) (by kernel_rfl) (fun _ _ _ h => h) (Or.inl ⟨by rfl, ?hr7⟩) (Below.refl _ _) ?rr7
    case hr7 => (intro W hW; have hcv := HCZ.out W hW; clear hW; go_simp; try with_reducible rfl)
    simp only [Act.put, List.getElem_toArray, List.getElem_cons_succ, List.getElem_cons_zero, List.setIfInBounds_toArray, List.set_cons_zero, List.set_cons_succ]
    refine wpAnyH_take (i := 8) (v := ?vr8) rfl (by kernel_rfl) (by kernel_rfl) (by kernel_rfl) (fun _ _ _ h => h) (Or.inl ⟨by rfl, ?hr8⟩) (Below.refl _ _) ?rr8
    case hr8 => (intro W hW; clear hW; go_simp; try with_reducible rfl)
    simp only [Act.put, List.getElem_toArray, List.getElem_cons_succ, List.getElem_cons_zero, List.setIfInBounds_toArray, List.set_cons_zero, List.set_cons_succ]
    refine wpAnyH_take (i := 9) (v := ?vr9) rfl (by kernel_rfl) (by kernel_rfl) (by kernel_rfl) (fun _ _ _ h => h) (Or.inl ⟨by rfl, ?hr9⟩) (Below.refl _ _) ?rr9
    case hr9 => (intro W hW; clear hW; go_simp; try with_reducible rfl)
    simp only [Act.put, List.getElem_toArray, List.getElem_cons_succ, List.getElem_cons_zero, List.setIfInBounds_toArray, List.set_cons_zero, List.set_cons_succ]
    refine wpAnyH_take (i := 10) (v := ?vr10) rfl (by kernel_rfl) (by kernel_rfl) (by kernel_rfl) (fun _ _ _ h => h) (Or.inl ⟨by rfl, ?hr10⟩) (Below.refl _ _) ?rr10
    case hr10 => (intro W hW; clear hW; go_simp; try with_reducible rfl)
    simp only [Act.put, List.getElem_toArray, List.getElem_cons_succ, List.getElem_cons_zero, List.setIfInBounds_toArray, List.set_cons_zero, List.set_cons_succ]
    refine wpAnyH_take (i := 11) (v := ?vr11) rfl (by kernel_rfl) (by kernel_rfl) (by kernel_rfl) (fun _ _ _ h => h) (Or.inl ⟨by rfl, ?hr11⟩) (Below.refl _ _) ?rr11
    case hr11 => (intro W hW; clear hW; go_simp; try with_reducible rfl)
    simp only [Act.put, List.getElem_toArray, List.getElem_cons_succ, List.getElem_cons_zero, List.setIfInBounds_toArray, List.set_cons_zero, List.set_cons_succ]
    refine wpAnyH_take (i := 12) (v := ?vr12) rfl (by kernel_rfl) (by kernel_rfl) (by kernel_rfl) (fun _ _ _ h => h) (Or.inl ⟨by rfl, ?hr12⟩) (Below.refl _ _) ?rr12
    case hr12 => (intro W hW; clear hW; go_simp; try with_reducible rfl)
    simp only [Act.put, List.getElem_toArray, List.getElem_cons_succ, List.getElem_cons_zero, List.setIfInBounds_toArray, List.set_cons_zero, List.set_cons_succ]
    refine wpAnyH_take (i := 13) (v := ?vr13) rfl (by kernel_rfl) (by kernel_rfl) (by kernel_rfl) (fun _ _ _ h => h) (Or.inl ⟨by rfl, ?hr13⟩) (Below.refl _ _) ?rr13
    case hr13 => (intro W hW; clear hW; go_simp; try with_reducible rfl)
    simp only [Act.put, List.getElem_toArray, List.getElem_cons_succ, List.getElem_cons_zero, List.setIfInBounds_toArray, List.set_cons_zero, List.set_cons_succ]
    refine wpAnyH_take (i := 14) (v := ?vr14) rfl (by kernel_rfl) (by kernel_rfl) (by kernel_rfl) (fun _ _ _ h => h) (Or.inl ⟨by rfl, ?hr14⟩) (Below.refl _ _) ?rr14
    case hr14 => (intro W hW; clear hW; go_simp; try with_reducible rfl)
    simp only [Act.put, List.getElem_toArray, List.getElem_cons_succ, List.getElem_cons_zero, List.setIfInBounds_toArray, List.set_cons_zero, List.set_cons_succ]
    refine wpAnyH_take (i := 15) (v := ?vr15) rfl (by kernel_rfl) (by kernel_rfl) (by kernel_rfl) (fun _ _ _ h => h) (Or.inl ⟨by rfl, ?hr15⟩) (Below.refl _ _) ?rr15
    case hr15 => (intro W hW; clear hW; go_simp; try with_reducible rfl)
    simp only [Act.put, List.getElem_toArray, List.getElem_cons_succ, List.getElem_cons_zero, List.setIfInBounds_toArray, List.set_cons_zero, List.set_cons_succ]
    refine wpAnyH_take (i := 16) (v := ?vr16) rfl (by kernel_rfl) (by kernel_rfl) (by kernel_rfl) (fun _ _ _ h => h) (Or.inl ⟨by rfl, ?hr16⟩) (Below.refl _ _) ?rr16
    case hr16 => (intro W hW; clear hW; go_simp; try with_reducible rfl)
    simp only [Act.put, List.getElem_toArray, List.getElem_cons_succ, List.getElem_cons_zero, List.setIfInBounds_toArray, List.set_cons_zero, List.set_cons_succ]
    refine wpAnyH_take (i := 17) (v := ?vr17) rfl (by kernel_rfl) (by kernel_rfl) (by kernel_rfl) (fun _ _ _ h => h) (Or.inl ⟨by rfl, ?hr17⟩) (Below.refl _ _) ?rr17
    case hr17 => (intro W hW; clear hW; go_simp; try with_reducible rfl)
    simp only [Act.put, List.getElem_toArray, List.getElem_cons_succ, List.getElem_cons_zero, List.setIfInBounds_toArray, List.set_cons_zero, List.set_cons_succ]
    refine wpAnyH_take (i := 18) (v := ?vr18) rfl (by kernel_rfl) (by kernel_rfl) (by kernel_rfl) (fun _ _ _ h => h) (Or.inl ⟨by rfl, ?hr18⟩) (Below.refl _ _) ?rr18
    case hr18 => (intro W hW; clear hW; go_simp; try with_reducible rfl)
    simp only [Act.put, List.getElem_toArray, List.getElem_cons_succ, List.getElem_cons_zero, List.setIfInBounds_toArray, List.set_cons_zero, List.set_cons_succ]
    refine wpAnyH_take (i := 19) (v := ?vr19) rfl (by kernel_rfl) (by kernel_rfl) (by kernel_rfl) (fun _ _ _ h => h) (Or.inl ⟨by rfl, ?hr19⟩) (Below.refl _ _) ?rr19
    case hr19 => (intro W hW; clear hW; go_simp; try with_reducible rfl)
    simp only [Act.put, List.getElem_toArray, List.getElem_cons_succ, List.getElem_cons_zero, List.setIfInBounds_toArray, List.set_cons_zero, List.set_cons_succ]
    refine wpAnyH_take (i := 21) (v := ?vr21) rfl (by kernel_rfl) (by kernel_rfl) (by kernel_rfl) (fun _ _ _ h => h) (Or.inl ⟨by rfl, ?hr21⟩) (Below.refl _ _) ?rr21
    case hr21 => (intro W hW; obtain ⟨z0, z1, z2, z3, z4, z5, z6⟩ := HKW.out W (H13.out.trans (hW.mono H13.out.size)); clear hW; go_simp; try with_reducible rfl)
    simp only [Act.put, List.getElem_toArray, List.getElem_cons_succ, List.getElem_cons_zero, List.setIfInBounds_toArray, List.set_cons_zero, List.set_cons_succ]
    have H13r : Hid (Below w13.heap.size w13 w13) := Lib.hid (Below.refl _ _)
    refine wpAnyH_ready (rs := [20]) (by kernel_rfl) (by simp) ?_
    refine AllReadyH.cons rfl (fun K hK => ?_) AllReadyH.nil
    refine ready_call (f := 10) (vs := #[vz]) (by rfl) (by (go_simp; try with_reducible rfl)) ?_
    refine (HOF.out vz _ (HVZ11.out.later (H13.out.trans (H13r.out.mono H13.out.size)))).mono ?_
    rintro e w14 ⟨rfl, hbw14⟩
    have H14 : Hid (Below w13.heap.size w13 w14) := Lib.hid (H13r.out.trans (hbw14.mono H13r.out.size))
    clear hbw14
    refine ⟨_, rfl, hK.out _ _ H14.out (fun _ => ?_)⟩
    clear hK K
    simp only [Act.put, List.getElem_toArray, List.getElem_cons_succ, List.getElem_cons_zero, List.setIfInBounds_toArray, List.set_cons_zero, List.set_cons_succ]
    refine wpAnyH_take (i := 22) (v := ?vr22) rfl (by kernel_rfl) (by kernel_rfl) (by kernel_rfl) (fun _ _ _ h => h) (Or.inl ⟨by rfl, ?hr22⟩) H14.out ?rr22
    case hr22 => (intro W hW; have heq := HEQ.out; clear hW; go_simp; try with_reducible rfl)
    simp only [Act.put, List.getElem_toArray, List.getElem_cons_succ, List.getElem_cons_zero, List.setIfInBounds_toArray, List.set_cons_zero, List.set_cons_succ]
    refine wpAnyH_take (i := 23) (v := ?vr23) rfl (by kernel_rfl) (by kernel_rfl) (by kernel_rfl) (fun _ _ _ h => h) (Or.inl ⟨by rfl, ?hr23⟩) H14.out ?rr23
    case hr23 => (intro W hW; clear hW; go_simp; try with_reducible rfl)
    simp only [Act.put, List.getElem_toArray, List.getElem_cons_succ, List.getElem_cons_zero, List.setIfInBounds_toArray, List.set_cons_zero, List.set_cons_succ]
    refine wpAnyH_take (i := 24) (v := ?vr24) rfl (by kernel_rfl) (by kernel_rfl) (by kernel_rfl) (fun _ _ _ h => h) (Or.inl ⟨by rfl, ?hr24⟩) H14.out ?rr24
    case hr24 => (intro W hW; clear hW; go_simp; try with_reducible rfl)
    simp only [Act.put, List.getElem_toArray, List.getElem_cons_succ, List.getElem_cons_zero, List.setIfInBounds_toArray, List.set_cons_zero, List.set_cons_succ]
    refine wpAnyH_take (i := 25) (v := ?vr25) rfl (by kernel_rfl) (by kernel_rfl) (by kernel_rfl) (fun _ _ _ h => h) (Or.inl ⟨by rfl, ?hr25⟩) H14.out ?rr25
    case hr25 => (intro W hW; clear hW; go_simp; try with_reducible rfl)
    simp only [Act.put, List.getElem_toArray, List.getElem_cons_succ, List.getElem_cons_zero, List.setIfInBounds_toArray, List.set_cons_zero, List.set_cons_succ]
    refine wpAnyH_take (i := 26) (v := ?vr26) rfl (by kernel_rfl) (by kernel_rfl) (by kernel_rfl) (fun _ _ _ h => h) (Or.inl ⟨by rfl, ?hr26⟩) H14.out ?rr26
    case hr26 => (intro W hW; clear hW; go_simp; try with_reducible rfl)
    simp only [Act.put, List.getElem_toArray, List.getElem_cons_succ, List.getElem_cons_zero, List.setIfInBounds_toArray, List.set_cons_zero, List.set_cons_succ]
    refine wpAnyH_take (i := 27) (v := ?vr27) rfl (by kernel_rfl) (by kernel_rfl) (by kernel_rfl) (fun _ _ _ h => h) (Or.inl ⟨by rfl, ?hr27⟩) H14.out ?rr27
    case hr27 => (intro W hW; clear hW; go_simp; try with_reducible rfl)
    simp only [Act.put, List.getElem_toArray, List.getElem_cons_succ, List.getElem_cons_zero, List.setIfInBounds_toArray, List.set_cons_zero, List.set_cons_succ]
    refine wpAnyH_take (i := 28) (v := ?vr28) rfl (by kernel_rfl) (by kernel_rfl) (by kernel_rfl) (fun _ _ _ h => h) (Or.inl ⟨by rfl, ?hr28⟩) H14.out ?rr28
    case hr28 => (intro W hW; clear hW; go_simp; try with_reducible rfl)
    simp only [Act.put, List.getElem_toArray, List.getElem_cons_succ, List.getElem_cons_zero, List.setIfInBounds_toArray, List.set_cons_zero, List.set_cons_succ]
    refine wpAnyH_take (i := 29) (v := ?vr29) rfl (by kernel_rfl) (by kernel_rfl) (by kernel_rfl) (fun _ _ _ h => h) (Or.inl ⟨by rfl, ?hr29⟩) H14.out ?rr29
    case hr29 => (intro W hW; clear hW; go_simp; try with_reducible rfl)
    simp only [Act.put, List.getElem_toArray, List.getElem_cons_succ, List.getElem_cons_zero, List.setIfInBounds_toArray, List.set_cons_zero, List.set_cons_succ]
    refine wpAnyH_take (i := 31) (v := ?vr31) rfl (by kernel_rfl) (by kernel_rfl) (by kernel_rfl) (fun _ _ _ h => h) (Or.inl ⟨by rfl, ?hr31⟩) H14.out ?rr31
    case hr31 => (intro W hW; obtain ⟨z0, z1, z2, z3, z4, z5, z6⟩ := HKW.out W (H13.out.trans (hW.mono H13.out.size)); clear hW; go_simp; try with_reducible rfl)
    simp only [Act.put, List.getElem_toArray, List.getElem_cons_succ, List.getElem_cons_zero, List.setIfInBounds_toArray, List.set_cons_zero, List.set_cons_succ]
    refine wpAnyH_ready (rs := [30]) (by kernel_rfl) (by simp) ?_
    refine AllReadyH.cons rfl (fun K hK => ?_) AllReadyH.nil
    refine ready_call (f := 10) (vs := #[vw]) (by rfl) (by (go_simp; try with_reducible rfl)) ?_
    refine (HOF.out vw _ (HVW11.out.later (H13.out.trans (H14.out.mono H13.out.size)))).mono ?_
    rintro e w15 ⟨rfl, hbw15⟩
    have H15 : Hid (Below w13.heap.size w13 w15) := Lib.hid (H14.out.trans (hbw15.mono H14.out.size))
    clear hbw15
    refine ⟨_, rfl, hK.out _ _ H15.out (fun _ => ?_)⟩
    clear hK K
    simp only [Act.put, List.getElem_toArray, List.getElem_cons_succ, List.getElem_cons_zero, List.setIfInBounds_toArray, List.set_cons_zero, List.set_cons_succ]
    refine wpAnyH_take (i := 32) (v := ?vr32) rfl (by kernel_rfl) (by kernel_rfl) (by kernel_rfl) (fun _ _ _ h => h) (Or.inl ⟨by rfl, ?hr32⟩) H15.out ?rr32
    case hr32 => (intro W hW; have heq := HEQ.out; clear hW; go_simp; try with_reducible rfl)
    simp only [Act.put, List.getElem_toArray, List.getElem_cons_succ, List.getElem_cons_zero, List.setIfInBounds_toArray, List.set_cons_zero, List.set_cons_succ]
    refine wpAnyH_take (i := 33) (v := ?vr33) rfl (by kernel_rfl) (by kernel_rfl) (by kernel_rfl) (fun _ _ _ h => h) (Or.inl ⟨by rfl, ?hr33⟩) H15.out ?rr33
    case hr33 => (intro W hW; clear hW; go_simp; try with_reducible rfl)
    simp only [Act.put, List.getElem_toArray, List.getElem_cons_succ, List.getElem_cons_zero, List.setIfInBounds_toArray, List.set_cons_zero, List.set_cons_succ]
    refine wpAnyH_take (i := 34) (v := ?vr34) rfl (by kernel_rfl) (by kernel_rfl) (by kernel_rfl) (fun _ _ _ h => h) (Or.inl ⟨by rfl, ?hr34⟩) H15.out ?rr34
    case hr34 => (intro W hW; clear hW; go_simp; try with_reducible rfl)
    simp only [Act.put, List.getElem_toArray, List.getElem_cons_succ, List.getElem_cons_zero, List.setIfInBounds_toArray, List.set_cons_zero, List.set_cons_succ]
    refine wpAnyH_take (i := 35) (v := ?vr35) rfl (by kernel_rfl) (by kernel_rfl) (by kernel_rfl) (fun _ _ _ h => h) (Or.inl ⟨by rfl, ?hr35⟩) H15.out ?rr35
    case hr35 => (intro W hW; clear hW; go_simp; try with_reducible rfl)
    simp only [Act.put, List.getElem_toArray, List.getElem_cons_succ, List.getElem_cons_zero, List.setIfInBounds_toArray, List.set_cons_zero, List.set_cons_succ]
    refine wpAnyH_take (i := 36) (v := ?vr36) rfl (by kernel_rfl) (by kernel_rfl) (by kernel_rfl) (fun _ _ _ h => h) (Or.inl ⟨by rfl, ?hr36⟩) H15.out ?rr36
    case hr36 => (intro W hW; clear hW; go_simp; try with_reducible rfl)
    simp only [Act.put, List.getElem_toArray, List.getElem_cons_succ, List.getElem_cons_zero, List.setIfInBounds_toArray, List.set_cons_zero, List.set_cons_succ]
    refine wpAnyH_take (i := 37) (v := ?vr37) rfl (by kernel_rfl) (by kernel_rfl) (by kernel_rfl) (fun _ _ _ h => h) (Or.inl ⟨by rfl, ?hr37⟩) H15.out ?rr37
    case hr37 => (intro W hW; clear hW; go_simp; try with_reducible rfl)
    simp only [Act.put, List.getElem_toArray, List.getElem_cons_succ, List.getElem_cons_zero, List.setIfInBounds_toArray, List.set_cons_zero, List.set_cons_succ]
    refine wpAnyH_take (i := 38) (v := ?vr38) rfl (by kernel_rfl) (by kernel_rfl) (by kernel_rfl) (fun _ _ _ h => h) (Or.inl ⟨by rfl, ?hr38⟩) H15.out ?rr38
    case hr38 => (intro W hW; clear hW; go_simp; try with_reducible rfl)
    simp only [Act.put, List.getElem_toArray, List.getElem_cons_succ, List.getElem_cons_zero, List.setIfInBounds_toArray, List.set_cons_zero, List.set_cons_succ]
    refine wpAnyH_done (by kernel_rfl) ?_ _
    have HF : Hid (Below w.heap.size w w15) := Lib.hid (HB2.out.trans ((HB11.out.trans ((H13.out.trans (H15.out.mono H13.out.size)).mono HB11.out.size)).mono HB2.out.size))
    go_wp2
    go_ret
    exact ⟨rfl, HF.out⟩

end Go.Proofs.Ytkfnjekeegebaaa
