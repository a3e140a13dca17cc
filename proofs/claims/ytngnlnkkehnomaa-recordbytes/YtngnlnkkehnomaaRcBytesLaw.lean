/- RecordBytes, walked: over any world. -/
import Derived.Test.YtngnlnkkehnomaaRcBack
import Derived.Test.YtngnlnkkehnomaaRrBytes
import Derived.Test.YtngnlnkkehnomaaRrRight
import Derived.Test.YtngnlnkkehnomaaRcLives
import Derived.Test.YtngnlnkkehnomaaRcLaw
import Derived.Test.YtngnlnkkehnomaaOrders
namespace Go.Proofs.Ytngnlnkkehnomaa
open Go.RowKit
set_option linter.unusedSimpArgs false

set_option maxHeartbeats 8000000 in
set_option maxRecDepth 100000 in
theorem recordBytes_walk (x : Rec) (a : Option Addr) (n cap : Nat) (w : World) (h : Rd w a n x.l) (hfit : x.fits) :
    Calls Try.prog 3 #[rcV x a n cap] w fun e w' => e = .returned (.bool true) ∧ Below w.heap.size w w' := by
  have HLV : Hid (∀ W, Calls Try.prog 6 #[] W fun e w' => e = .returned (.bool true) ∧ Below W.heap.size W w') := Lib.hid lives_any
  have HX := Lib.hid h
  have HPL : Hid (∀ W, Below w.heap.size w W → Calls Try.prog 7 #[rcV x a n cap] W fun e w' => e = .returned (pcV x) ∧ Below W.heap.size W w') :=
    Lib.hid fun W hW => lawPlain_any x a n cap W (h.later hW)
  have HBY : Hid (∀ W, Below w.heap.size w W → Calls Try.prog 8 #[rcV x a n cap] W fun e w' => Below W.heap.size W w' ∧ ((x.ok = false ∧ e = .returned (.tuple #[.slice none 0 0, .int .i64 1])) ∨ (x.ok = true ∧ ∃ a' c', e = .returned (.tuple #[.slice a' x.bytes.length c', .int .i64 0]) ∧ Own w' W.heap.size (.slice a' x.bytes.length c') x.bytes))) :=
    Lib.hid fun W hW => rbytes_any x a n cap W (h.later hW)
  have HRI : Hid (∀ W, Calls Try.prog 9 #[pcV x] W fun e w' => e = .returned (.bool x.ok) ∧ Below W.heap.size W w') :=
    Lib.hid fun W => right_any x W hfit h.2.1
  have HRB : Hid (x.ok = true → ∀ W, Calls Try.prog 12 #[pcV x] W fun e w' => ∃ v, e = .returned v ∧ Hid (Own w' W.heap.size v x.bytes ∧ Below W.heap.size W w')) :=
    Lib.hid fun hx W => refBytes_any x W hx h.2.1
  have HRD : Hid (x.ok = true → rdRec 0 x.bytes = (x, 0)) := Lib.hid rdRec_bytes
  have HLB : Hid (x.ok = true → x.bytes.length ≤ 1000) := Lib.hid fun hx => by
    have h1 := Rec.plain_len hx
    have h2 := vEnc_len10 (n := (x.plain ++ sumB (cSum x.plain)).length) (by simp [sumB]; omega)
    unfold Rec.bytes tEnc
    rw [List.length_append]
    simp [sumB] at h2 ⊢
    omega
  have HSM : Hid (∀ W a2 n2 c2, Below w.heap.size w W → Rd W a2 n2 x.l → Calls Try.prog 13 #[rcV x a n cap, rcV x a2 n2 c2] W fun e w' => e = .returned (.bool true) ∧ Below W.heap.size W w') :=
    Lib.hid fun W a2 n2 c2 hW h2 => by
      have := same_any x x a a2 n cap n2 c2 W (h.later hW) h2
      rw [Rec.eq_self] at this
      exact this
  have HPL2 : Hid (∀ W a2 n2 c2, Rd W a2 n2 x.l → Calls Try.prog 7 #[rcV x a2 n2 c2] W fun e w' => e = .returned (pcV x) ∧ Below W.heap.size W w') :=
    Lib.hid fun W a2 n2 c2 h2 => lawPlain_any x a2 n2 c2 W h2
  obtain ⟨OK, hOK⟩ : ∃ OK, OK = x.ok := ⟨_, rfl⟩
  obtain ⟨YB, hYB⟩ : ∃ YB, YB = x.bytes := ⟨_, rfl⟩
  rw [← hOK] at HBY HRI HRB HRD HLB
  rw [← hYB] at HBY HRB HRD HLB
  clear hOK hYB h hfit
  obtain ⟨k, i, b, f, t, lb, cn, dn, ds⟩ := x
  simp only [rcV, pcV] at HPL HBY HRI HRB HSM HPL2 HX ⊢
  obtain ⟨q, hq⟩ : ∃ q, q = w.heap.size := ⟨_, rfl⟩
  obtain ⟨w0, hw0⟩ : ∃ w0, w0 = w.alloc (.cells #[.int .u8 (k : Int), .int .i64 i, .int .i64 b, .int .i64 f, .int .i64 t, .slice a n cap, .int .i64 cn, .int .u64 (dn : Int), .int .u64 (ds : Int)] 30) := ⟨_, rfl⟩
  have HW : Hid (w.alloc (.cells #[.int .u8 (k : Int), .int .i64 i, .int .i64 b, .int .i64 f, .int .i64 t, .slice a n cap, .int .i64 cn, .int .u64 (dn : Int), .int .u64 (ds : Int)] 30) = w0 ∧ w.heap.size = q) := Lib.hid ⟨hw0.symm, hq.symm⟩
  have HB0 : Hid (Below w.heap.size w w0) := Lib.hid (by rw [hw0]; exact Below.alloc0 _ _)
  have HQ0 : Hid (w0.heap[q]? = some (.cells #[.int .u8 (k : Int), .int .i64 i, .int .i64 b, .int .i64 f, .int .i64 t, .slice a n cap, .int .i64 cn, .int .u64 (dn : Int), .int .u64 (ds : Int)] 30 (0, 0))) := Lib.hid (by rw [hw0, hq]; exact heap_alloc_new w _)
  have HSZ : Hid (w0.heap.size = q + 1) := Lib.hid (by rw [hw0, hq]; simp)
  clear hq hw0
  have HQQ : Hid (∀ W, Below w0.heap.size w0 W → W.heap[q]? = some (.cells #[.int .u8 (k : Int), .int .i64 i, .int .i64 b, .int .i64 f, .int .i64 t, .slice a n cap, .int .i64 cn, .int .u64 (dn : Int), .int .u64 (ds : Int)] 30 (0, 0))) := Lib.hid fun W hW => (hW.block q (lt_of_block HQ0.out)).trans HQ0.out
  have HT : Hid (∀ W W', Below w0.heap.size w0 W → Below W.heap.size W W' → Below w0.heap.size w0 W') := Lib.hid fun W W' h1 h2 => h1.trans (h2.mono h1.size)
  have HC : Hid (∀ W, Below w0.heap.size w0 W → Below w.heap.size w W) := Lib.hid fun W hW => HB0.out.trans (hW.mono HB0.out.size)
  by_cases hn : n ≤ 500
  · have hd1 : decide (500 < (n : Int)) = false := by simp; omega
    clear hn
    go_enter Try.func3, Try.ntmps3
    go_upto_region 1 with fail
    change Code.wp _ _ _ _ (w.alloc (.cells #[.int .u8 (k : Int), .int .i64 i, .int .i64 b, .int .i64 f, .int .i64 t, .slice a n cap, .int .i64 cn, .int .u64 (dn : Int), .int .u64 (ds : Int)] 30))
    rw [HW.out.1]
    try rw [HW.out.2]
    go_wp2_with fail
    refine (HLV.out w0).mono ?_
    rintro e w1 ⟨rfl, hb1⟩
    have H1 := Lib.hid hb1
    clear hb1
    obtain ⟨c0, c1, c2, c3, c4, c5, c6, c7, c8⟩ := rec_cells (HQQ.out _ H1.out)
    go_wp2_with fail
    refine (HPL.out _ (HC.out _ H1.out)).mono ?_
    rintro e w2 ⟨rfl, hb2⟩
    have H2 := Lib.hid (HT.out _ _ H1.out hb2)
    clear hb2 c0 c1 c2 c3 c4 c5 c6 c7 c8
    obtain ⟨q3, hq3⟩ : ∃ q3, q3 = w2.heap.size := ⟨_, rfl⟩
    obtain ⟨w3, hw3⟩ : ∃ w3, w3 = w2.alloc (.cells #[.int .u8 (k : Int), .int .i64 i, .int .i64 b, .int .i64 f, .int .i64 t, .string (strB lb), .int .i64 cn, .int .u64 (dn : Int), .int .u64 (ds : Int)] 33) := ⟨_, rfl⟩
    have HW3 : Hid (w2.alloc (.cells #[.int .u8 (k : Int), .int .i64 i, .int .i64 b, .int .i64 f, .int .i64 t, .string (strB lb), .int .i64 cn, .int .u64 (dn : Int), .int .u64 (ds : Int)] 33) = w3 ∧ w2.heap.size = q3) := Lib.hid ⟨hw3.symm, hq3.symm⟩
    have H3 : Hid (Below w0.heap.size w0 w3) := Lib.hid (by rw [hw3]; exact HT.out _ _ H2.out (Below.alloc0 _ _))
    have HQ3 : Hid (w3.heap[q3]? = some (.cells #[.int .u8 (k : Int), .int .i64 i, .int .i64 b, .int .i64 f, .int .i64 t, .string (strB lb), .int .i64 cn, .int .u64 (dn : Int), .int .u64 (ds : Int)] 33 (0, 0))) := Lib.hid (by rw [hw3, hq3]; exact heap_alloc_new w2 _)
    clear hq3 hw3
    go_upto_region 4 with fail
    change Code.wp _ _ _ _ (w2.alloc (.cells #[.int .u8 (k : Int), .int .i64 i, .int .i64 b, .int .i64 f, .int .i64 t, .string (strB lb), .int .i64 cn, .int .u64 (dn : Int), .int .u64 (ds : Int)] 33))
    rw [HW3.out.1]
    try rw [HW3.out.2]
    obtain ⟨c0, c1, c2, c3, c4, c5, c6, c7, c8⟩ := rec_cells (HQQ.out _ H3.out)
    go_wp2_with fail
    refine (HBY.out _ (HC.out _ H3.out)).mono ?_
    rintro e w4 ⟨hb4, hor⟩
    have H34 : Hid (Below w3.heap.size w3 w4) := Lib.hid hb4
    have H4 := Lib.hid (HT.out _ _ H3.out hb4)
    have HQ34 : Hid (w4.heap[q3]? = some (.cells #[.int .u8 (k : Int), .int .i64 i, .int .i64 b, .int .i64 f, .int .i64 t, .string (strB lb), .int .i64 cn, .int .u64 (dn : Int), .int .u64 (ds : Int)] 33 (0, 0))) := Lib.hid ((hb4.block q3 (lt_of_block HQ3.out)).trans HQ3.out)
    clear hb4 c0 c1 c2 c3 c4 c5 c6 c7 c8
    obtain ⟨e0, e1, e2, e3, e4, e5, e6, e7, e8⟩ := rec_cells HQ34.out
    rcases hor with ⟨rfl, rfl⟩ | ⟨rfl, aY, cY, rfl, hoY⟩
    · go_wp2_with fail
      refine (HRI.out _).mono ?_
      rintro e w5 ⟨rfl, hb5⟩
      have H5 := Lib.hid (HT.out _ _ H4.out hb5)
      clear hb5
      go_wp2
      go_ret
      exact ⟨rfl, HC.out _ H5.out⟩
    · obtain ⟨aY', cY', hvY, hrY, hcY, hlY⟩ := hoY.lies
      injection hvY with hv1 hv2 hv3
      subst hv1 hv3
      have HRY := Lib.hid hrY
      have HLY := Lib.hid (HLB.out rfl)
      have HRD2 := Lib.hid (HRD.out rfl)
      have HRB2 := Lib.hid (HRB.out rfl)
      clear hoY hrY hcY hlY HRB HLB HRD HBY
      go_wp2_with fail
      refine (HRI.out _).mono ?_
      rintro e w5 ⟨rfl, hb5⟩
      have H5 := Lib.hid (HT.out _ _ H4.out hb5)
      have H45 := Lib.hid hb5
      have HRY5 := Lib.hid (HRY.out.later hb5)
      have HQ35 : Hid (w5.heap[q3]? = some (.cells #[.int .u8 (k : Int), .int .i64 i, .int .i64 b, .int .i64 f, .int .i64 t, .string (strB lb), .int .i64 cn, .int .u64 (dn : Int), .int .u64 (ds : Int)] 33 (0, 0))) := Lib.hid ((hb5.block q3 (lt_of_block HQ34.out)).trans HQ34.out)
      clear hb5 e0 e1 e2 e3 e4 e5 e6 e7 e8
      go_wp2_with fail
      refine (open_any aY YB.length cY YB w5 HRY5.out (by have := HLY.out; omega)).mono ?_
      rintro e w6 ⟨g6, rfl, hg6, hrd6, hb6⟩
      have H6 := Lib.hid (HT.out _ _ H5.out hb6)
      have H56 := Lib.hid hb6
      have hre := rread_any w6 g6 0 YB hrd6
      rw [HRD2.out] at hre
      simp only [rcV] at hre
      have HRE := Lib.hid hre
      have HG6 := Lib.hid hg6
      clear hg6 hrd6 hb6 hre
      go_wp2_with fail
      refine HRE.out.mono ?_
      rintro e w7 ⟨a2, n2, c2, rfl, HX7⟩
      have H57 : Hid (Below w5.heap.size w5 w7) := Lib.hid (H56.out.trans (HX7.out.1.below H56.out.size (by have := HG6.out; simp; omega)))
      obtain ⟨q8, hq8⟩ : ∃ q8, q8 = w7.heap.size := ⟨_, rfl⟩
      obtain ⟨w8, hw8⟩ : ∃ w8, w8 = w7.alloc (.cells #[.int .u8 (k : Int), .int .i64 i, .int .i64 b, .int .i64 f, .int .i64 t, .slice a2 n2 c2, .int .i64 cn, .int .u64 (dn : Int), .int .u64 (ds : Int)] 30) := ⟨_, rfl⟩
      have HW8 : Hid (w7.alloc (.cells #[.int .u8 (k : Int), .int .i64 i, .int .i64 b, .int .i64 f, .int .i64 t, .slice a2 n2 c2, .int .i64 cn, .int .u64 (dn : Int), .int .u64 (ds : Int)] 30) = w8 ∧ w7.heap.size = q8) := Lib.hid ⟨hw8.symm, hq8.symm⟩
      have hb78 : Below w7.heap.size w7 w8 := by rw [hw8]; exact Below.alloc0 _ _
      have H58 : Hid (Below w5.heap.size w5 w8) := Lib.hid (H57.out.trans (hb78.mono H57.out.size))
      have H8 := Lib.hid (HT.out _ _ H5.out H58.out)
      have HQ8 : Hid (w8.heap[q8]? = some (.cells #[.int .u8 (k : Int), .int .i64 i, .int .i64 b, .int .i64 f, .int .i64 t, .slice a2 n2 c2, .int .i64 cn, .int .u64 (dn : Int), .int .u64 (ds : Int)] 30 (0, 0))) := Lib.hid (by rw [hw8, hq8]; exact heap_alloc_new w7 _)
      have HQ38 : Hid (w8.heap[q3]? = some (.cells #[.int .u8 (k : Int), .int .i64 i, .int .i64 b, .int .i64 f, .int .i64 t, .string (strB lb), .int .i64 cn, .int .u64 (dn : Int), .int .u64 (ds : Int)] 33 (0, 0))) := Lib.hid ((H58.out.block q3 (lt_of_block HQ35.out)).trans HQ35.out)
      have HS8 : Hid (Rd w8 a2 n2 lb) := Lib.hid (HX7.out.2.2.1.later hb78)
      have HY8 : Hid (Rd w8 aY YB.length YB) := Lib.hid (HRY5.out.later H58.out)
      clear hq8 hw8 hb78 HRE HX7
      have HKX : Hid (∀ W, Below w8.heap.size w8 W → W.cell? ⟨q, 0, none⟩ = some (.int .u8 (k : Int)) ∧ W.cell? ⟨q, 1, none⟩ = some (.int .i64 i) ∧ W.cell? ⟨q, 2, none⟩ = some (.int .i64 b) ∧ W.cell? ⟨q, 3, none⟩ = some (.int .i64 f) ∧ W.cell? ⟨q, 4, none⟩ = some (.int .i64 t) ∧ W.cell? ⟨q, 5, none⟩ = some (.slice a n cap) ∧ W.cell? ⟨q, 6, none⟩ = some (.int .i64 cn) ∧ W.cell? ⟨q, 7, none⟩ = some (.int .u64 (dn : Int)) ∧ W.cell? ⟨q, 8, none⟩ = some (.int .u64 (ds : Int))) := Lib.hid fun W hW => rec_cells (HQQ.out W (HT.out _ _ H8.out hW))
      have HKS : Hid (∀ W, Below w8.heap.size w8 W → W.cell? ⟨q8, 0, none⟩ = some (.int .u8 (k : Int)) ∧ W.cell? ⟨q8, 1, none⟩ = some (.int .i64 i) ∧ W.cell? ⟨q8, 2, none⟩ = some (.int .i64 b) ∧ W.cell? ⟨q8, 3, none⟩ = some (.int .i64 f) ∧ W.cell? ⟨q8, 4, none⟩ = some (.int .i64 t) ∧ W.cell? ⟨q8, 5, none⟩ = some (.slice a2 n2 c2) ∧ W.cell? ⟨q8, 6, none⟩ = some (.int .i64 cn) ∧ W.cell? ⟨q8, 7, none⟩ = some (.int .u64 (dn : Int)) ∧ W.cell? ⟨q8, 8, none⟩ = some (.int .u64 (ds : Int))) := Lib.hid fun W hW => rec_cells ((hW.block q8 (lt_of_block HQ8.out)).trans HQ8.out)
      have HKY : Hid (∀ W, Below w8.heap.size w8 W → W.cell? ⟨q3, 0, none⟩ = some (.int .u8 (k : Int)) ∧ W.cell? ⟨q3, 1, none⟩ = some (.int .i64 i) ∧ W.cell? ⟨q3, 2, none⟩ = some (.int .i64 b) ∧ W.cell? ⟨q3, 3, none⟩ = some (.int .i64 f) ∧ W.cell? ⟨q3, 4, none⟩ = some (.int .i64 t) ∧ W.cell? ⟨q3, 5, none⟩ = some (.string (strB lb)) ∧ W.cell? ⟨q3, 6, none⟩ = some (.int .i64 cn) ∧ W.cell? ⟨q3, 7, none⟩ = some (.int .u64 (dn : Int)) ∧ W.cell? ⟨q3, 8, none⟩ = some (.int .u64 (ds : Int))) := Lib.hid fun W hW => rec_cells ((hW.block q3 (lt_of_block HQ38.out)).trans HQ38.out)
      have HT8 : Hid (∀ W W', Below w8.heap.size w8 W → Below W.heap.size W W' → Below w8.heap.size w8 W') := Lib.hid fun W W' h1 h2 => h1.trans (h2.mono h1.size)
      have HC8 : Hid (∀ W, Below w8.heap.size w8 W → Below w.heap.size w W) := Lib.hid fun W hW => HC.out _ (HT.out _ _ H8.out hW)
      go_upto_region 8 with fail
      change Code.wp _ _ _ _ (w7.alloc (.cells #[.int .u8 (k : Int), .int .i64 i, .int .i64 b, .int .i64 f, .int .i64 t, .slice a2 n2 c2, .int .i64 cn, .int .u64 (dn : Int), .int .u64 (ds : Int)] 30))
      rw [HW8.out.1]
      try rw [HW8.out.2]
      have H : Hid (Below w8.heap.size w8 w8.drew) := Lib.hid (Below.refl _ _).drew
      refine wp_region_held_drew (S := fun W => Below w8.heap.size w8 W) (by kernel_rfl) H.out (fun _ => ?_)
      obtain ⟨w9, hw9⟩ : ∃ w9, w9 = w8.drew := ⟨_, rfl⟩
      rw [← hw9] at H ⊢
      clear hw9
      refine wpAnyH_take (i := 0) (v := ?vy0) rfl (by kernel_rfl) (by kernel_rfl) (by kernel_rfl) (fun _ _ _ h => h) (Or.inl ⟨by rfl, ?hy0⟩) H.out ?ry0
      case hy0 => (intro W hW; clear hW; go_simp; try with_reducible rfl)
      simp only [Act.put, List.getElem_toArray, List.getElem_cons_succ, List.getElem_cons_zero, List.setIfInBounds_toArray, List.set_cons_zero, List.set_cons_succ]
      refine wpAnyH_take (i := 1) (v := ?vy1) rfl (by kernel_rfl) (by kernel_rfl) (by kernel_rfl) (fun _ _ _ h => h) (Or.inl ⟨by rfl, ?hy1⟩) H.out ?ry1
      case hy1 => (intro W hW; clear hW; go_simp; try with_reducible rfl)
      simp only [Act.put, List.getElem_toArray, List.getElem_cons_succ, List.getElem_cons_zero, List.setIfInBounds_toArray, List.set_cons_zero, List.set_cons_succ]
      refine wpAnyH_take (i := 2) (v := ?vy2) rfl (by kernel_rfl) (by kernel_rfl) (by kernel_rfl) (fun _ _ _ h => h) (Or.inl ⟨by rfl, ?hy2⟩) H.out ?ry2
      case hy2 => (intro W hW; clear hW; go_simp; try with_reducible rfl)
      simp only [Act.put, List.getElem_toArray, List.getElem_cons_succ, List.getElem_cons_zero, List.setIfInBounds_toArray, List.set_cons_zero, List.set_cons_succ]
      refine wpAnyH_take (i := 3) (v := ?vy3) rfl (by kernel_rfl) (by kernel_rfl) (by kernel_rfl) (fun _ _ _ h => h) (Or.inl ⟨by rfl, ?hy3⟩) H.out ?ry3
      case hy3 => (intro W hW; clear hW; go_simp; try with_reducible rfl)
      simp only [Act.put, List.getElem_toArray, List.getElem_cons_succ, List.getElem_cons_zero, List.setIfInBounds_toArray, List.set_cons_zero, List.set_cons_succ]
      refine wpAnyH_take (i := 4) (v := ?vy4) rfl (by kernel_rfl) (by kernel_rfl) (by kernel_rfl) (fun _ _ _ h => h) (Or.inl ⟨by rfl, ?hy4⟩) H.out ?ry4
      case hy4 => (intro W hW; have hcv := conv_rd (HY8.out.later hW) cY; clear hW; go_simp; try with_reducible rfl)
      simp only [Act.put, List.getElem_toArray, List.getElem_cons_succ, List.getElem_cons_zero, List.setIfInBounds_toArray, List.set_cons_zero, List.set_cons_succ]
      refine wpAnyH_take (i := 5) (v := ?vy5) rfl (by kernel_rfl) (by kernel_rfl) (by kernel_rfl) (fun _ _ _ h => h) (Or.inl ⟨by rfl, ?hy5⟩) H.out ?ry5
      case hy5 => (intro W hW; obtain ⟨c0, c1, c2, c3, c4, c5, c6, c7, c8⟩ := HKY.out W hW; clear hW; go_simp; try with_reducible rfl)
      simp only [Act.put, List.getElem_toArray, List.getElem_cons_succ, List.getElem_cons_zero, List.setIfInBounds_toArray, List.set_cons_zero, List.set_cons_succ]
      refine wpAnyH_ready (rs := [6]) (by kernel_rfl) (by simp) ?_
      refine AllReadyH.cons rfl (fun K hK => ?_) AllReadyH.nil
      refine ready_call (f := 12) (vs := #[.agg #[.int .u8 (k : Int), .int .i64 i, .int .i64 b, .int .i64 f, .int .i64 t, .string (strB lb), .int .i64 cn, .int .u64 (dn : Int), .int .u64 (ds : Int)]]) (by rfl) (by (go_simp; try with_reducible rfl)) ?_
      refine (HRB2.out _).mono ?_
      rintro e w10 ⟨vB, rfl, HOB⟩
      have H10 : Hid (Below w8.heap.size w8 w10) := Lib.hid (HT8.out _ _ H.out HOB.out.2)
      refine ⟨_, rfl, hK.out _ _ H10.out (fun _ => ?_)⟩
      clear hK K
      simp only [Act.put, List.getElem_toArray, List.getElem_cons_succ, List.getElem_cons_zero, List.setIfInBounds_toArray, List.set_cons_zero, List.set_cons_succ]
      obtain ⟨aB, cB', rfl, hrB, _⟩ := HOB.out.1.sl
      have HRB3 := Lib.hid hrB
      clear hrB
      refine wpAnyH_strong (S1 := fun W => Below w10.heap.size w10 W) (fun W hW => HT8.out _ _ H10.out hW) ?_
      refine wpAnyH_take (i := 7) (v := ?vy7) rfl (by kernel_rfl) (by kernel_rfl) (by kernel_rfl) (fun _ _ _ h => h) (Or.inl ⟨by rfl, ?hy7⟩) (Below.refl _ _) ?ry7
      case hy7 => (intro W hW; have hcv := conv_rd (HRB3.out.later hW) cB'; clear hW; go_simp; try with_reducible rfl)
      simp only [Act.put, List.getElem_toArray, List.getElem_cons_succ, List.getElem_cons_zero, List.setIfInBounds_toArray, List.set_cons_zero, List.set_cons_succ]
      refine wpAnyH_take (i := 8) (v := ?vy8) rfl (by kernel_rfl) (by kernel_rfl) (by kernel_rfl) (fun _ _ _ h => h) (Or.inl ⟨by rfl, ?hy8⟩) (Below.refl _ _) ?ry8
      case hy8 => (intro W hW; clear hW; go_simp; try with_reducible rfl)
      simp only [Act.put, List.getElem_toArray, List.getElem_cons_succ, List.getElem_cons_zero, List.setIfInBounds_toArray, List.set_cons_zero, List.set_cons_succ]
      refine wpAnyH_take (i := 9) (v := ?vy9) rfl (by kernel_rfl) (by kernel_rfl) (by kernel_rfl) (fun _ _ _ h => h) (Or.inl ⟨by rfl, ?hy9⟩) (Below.refl _ _) ?ry9
      case hy9 => (intro W hW; clear hW; go_simp; try with_reducible rfl)
      simp only [Act.put, List.getElem_toArray, List.getElem_cons_succ, List.getElem_cons_zero, List.setIfInBounds_toArray, List.set_cons_zero, List.set_cons_succ]
      refine wpAnyH_take (i := 10) (v := ?vy10) rfl (by kernel_rfl) (by kernel_rfl) (by kernel_rfl) (fun _ _ _ h => h) (Or.inl ⟨by rfl, ?hy10⟩) (Below.refl _ _) ?ry10
      case hy10 => (intro W hW; clear hW; go_simp; try with_reducible rfl)
      simp only [Act.put, List.getElem_toArray, List.getElem_cons_succ, List.getElem_cons_zero, List.setIfInBounds_toArray, List.set_cons_zero, List.set_cons_succ]
      refine wpAnyH_take (i := 11) (v := ?vy11) rfl (by kernel_rfl) (by kernel_rfl) (by kernel_rfl) (fun _ _ _ h => h) (Or.inl ⟨by rfl, ?hy11⟩) (Below.refl _ _) ?ry11
      case hy11 => (intro W hW; clear hW; go_simp; try with_reducible rfl)
      simp only [Act.put, List.getElem_toArray, List.getElem_cons_succ, List.getElem_cons_zero, List.setIfInBounds_toArray, List.set_cons_zero, List.set_cons_succ]
      refine wpAnyH_take (i := 12) (v := ?vy12) rfl (by kernel_rfl) (by kernel_rfl) (by kernel_rfl) (fun _ _ _ h => h) (Or.inl ⟨by rfl, ?hy12⟩) (Below.refl _ _) ?ry12
      case hy12 => (intro W hW; clear hW; go_simp; try with_reducible rfl)
      simp only [Act.put, List.getElem_toArray, List.getElem_cons_succ, List.getElem_cons_zero, List.setIfInBounds_toArray, List.set_cons_zero, List.set_cons_succ]
      refine wpAnyH_take (i := 13) (v := ?vy13) rfl (by kernel_rfl) (by kernel_rfl) (by kernel_rfl) (fun _ _ _ h => h) (Or.inl ⟨by rfl, ?hy13⟩) (Below.refl _ _) ?ry13
      case hy13 => (intro W hW; clear hW; go_simp; try with_reducible rfl)
      simp only [Act.put, List.getElem_toArray, List.getElem_cons_succ, List.getElem_cons_zero, List.setIfInBounds_toArray, List.set_cons_zero, List.set_cons_succ]
      refine wpAnyH_take (i := 14) (v := ?vy14) rfl (by kernel_rfl) (by kernel_rfl) (by kernel_rfl) (fun _ _ _ h => h) (Or.inl ⟨by rfl, ?hy14⟩) (Below.refl _ _) ?ry14
      case hy14 => (intro W hW; clear hW; go_simp; try with_reducible rfl)
      simp only [Act.put, List.getElem_toArray, List.getElem_cons_succ, List.getElem_cons_zero, List.setIfInBounds_toArray, List.set_cons_zero, List.set_cons_succ]
      refine wpAnyH_take (i := 15) (v := ?vy15) rfl (by kernel_rfl) (by kernel_rfl) (by kernel_rfl) (fun _ _ _ h => h) (Or.inl ⟨by rfl, ?hy15⟩) (Below.refl _ _) ?ry15
      case hy15 => (intro W hW; obtain ⟨c0, c1, c2, c3, c4, c5, c6, c7, c8⟩ := HKS.out W (HT8.out _ _ H10.out hW); clear hW; go_simp; try with_reducible rfl)
      simp only [Act.put, List.getElem_toArray, List.getElem_cons_succ, List.getElem_cons_zero, List.setIfInBounds_toArray, List.set_cons_zero, List.set_cons_succ]
      refine wpAnyH_take (i := 17) (v := ?vy17) rfl (by kernel_rfl) (by kernel_rfl) (by kernel_rfl) (fun _ _ _ h => h) (Or.inl ⟨by rfl, ?hy17⟩) (Below.refl _ _) ?ry17
      case hy17 => (intro W hW; obtain ⟨c0, c1, c2, c3, c4, c5, c6, c7, c8⟩ := HKY.out W (HT8.out _ _ H10.out hW); clear hW; go_simp; try with_reducible rfl)
      simp only [Act.put, List.getElem_toArray, List.getElem_cons_succ, List.getElem_cons_zero, List.setIfInBounds_toArray, List.set_cons_zero, List.set_cons_succ]
      refine wpAnyH_ready (rs := [16]) (by kernel_rfl) (by simp) ?_
      refine AllReadyH.cons rfl (fun K hK => ?_) AllReadyH.nil
      refine ready_call (f := 7) (vs := #[.agg #[.int .u8 (k : Int), .int .i64 i, .int .i64 b, .int .i64 f, .int .i64 t, .slice a2 n2 c2, .int .i64 cn, .int .u64 (dn : Int), .int .u64 (ds : Int)]]) (by rfl) (by (go_simp; try with_reducible rfl)) ?_
      refine (HPL2.out w10 a2 n2 c2 (HS8.out.later H10.out)).mono ?_
      rintro e w11 ⟨rfl, hb11⟩
      have H11 : Hid (Below w10.heap.size w10 w11) := Lib.hid hb11
      clear hb11
      refine ⟨_, rfl, hK.out _ _ H11.out (fun _ => ?_)⟩
      clear hK K
      simp only [Act.put, List.getElem_toArray, List.getElem_cons_succ, List.getElem_cons_zero, List.setIfInBounds_toArray, List.set_cons_zero, List.set_cons_succ]
      refine wpAnyH_take (i := 18) (v := ?vy18) rfl (by kernel_rfl) (by kernel_rfl) (by kernel_rfl) (fun _ _ _ h => h) (Or.inl ⟨by rfl, ?hy18⟩) H11.out ?ry18
      case hy18 => (intro W hW; clear hW; go_simp; try with_reducible rfl)
      simp only [Act.put, List.getElem_toArray, List.getElem_cons_succ, List.getElem_cons_zero, List.setIfInBounds_toArray, List.set_cons_zero, List.set_cons_succ]
      refine wpAnyH_take (i := 19) (v := ?vy19) rfl (by kernel_rfl) (by kernel_rfl) (by kernel_rfl) (fun _ _ _ h => h) (Or.inl ⟨by rfl, ?hy19⟩) H11.out ?ry19
      case hy19 => (intro W hW; clear hW; go_simp; try with_reducible rfl)
      simp only [Act.put, List.getElem_toArray, List.getElem_cons_succ, List.getElem_cons_zero, List.setIfInBounds_toArray, List.set_cons_zero, List.set_cons_succ]
      refine wpAnyH_take (i := 20) (v := ?vy20) rfl (by kernel_rfl) (by kernel_rfl) (by kernel_rfl) (fun _ _ _ h => h) (Or.inl ⟨by rfl, ?hy20⟩) H11.out ?ry20
      case hy20 => (intro W hW; clear hW; go_simp; try with_reducible rfl)
      simp only [Act.put, List.getElem_toArray, List.getElem_cons_succ, List.getElem_cons_zero, List.setIfInBounds_toArray, List.set_cons_zero, List.set_cons_succ]
      refine wpAnyH_take (i := 21) (v := ?vy21) rfl (by kernel_rfl) (by kernel_rfl) (by kernel_rfl) (fun _ _ _ h => h) (Or.inl ⟨by rfl, ?hy21⟩) H11.out ?ry21
      case hy21 => (intro W hW; obtain ⟨c0, c1, c2, c3, c4, c5, c6, c7, c8⟩ := HKX.out W (HT8.out _ _ H10.out hW); clear hW; go_simp; try with_reducible rfl)
      simp only [Act.put, List.getElem_toArray, List.getElem_cons_succ, List.getElem_cons_zero, List.setIfInBounds_toArray, List.set_cons_zero, List.set_cons_succ]
      refine wpAnyH_take (i := 22) (v := ?vy22) rfl (by kernel_rfl) (by kernel_rfl) (by kernel_rfl) (fun _ _ _ h => h) (Or.inl ⟨by rfl, ?hy22⟩) H11.out ?ry22
      case hy22 => (intro W hW; obtain ⟨c0, c1, c2, c3, c4, c5, c6, c7, c8⟩ := HKS.out W (HT8.out _ _ H10.out hW); clear hW; go_simp; try with_reducible rfl)
      simp only [Act.put, List.getElem_toArray, List.getElem_cons_succ, List.getElem_cons_zero, List.setIfInBounds_toArray, List.set_cons_zero, List.set_cons_succ]
      refine wpAnyH_ready (rs := [23]) (by kernel_rfl) (by simp) ?_
      refine AllReadyH.cons rfl (fun K hK => ?_) AllReadyH.nil
      refine ready_call (f := 13) (vs := #[.agg #[.int .u8 (k : Int), .int .i64 i, .int .i64 b, .int .i64 f, .int .i64 t, .slice a n cap, .int .i64 cn, .int .u64 (dn : Int), .int .u64 (ds : Int)], .agg #[.int .u8 (k : Int), .int .i64 i, .int .i64 b, .int .i64 f, .int .i64 t, .slice a2 n2 c2, .int .i64 cn, .int .u64 (dn : Int), .int .u64 (ds : Int)]]) (by rfl) (by (go_simp; try with_reducible rfl)) ?_
      refine (HSM.out w11 a2 n2 c2 (HC8.out _ (HT8.out _ _ H10.out H11.out)) (HS8.out.later (HT8.out _ _ H10.out H11.out))).mono ?_
      rintro e w12 ⟨rfl, hb12⟩
      have H12 : Hid (Below w10.heap.size w10 w12) := Lib.hid (H11.out.trans (hb12.mono H11.out.size))
      clear hb12
      refine ⟨_, rfl, hK.out _ _ H12.out (fun _ => ?_)⟩
      clear hK K
      simp only [Act.put, List.getElem_toArray, List.getElem_cons_succ, List.getElem_cons_zero, List.setIfInBounds_toArray, List.set_cons_zero, List.set_cons_succ]
      refine wpAnyH_take (i := 24) (v := ?vy24) rfl (by kernel_rfl) (by kernel_rfl) (by kernel_rfl) (fun _ _ _ h => h) (Or.inl ⟨by rfl, ?hy24⟩) H12.out ?ry24
      case hy24 => (intro W hW; clear hW; go_simp; try with_reducible rfl)
      simp only [Act.put, List.getElem_toArray, List.getElem_cons_succ, List.getElem_cons_zero, List.setIfInBounds_toArray, List.set_cons_zero, List.set_cons_succ]
      refine wpAnyH_take (i := 25) (v := ?vy25) rfl (by kernel_rfl) (by kernel_rfl) (by kernel_rfl) (fun _ _ _ h => h) (Or.inl ⟨by rfl, ?hy25⟩) H12.out ?ry25
      case hy25 => (intro W hW; clear hW; go_simp; try with_reducible rfl)
      simp only [Act.put, List.getElem_toArray, List.getElem_cons_succ, List.getElem_cons_zero, List.setIfInBounds_toArray, List.set_cons_zero, List.set_cons_succ]
      refine wpAnyH_done (by kernel_rfl) ?_ _
      go_wp2
      go_ret
      exact ⟨rfl, HC8.out _ (HT8.out _ _ H10.out H12.out)⟩
  · have hn' : (500 : Int) < (n : Int) := by omega
    clear hn
    go_enter Try.func3, Try.ntmps3
    go_upto_region 1 with fail
    change Code.wp _ _ _ _ (w.alloc (.cells #[.int .u8 (k : Int), .int .i64 i, .int .i64 b, .int .i64 f, .int .i64 t, .slice a n cap, .int .i64 cn, .int .u64 (dn : Int), .int .u64 (ds : Int)] 30))
    rw [HW.out.1]
    try rw [HW.out.2]
    go_wp2_with fail
    refine (HLV.out w0).mono ?_
    rintro e w1 ⟨rfl, hb1⟩
    have H1 := Lib.hid hb1
    clear hb1
    obtain ⟨c0, c1, c2, c3, c4, c5, c6, c7, c8⟩ := rec_cells (HQQ.out _ H1.out)
    go_wp2_with fail
    refine (HLV.out w1).mono ?_
    rintro e w2 ⟨rfl, hb2⟩
    have H2 := Lib.hid (HT.out _ _ H1.out hb2)
    clear hb2
    go_wp2
    go_ret
    exact ⟨rfl, HC.out _ H2.out⟩

end Go.Proofs.Ytngnlnkkehnomaa
