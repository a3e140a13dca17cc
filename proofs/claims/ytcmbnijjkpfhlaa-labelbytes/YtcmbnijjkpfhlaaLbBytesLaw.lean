/- LabelBytes, walked: over any world. -/
import Derived.Test.YtcmbnijjkpfhlaaLbRead
import Derived.Test.YtcmbnijjkpfhlaaLbRefBytes
import Derived.Test.YtcmbnijjkpfhlaaLbLives
namespace Go.Proofs.Ytcmbnijjkpfhlaa
open Go.RowKit
set_option linter.unusedSimpArgs false

set_option maxHeartbeats 4000000 in
set_option maxRecDepth 100000 in
theorem labelBytes_walk (x : Lab) (r : List Nat) (w : World) (hf : x.fits) (hr : ∀ z ∈ r, z < 256) (hlen : x.p.length ≤ 2305843009213693952 ∧ r.length ≤ 2305843009213693952) :
    Calls Try.prog 3 #[lbV x, .string (strB r)] w fun e w' => e = .returned (.bool true) ∧ Below w.heap.size w w' := by
  have hs1 := strB_size x.p
  have hs2 := strB_size r
  by_cases hn : x.p.length + r.length ≤ 200
  · have HBX : Hid (∀ W, Below w.heap.size w W → Calls Try.prog 8 #[lbV x] W fun e w' => Below w.heap.size w w' ∧ Below W.heap.size W w' ∧ ((x.ok = false ∧ e = .returned (.tuple #[.slice none 0 0, .int .i64 1])) ∨ (x.ok = true ∧ ∃ a c, e = .returned (.tuple #[.slice a x.bytes.length c, .int .i64 0]) ∧ Own w' w.heap.size (.slice a x.bytes.length c) x.bytes))) := by
      refine Lib.hid fun W hW => (lbytes_any x W hf (by omega)).mono ?_
      rintro e w' ⟨hb, h⟩
      refine ⟨hW.trans (hb.mono hW.size), hb, h.imp id ?_⟩
      rintro ⟨ho, a, c, he, hO⟩
      exact ⟨ho, a, c, he, hO.mono hW.size⟩
    have HOF : Hid (∀ W, Calls Try.prog 10 #[lbV x] W fun e w' => e = .returned (lbV x) ∧ Hid (Below W.heap.size W w')) := Lib.hid fun W => (of_any x W).mono fun e w' ⟨h1, h2⟩ => ⟨h1, Lib.hid h2⟩
    have HRR : Hid (∀ W, Calls Try.prog 9 #[lbV x] W fun e w' => e = .returned (.bool x.ok) ∧ Hid (Below W.heap.size W w')) := Lib.hid fun W => (refRight_any x W hf (by omega)).mono fun e w' ⟨h1, h2⟩ => ⟨h1, Lib.hid h2⟩
    have HRT : Hid (∀ W, Calls Try.prog 11 #[lbV x] W fun e w' => e = .returned (.bool x.ok) ∧ Hid (Below W.heap.size W w')) := Lib.hid fun W => (right_any x W hf (by omega)).mono fun e w' ⟨h1, h2⟩ => ⟨h1, Lib.hid h2⟩
    have HPO : Hid (∀ W, Calls Try.prog 12 #[.string (strB r)] W fun e w' => e = .returned (.bool (poolB r)) ∧ Hid (Below W.heap.size W w')) := Lib.hid fun W => (pool_any r W hr (by omega)).mono fun e w' ⟨h1, h2⟩ => ⟨h1, Lib.hid h2⟩
    have HPR : Hid (∀ W, Calls Try.prog 13 #[.string (strB r)] W fun e w' => e = .returned (.bool (poolB r)) ∧ W = w') := Lib.hid fun W => refPool_any r W hr (by omega)
    have HRB : Hid (x.ok = true → ∀ W, Calls Try.prog 15 #[lbV x] W fun e w' => ∃ a c, e = .returned (.slice a x.bytes.length c) ∧ Hid (Own w' W.heap.size (.slice a x.bytes.length c) x.bytes ∧ Below W.heap.size W w')) := Lib.hid fun ho W => (refBytes_any x W ho).mono fun e w' ⟨a, c, h1, h2⟩ => ⟨a, c, h1, Lib.hid h2⟩
    have HRD : Hid (x.ok = true → ∀ W a c, Rd W a x.bytes.length x.bytes → x.bytes.length ≤ c → Calls Try.prog 14 #[.slice a x.bytes.length c] W fun e w' => e = .returned (.tuple #[lbV x, .int .i64 0]) ∧ Hid (Below W.heap.size W w')) := by
      refine Lib.hid fun ho W a c h hc => ?_
      have h1 := read_any a x.bytes.length c x.bytes W h (by have := Lab.bytes_len ho; omega) hc
      rw [rdLab_bytes ho] at h1
      exact h1.mono fun e w' ⟨h1, h2⟩ => ⟨h1, Lib.hid h2⟩
    obtain ⟨K, hK⟩ : ∃ K, K = x.ok := ⟨_, rfl⟩
    obtain ⟨L, hL⟩ : ∃ L, L = x.bytes := ⟨_, rfl⟩
    obtain ⟨pb, hpb⟩ : ∃ pb, pb = poolB r := ⟨_, rfl⟩
    rw [← hK] at HBX HRR HRT HRB HRD
    rw [← hL] at HBX HRB HRD
    rw [← hpb] at HPO HPR
    obtain ⟨p, g, m⟩ := x
    simp only [lbV] at HBX HOF HRR HRT HRB HRD ⊢
    simp only at hs1 hn hlen
    obtain ⟨s, hs⟩ : ∃ s, s = strB p := ⟨_, rfl⟩
    obtain ⟨t, ht⟩ : ∃ t, t = strB r := ⟨_, rfl⟩
    rw [← hs] at HBX HOF HRR HRT HRB HRD hs1 ⊢
    rw [← ht] at HPO HPR hs2 ⊢
    have hwr : IntKind.i64.wrap ((s.size : Int) + (t.size : Int)) = (s.size : Int) + (t.size : Int) := by rw [IntKind.wrap_i64]; omega
    have hle : ¬ (200 : Int) < (s.size : Int) + (t.size : Int) := by omega
    clear hK hL hpb hf hr hs ht hlen hs1 hs2 hn
    obtain ⟨q, hq⟩ : ∃ q, q = w.heap.size := ⟨_, rfl⟩
    obtain ⟨w1, hw1⟩ : ∃ w1, w1 = w.alloc (.cells #[.string s, .int .i64 g, .int .i64 m] 23) := ⟨_, rfl⟩
    have HW : Hid (w.alloc (.cells #[.string s, .int .i64 g, .int .i64 m] 23) = w1 ∧ w.heap.size = q) := Lib.hid ⟨hw1.symm, hq.symm⟩
    have HB1 : Hid (Below q w w1) := Lib.hid (by rw [hw1, hq]; exact Below.alloc0 _ _)
    have HQ1 : Hid (w1.heap[q]? = some (.cells #[.string s, .int .i64 g, .int .i64 m] 23 (0, 0))) := Lib.hid (by rw [hw1, hq]; exact heap_alloc_new w _)
    have HKQ : Hid (∀ W, Below w1.heap.size w1 W → W.cell? ⟨q, 0, none⟩ = some (.string s) ∧ W.cell? ⟨q, 1, none⟩ = some (.int .i64 g) ∧ W.cell? ⟨q, 2, none⟩ = some (.int .i64 m)) := Lib.hid fun W hW => lab_cells ((hW.block q (lt_of_block HQ1.out)).trans HQ1.out)
    clear hw1 hq
    rw [HW.out.2] at HBX
    rw [HW.out.2]
    go_enter Try.func3, Try.ntmps3
    go_upto_region 1 with fail
    change Code.wp _ _ _ _ (w.alloc (.cells #[.string s, .int .i64 g, .int .i64 m] 23))
    rw [HW.out.1]
    try rw [HW.out.2]
    go_wp2_with fail
    refine (lives_any w1).mono ?_
    rintro e w2 ⟨rfl, hb2⟩
    have HB2 := Lib.hid hb2
    clear hb2
    obtain ⟨c0, c1, c2⟩ := HKQ.out w2 HB2.out
    go_wp2_with fail
    refine (HBX.out w2 (HB1.out.trans (HB2.out.mono (Nat.le_of_lt (lt_of_block HQ1.out))))).mono ?_
    rintro e w3 ⟨hbw3, hb3, hor⟩
    have HB3 : Hid (Below w1.heap.size w1 w3) := Lib.hid (HB2.out.trans (hb3.mono HB2.out.size))
    have HW3 := Lib.hid hbw3
    clear hbw3 hb3 c0 c1 c2
    cases K with
    | false =>
      have he : e = .returned (.tuple #[.slice none 0 0, .int .i64 1]) := by
        rcases hor with ⟨_, he⟩ | ⟨h, _⟩
        · exact he
        · cases h
      subst he
      clear hor
      obtain ⟨c0, c1, c2⟩ := HKQ.out w3 HB3.out
      go_wp2_with fail
      refine (HOF.out w3).mono ?_
      rintro e w4 ⟨rfl, hb4⟩
      have HB4 : Hid (Below w1.heap.size w1 w4) := Lib.hid (HB3.out.trans (hb4.out.mono HB3.out.size))
      clear hb4 c0 c1 c2
      go_wp2_with fail
      refine (HRR.out w4).mono ?_
      rintro e w5 ⟨rfl, hb5⟩
      have HB5 : Hid (Below w1.heap.size w1 w5) := Lib.hid (HB4.out.trans (hb5.out.mono HB4.out.size))
      clear hb5
      obtain ⟨c0, c1, c2⟩ := HKQ.out w5 HB5.out
      go_wp2_with fail
      refine (HRT.out w5).mono ?_
      rintro e w6 ⟨rfl, hb6⟩
      have HB6 : Hid (Below w1.heap.size w1 w6) := Lib.hid (HB5.out.trans (hb6.out.mono HB5.out.size))
      clear hb6 c0 c1 c2
      go_wp2_with fail
      refine (HPO.out w6).mono ?_
      rintro e w7 ⟨rfl, hb7⟩
      have HB7 : Hid (Below w1.heap.size w1 w7) := Lib.hid (HB6.out.trans (hb7.out.mono HB6.out.size))
      clear hb7
      go_wp2_with fail
      refine (HPR.out w7).mono ?_
      rintro e w8 ⟨rfl, rfl⟩
      go_wp2
      go_ret
      exact ⟨rfl, HB1.out.trans (HB7.out.mono (Nat.le_of_lt (lt_of_block HQ1.out)))⟩
    | true =>
      have ⟨a, c, he, hO⟩ : ∃ a c, e = .returned (.tuple #[.slice a L.length c, .int .i64 0]) ∧ Own w3 q (.slice a L.length c) L := by
        rcases hor with ⟨h, _⟩ | ⟨_, h⟩
        · cases h
        · exact h
      subst he
      have HRD2 := Lib.hid (HRD.out rfl)
      have HRB2 := Lib.hid (HRB.out rfl)
      obtain ⟨a', c', hv, hrd, hc⟩ := hO.sl
      injection hv with e1 e2 e3
      subst e1 e3
      have HR3 := Lib.hid hrd
      have HC := Lib.hid hc
      clear hor HRD HRB hO hrd hc e2
      obtain ⟨c0, c1, c2⟩ := HKQ.out w3 HB3.out
      go_wp2_with fail
      refine (HOF.out w3).mono ?_
      rintro e w4 ⟨rfl, hb4⟩
      have HB4 : Hid (Below w1.heap.size w1 w4) := Lib.hid (HB3.out.trans (hb4.out.mono HB3.out.size))
      have HR4 := Lib.hid (HR3.out.later hb4.out)
      clear hb4 c0 c1 c2
      go_wp2_with fail
      refine (HRR.out w4).mono ?_
      rintro e w5 ⟨rfl, hb5⟩
      have HB5 : Hid (Below w1.heap.size w1 w5) := Lib.hid (HB4.out.trans (hb5.out.mono HB4.out.size))
      have HR5 := Lib.hid (HR4.out.later hb5.out)
      clear hb5
      obtain ⟨c0, c1, c2⟩ := HKQ.out w5 HB5.out
      go_wp2_with fail
      refine (HRT.out w5).mono ?_
      rintro e w6 ⟨rfl, hb6⟩
      have HB6 : Hid (Below w1.heap.size w1 w6) := Lib.hid (HB5.out.trans (hb6.out.mono HB5.out.size))
      have HR6 := Lib.hid (HR5.out.later hb6.out)
      clear hb6 c0 c1 c2
      go_wp2_with fail
      refine (HPO.out w6).mono ?_
      rintro e w7 ⟨rfl, hb7⟩
      have HB7 : Hid (Below w1.heap.size w1 w7) := Lib.hid (HB6.out.trans (hb7.out.mono HB6.out.size))
      have HR7 := Lib.hid (HR6.out.later hb7.out)
      clear hb7
      go_wp2_with fail
      refine (HPR.out w7).mono ?_
      rintro e w8 ⟨rfl, rfl⟩
      go_wp2_with fail
      refine (HRD2.out w7 a c HR7.out HC.out).mono ?_
      rintro e w9 ⟨rfl, hb9⟩
      obtain ⟨w10, hw10⟩ : ∃ w10, w10 = w9.alloc (.cells #[.string s, .int .i64 g, .int .i64 m] 23) := ⟨_, rfl⟩
      obtain ⟨q8, hq8⟩ : ∃ q8, q8 = w9.heap.size := ⟨_, rfl⟩
      have HW10 : Hid (w9.alloc (.cells #[.string s, .int .i64 g, .int .i64 m] 23) = w10 ∧ w9.heap.size = q8) := Lib.hid ⟨hw10.symm, hq8.symm⟩
      have hbA : Below w9.heap.size w9 w10 := by rw [hw10]; exact Below.alloc0 _ _
      have hbB : Below w7.heap.size w7 w10 := hb9.out.trans (hbA.mono hb9.out.size)
      have HB10 : Hid (Below w1.heap.size w1 w10) := Lib.hid (HB7.out.trans (hbB.mono HB7.out.size))
      have HR10 := Lib.hid (HR7.out.later hbB)
      have HQ10 : Hid (w10.heap[q8]? = some (.cells #[.string s, .int .i64 g, .int .i64 m] 23 (0, 0))) := Lib.hid (by rw [hw10, hq8]; exact heap_alloc_new w9 _)
      clear hw10 hq8 hbA hbB hb9
      go_upto_region 10 with fail
      change Code.wp _ _ _ _ (w9.alloc (.cells #[.string s, .int .i64 g, .int .i64 m] 23))
      rw [HW10.out.1]
      try rw [HW10.out.2]
      have HT : Hid (∀ W, Below w10.heap.size w10 W → Below w1.heap.size w1 W) := Lib.hid fun W hW => HB10.out.trans (hW.mono HB10.out.size)
      have HK8 : Hid (∀ W, Below w10.heap.size w10 W → W.cell? ⟨q8, 0, none⟩ = some (.string s) ∧ W.cell? ⟨q8, 1, none⟩ = some (.int .i64 g) ∧ W.cell? ⟨q8, 2, none⟩ = some (.int .i64 m)) := Lib.hid fun W hW => lab_cells ((hW.block q8 (lt_of_block HQ10.out)).trans HQ10.out)
      have HCV : Hid (∀ W, Below w10.heap.size w10 W → (convert 25 9 (.slice a L.length c)).run Try.prog W = .ok (.string (strB L)) W) := Lib.hid fun W hW => conv_rd (HR10.out.later hW) c
      have hll : ((strB L).toList == (strB L).toList) = true := by simp
      obtain ⟨sl, hsl⟩ : ∃ sl, sl = strB L := ⟨_, rfl⟩
      have HSL := Lib.hid hsl
      rw [← hsl] at HCV hll
      obtain ⟨nl, hnl⟩ : ∃ nl, nl = L.length := ⟨_, rfl⟩
      have HNL := Lib.hid hnl
      rw [← hnl] at HCV HRB2 ⊢
      clear hsl hnl
      have H : Hid (Below w10.heap.size w10 w10.drew) := Lib.hid (Below.refl _ _).drew
      refine wp_region_held_drew (S := fun W => Below w10.heap.size w10 W) (by kernel_rfl) H.out (fun _ => ?_)
      obtain ⟨w11, hw11⟩ : ∃ w11, w11 = w10.drew := ⟨_, rfl⟩
      rw [← hw11] at H ⊢
      clear hw11
      refine wpAnyH_take (i := 0) (v := ?vr0) rfl (by kernel_rfl) (by kernel_rfl) (by kernel_rfl) (fun _ _ _ h => h) (Or.inl ⟨by rfl, ?hr0⟩) H.out ?rr0
      case hr0 => (intro W hW; clear hW; go_simp; try with_reducible rfl)
      simp only [Act.put, List.getElem_toArray, List.getElem_cons_succ, List.getElem_cons_zero, List.setIfInBounds_toArray, List.set_cons_zero, List.set_cons_succ]
      refine wpAnyH_take (i := 1) (v := ?vr1) rfl (by kernel_rfl) (by kernel_rfl) (by kernel_rfl) (fun _ _ _ h => h) (Or.inl ⟨by rfl, ?hr1⟩) H.out ?rr1
      case hr1 => (intro W hW; have hcv := HCV.out W hW; clear hW; go_simp; try with_reducible rfl)
      simp only [Act.put, List.getElem_toArray, List.getElem_cons_succ, List.getElem_cons_zero, List.setIfInBounds_toArray, List.set_cons_zero, List.set_cons_succ]
      refine wpAnyH_take (i := 2) (v := ?vr2) rfl (by kernel_rfl) (by kernel_rfl) (by kernel_rfl) (fun _ _ _ h => h) (Or.inl ⟨by rfl, ?hr2⟩) H.out ?rr2
      case hr2 => (intro W hW; obtain ⟨c0, c1, c2⟩ := HKQ.out W (HT.out W hW); clear hW; go_simp; try with_reducible rfl)
      simp only [Act.put, List.getElem_toArray, List.getElem_cons_succ, List.getElem_cons_zero, List.setIfInBounds_toArray, List.set_cons_zero, List.set_cons_succ]
      refine wpAnyH_ready (rs := [3]) (by kernel_rfl) (by simp) ?_
      refine AllReadyH.cons rfl (fun K hK => ?_) AllReadyH.nil
      refine ready_call (f := 10) (vs := #[.agg #[.string s, .int .i64 g, .int .i64 m]]) (by rfl) (by (go_simp; try with_reducible rfl)) ?_
      refine (HOF.out _).mono ?_
      rintro e w12 ⟨rfl, hb12⟩
      have H12 : Hid (Below w10.heap.size w10 w12) := Lib.hid (H.out.trans (hb12.out.mono H.out.size))
      refine ⟨_, rfl, hK.out _ _ H12.out (fun _ => ?_)⟩
      clear hK K hb12
      simp only [Act.put, List.getElem_toArray, List.getElem_cons_succ, List.getElem_cons_zero, List.setIfInBounds_toArray, List.set_cons_zero, List.set_cons_succ]
      refine wpAnyH_ready (rs := [4]) (by kernel_rfl) (by simp) ?_
      refine AllReadyH.cons rfl (fun K hK => ?_) AllReadyH.nil
      refine ready_call (f := 15) (vs := #[.agg #[.string s, .int .i64 g, .int .i64 m]]) (by rfl) (by (go_simp; try with_reducible rfl)) ?_
      refine (HRB2.out _).mono ?_
      rintro e w13 ⟨aZ, cZ, rfl, HZ⟩
      have H13 : Hid (Below w10.heap.size w10 w13) := Lib.hid (H12.out.trans (HZ.out.2.mono H12.out.size))
      refine ⟨_, rfl, hK.out _ _ H13.out (fun _ => ?_)⟩
      clear hK K
      simp only [Act.put, List.getElem_toArray, List.getElem_cons_succ, List.getElem_cons_zero, List.setIfInBounds_toArray, List.set_cons_zero, List.set_cons_succ]
      have HRZ : Hid (Rd w13 aZ nl L) := Lib.hid (HZ.out.1.asSlice1 HNL.out.symm)
      clear HZ
      have HCZ : Hid (∀ W, Below w13.heap.size w13 W → (convert 25 9 (.slice aZ nl cZ)).run Try.prog W = .ok (.string sl) W) := Lib.hid fun W hW => by rw [HSL.out]; exact conv_rd (HRZ.out.later hW) cZ
      refine wpAnyH_strong (S1 := fun W => Below w13.heap.size w13 W) (fun W hW => H13.out.trans (hW.mono H13.out.size)) ?_
      refine wpAnyH_take (i := 5) (v := ?vr5) rfl (by kernel_rfl) (by kernel_rfl) (by kernel_rfl) (fun _ _ _ h => h) (Or.inl ⟨by rfl, ?hr5⟩) (Below.refl _ _) ?rr5
      case hr5 => (intro W hW; have hcv := HCZ.out W hW; clear hW; go_simp; try with_reducible rfl)
      simp only [Act.put, List.getElem_toArray, List.getElem_cons_succ, List.getElem_cons_zero, List.setIfInBounds_toArray, List.set_cons_zero, List.set_cons_succ]
      refine wpAnyH_take (i := 6) (v := ?vr6) rfl (by kernel_rfl) (by kernel_rfl) (by kernel_rfl) (fun _ _ _ h => h) (Or.inl ⟨by rfl, ?hr6⟩) (Below.refl _ _) ?rr6
      case hr6 => (intro W hW; clear hW; go_simp; try with_reducible rfl)
      simp only [Act.put, List.getElem_toArray, List.getElem_cons_succ, List.getElem_cons_zero, List.setIfInBounds_toArray, List.set_cons_zero, List.set_cons_succ]
      refine wpAnyH_take (i := 7) (v := ?vr7) rfl (by kernel_rfl) (by kernel_rfl) (by kernel_rfl) (fun _ _ _ h => h) (Or.inl ⟨by rfl, ?hr7⟩) (Below.refl _ _) ?rr7
      case hr7 => (intro W hW; clear hW; go_simp; try with_reducible rfl)
      simp only [Act.put, List.getElem_toArray, List.getElem_cons_succ, List.getElem_cons_zero, List.setIfInBounds_toArray, List.set_cons_zero, List.set_cons_succ]
      refine wpAnyH_take (i := 8) (v := ?vr8) rfl (by kernel_rfl) (by kernel_rfl) (by kernel_rfl) (fun _ _ _ h => h) (Or.inl ⟨by rfl, ?hr8⟩) (Below.refl _ _) ?rr8
      case hr8 => (intro W hW; clear hW; go_simp; try with_reducible rfl)
      simp only [Act.put, List.getElem_toArray, List.getElem_cons_succ, List.getElem_cons_zero, List.setIfInBounds_toArray, List.set_cons_zero, List.set_cons_succ]
      refine wpAnyH_take (i := 9) (v := ?vr9) rfl (by kernel_rfl) (by kernel_rfl) (by kernel_rfl) (fun _ _ _ h => h) (Or.inl ⟨by rfl, ?hr9⟩) (Below.refl _ _) ?rr9
      case hr9 => (intro W hW; clear hW; go_simp; try with_reducible rfl)
      simp only [Act.put, List.getElem_toArray, List.getElem_cons_succ, List.getElem_cons_zero, List.setIfInBounds_toArray, List.set_cons_zero, List.set_cons_succ]
      refine wpAnyH_take (i := 10) (v := ?vr10) rfl (by kernel_rfl) (by kernel_rfl) (by kernel_rfl) (fun _ _ _ h => h) (Or.inl ⟨by rfl, ?hr10⟩) (Below.refl _ _) ?rr10
      case hr10 => (intro W hW; clear hW; go_simp; try with_reducible rfl)
      simp only [Act.put, List.getElem_toArray, List.getElem_cons_succ, List.getElem_cons_zero, List.setIfInBounds_toArray, List.set_cons_zero, List.set_cons_succ]
      refine wpAnyH_take (i := 11) (v := ?vr11) rfl (by kernel_rfl) (by kernel_rfl) (by kernel_rfl) (fun _ _ _ h => h) (Or.inl ⟨by rfl, ?hr11⟩) (Below.refl _ _) ?rr11
      case hr11 => (intro W hW; clear hW; go_simp; try with_reducible rfl)
      simp only [Act.put, List.getElem_toArray, List.getElem_cons_succ, List.getElem_cons_zero, List.setIfInBounds_toArray, List.set_cons_zero, List.set_cons_succ]
      refine wpAnyH_take (i := 12) (v := ?vr12) rfl (by kernel_rfl) (by kernel_rfl) (by kernel_rfl) (fun _ _ _ h => h) (Or.inl ⟨by rfl, ?hr12⟩) (Below.refl _ _) ?rr12
      case hr12 => (intro W hW; obtain ⟨c0, c1, c2⟩ := HK8.out W (H13.out.trans (hW.mono H13.out.size)); clear hW; go_simp; try with_reducible rfl)
      simp only [Act.put, List.getElem_toArray, List.getElem_cons_succ, List.getElem_cons_zero, List.setIfInBounds_toArray, List.set_cons_zero, List.set_cons_succ]
      refine wpAnyH_take (i := 13) (v := ?vr13) rfl (by kernel_rfl) (by kernel_rfl) (by kernel_rfl) (fun _ _ _ h => h) (Or.inl ⟨by rfl, ?hr13⟩) (Below.refl _ _) ?rr13
      case hr13 => (intro W hW; obtain ⟨c0, c1, c2⟩ := HKQ.out W (HT.out W (H13.out.trans (hW.mono H13.out.size))); clear hW; go_simp; try with_reducible rfl)
      simp only [Act.put, List.getElem_toArray, List.getElem_cons_succ, List.getElem_cons_zero, List.setIfInBounds_toArray, List.set_cons_zero, List.set_cons_succ]
      refine wpAnyH_take (i := 14) (v := ?vr14) rfl (by kernel_rfl) (by kernel_rfl) (by kernel_rfl) (fun _ _ _ h => h) (Or.inl ⟨by rfl, ?hr14⟩) (Below.refl _ _) ?rr14
      case hr14 => (intro W hW; clear hW; go_simp; try with_reducible rfl)
      simp only [Act.put, List.getElem_toArray, List.getElem_cons_succ, List.getElem_cons_zero, List.setIfInBounds_toArray, List.set_cons_zero, List.set_cons_succ]
      refine wpAnyH_take (i := 15) (v := ?vr15) rfl (by kernel_rfl) (by kernel_rfl) (by kernel_rfl) (fun _ _ _ h => h) (Or.inl ⟨by rfl, ?hr15⟩) (Below.refl _ _) ?rr15
      case hr15 => (intro W hW; clear hW; go_simp; try with_reducible rfl)
      simp only [Act.put, List.getElem_toArray, List.getElem_cons_succ, List.getElem_cons_zero, List.setIfInBounds_toArray, List.set_cons_zero, List.set_cons_succ]
      refine wpAnyH_take (i := 16) (v := ?vr16) rfl (by kernel_rfl) (by kernel_rfl) (by kernel_rfl) (fun _ _ _ h => h) (Or.inl ⟨by rfl, ?hr16⟩) (Below.refl _ _) ?rr16
      case hr16 => (intro W hW; clear hW; go_simp; try with_reducible rfl)
      simp only [Act.put, List.getElem_toArray, List.getElem_cons_succ, List.getElem_cons_zero, List.setIfInBounds_toArray, List.set_cons_zero, List.set_cons_succ]
      refine wpAnyH_done (by kernel_rfl) ?_ _
      go_wp2
      go_ret
      exact ⟨rfl, HB1.out.trans ((HT.out _ H13.out).mono (Nat.le_of_lt (lt_of_block HQ1.out)))⟩
  · obtain ⟨p, g, m⟩ := x
    simp only [lbV]
    simp only at hs1 hn hlen
    obtain ⟨s, hs⟩ : ∃ s, s = strB p := ⟨_, rfl⟩
    obtain ⟨t, ht⟩ : ∃ t, t = strB r := ⟨_, rfl⟩
    rw [← hs] at hs1 ⊢
    rw [← ht] at hs2 ⊢
    have hwr : IntKind.i64.wrap ((s.size : Int) + (t.size : Int)) = (s.size : Int) + (t.size : Int) := by rw [IntKind.wrap_i64]; omega
    have hle : (200 : Int) < (s.size : Int) + (t.size : Int) := by omega
    clear hf hr hs ht hlen hs1 hs2 hn
    obtain ⟨q, hq⟩ : ∃ q, q = w.heap.size := ⟨_, rfl⟩
    obtain ⟨w1, hw1⟩ : ∃ w1, w1 = w.alloc (.cells #[.string s, .int .i64 g, .int .i64 m] 23) := ⟨_, rfl⟩
    have HW : Hid (w.alloc (.cells #[.string s, .int .i64 g, .int .i64 m] 23) = w1 ∧ w.heap.size = q) := Lib.hid ⟨hw1.symm, hq.symm⟩
    have HB1 : Hid (Below q w w1) := Lib.hid (by rw [hw1, hq]; exact Below.alloc0 _ _)
    have HQ1 : Hid (w1.heap[q]? = some (.cells #[.string s, .int .i64 g, .int .i64 m] 23 (0, 0))) := Lib.hid (by rw [hw1, hq]; exact heap_alloc_new w _)
    clear hw1 hq
    rw [HW.out.2]
    go_enter Try.func3, Try.ntmps3
    go_upto_region 1 with fail
    change Code.wp _ _ _ _ (w.alloc (.cells #[.string s, .int .i64 g, .int .i64 m] 23))
    rw [HW.out.1]
    try rw [HW.out.2]
    go_wp2_with fail
    refine (lives_any w1).mono ?_
    rintro e w2 ⟨rfl, hb2⟩
    have HB2 := Lib.hid hb2
    obtain ⟨c0, c1, c2⟩ := lab_cells ((hb2.block q (lt_of_block HQ1.out)).trans HQ1.out)
    clear hb2
    go_wp2_with fail
    refine (lives_any w2).mono ?_
    rintro e w3 ⟨rfl, hb3⟩
    have HB3 := Lib.hid hb3
    clear hb3
    go_wp2
    go_ret
    exact ⟨rfl, HB1.out.trans ((HB2.out.trans (HB3.out.mono HB2.out.size)).mono (Nat.le_of_lt (lt_of_block HQ1.out)))⟩

end Go.Proofs.Ytcmbnijjkpfhlaa
