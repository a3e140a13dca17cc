/- A record that is read: the contract of Read, over any world. -/
import Derived.Test.YtaijldcfoaeogaaRcParseD
import Derived.Test.YtaijldcfoaeogaaVRdrBytesHi
namespace Go.Proofs.Ytaijldcfoaeogaa
open Go.RowKit
set_option linter.unusedSimpArgs false

instance (l : List Nat) : Decidable (Sealed l) := by unfold Sealed; infer_instance

/-- The record that sealed bytes are, and what is wrong. -/
def rdSeal (s : List Nat) : Rec × Nat :=
  if Sealed s then (if (pars (s.take (s.length - 4))).isSome then ((cand (s.take (s.length - 4))).1, 0) else (rec0 0, 3)) else (rec0 0, 4)

/-- The record that is read, and what is wrong. -/
def rdRec (E : Nat) (l : List Nat) : Rec × Nat :=
  if (rByt E l 200).2.1 ≠ 0 then (rec0 0, (rByt E l 200).2.1) else rdSeal (rByt E l 200).1

theorem rNum_max (E : Nat) (l : List Nat) (most : Nat) : (rByt E l most).1.length ≤ most := by
  unfold rByt
  split
  · simp
  · split
    · simp
    · have := rNum_le E l most
      simp only [List.length_take]
      omega

set_option maxHeartbeats 4000000 in
set_option maxRecDepth 100000 in
theorem rreadHi_any (w : World) (g E : Nat) (l : List Nat) (ub : Nat) (h : RdrHi w 99 g E l ub) (hle : ub ≤ w.heap.size) :
    Calls Try.prog 34 #[.pointer (some ⟨g, 0, none⟩)] w fun e w' => ∃ a2 n2 c2, e = .returned (.tuple #[rcV (rdRec E l).1 a2 n2 c2, .int .i64 ((rdRec E l).2 : Int)]) ∧ Hid (Save [g] w w' ∧ RdrHi w' 99 g (rByt E l 200).2.1 (rByt E l 200).2.2 ub ∧ Rd w' a2 n2 (rdRec E l).1.l ∧ ∀ b o, a2 = some ⟨b, o, none⟩ → 0 < n2 → w.heap.size ≤ b) := by
  obtain ⟨w1, hw1⟩ : ∃ w1, w1 = w.alloc (.cells #[.int .u8 0, .int .i64 0, .int .i64 0, .int .i64 0, .int .i64 0, .slice none 0 0, .int .i64 0, .int .u64 0, .int .u64 0] 57) := ⟨_, rfl⟩
  obtain ⟨p, hp⟩ : ∃ p, p = w.heap.size := ⟨_, rfl⟩
  have HW : Hid (w.alloc (.cells #[.int .u8 0, .int .i64 0, .int .i64 0, .int .i64 0, .int .i64 0, .slice none 0 0, .int .i64 0, .int .u64 0, .int .u64 0] 57) = w1 ∧ w.heap.size = p) := Lib.hid ⟨hw1.symm, hp.symm⟩
  have hb1 : Below p w w1 := by rw [hw1, hp]; exact Below.alloc0 _ _
  have HLE : Hid (ub ≤ p) := Lib.hid (by rw [hp]; exact hle)
  have hh1 : RdrHi w1 99 g E l ub := h.below (hb1.mono HLE.out)
  have hp1 : w1.heap[p]? = some (.cells #[.int .u8 0, .int .i64 0, .int .i64 0, .int .i64 0, .int .i64 0, .slice none 0 0, .int .i64 0, .int .u64 0, .int .u64 0] 57 (0, 0)) := by rw [hw1, hp]; exact heap_alloc_new w _
  have hgp : g < p := by obtain ⟨_, _, _, hg, _⟩ := h.rdr; rw [hp]; exact lt_of_block hg
  have hby := bytesHi_any w1 g E l 200 200 ub (.inl rfl) (by omega) hh1
  have hmx := rNum_max E l 200
  have HRR : Hid (rdRec E l = if (rByt E l 200).2.1 ≠ 0 then (rec0 0, (rByt E l 200).2.1) else rdSeal (rByt E l 200).1) := Lib.hid rfl
  obtain ⟨⟨S, E1, l1⟩, hY⟩ : ∃ Y, Y = rByt E l 200 := ⟨_, rfl⟩
  rw [← hY] at hby hmx HRR ⊢
  simp only at hby hmx HRR ⊢
  obtain ⟨Q, hQ⟩ : ∃ Q, Q = rdRec E l := ⟨_, rfl⟩
  rw [← hQ] at HRR ⊢
  have HBY := Lib.hid hby
  have HB1 := Lib.hid hb1
  have HP1 := Lib.hid hp1
  have HGP := Lib.hid hgp
  rw [← hp]
  clear hw1 hp hb1 hh1 hp1 hby h hle hY hQ hgp
  go_enter Try.func34, Try.ntmps34
  go_upto_region 1 with fail
  change Code.wp _ _ _ _ (w.alloc (.cells #[.int .u8 0, .int .i64 0, .int .i64 0, .int .i64 0, .int .i64 0, .slice none 0 0, .int .i64 0, .int .u64 0, .int .u64 0] 57))
  rw [HW.out.1, HW.out.2]
  go_wp2_with fail
  refine HBY.out.mono ?_
  rintro e w2 ⟨aS, nS, cS, rfl, hcS, hrS, hrd, hgr⟩
  have HRD := Lib.hid hrd
  have HRS := Lib.hid hrS
  have hsv1 : Save [g] w1 w2 := ⟨hgr.os, hgr.tape, hgr.output, hgr.size, fun k hk hx => hgr.block k hk (by intro e; injection e with e; exact hx (by simp [e]))⟩
  have hp2 : w2.heap[p]? = some (.cells #[.int .u8 0, .int .i64 0, .int .i64 0, .int .i64 0, .int .i64 0, .slice none 0 0, .int .i64 0, .int .u64 0, .int .u64 0] 57 (0, 0)) := (hsv1.block p (lt_of_block HP1.out) (by have := HGP.out; simp; omega)).trans HP1.out
  have hsv2 : Save [g] w w2 := (Save.of_below (HB1.out.mono (Nat.le_of_eq HW.out.2)) [g]).trans hsv1
  have HSV := Lib.hid hsv2
  have HP2 := Lib.hid hp2
  have hz2 : p < w2.heap.size := lt_of_block hp2
  have HZ2 := Lib.hid hz2
  clear hsv1 hsv2 hp2 hgr hrd hrS hz2
  go_wp2_with fail
  refine (failed_any w2 g E1 l1 HRD.out.rdr).mono ?_
  rintro e w3 ⟨rfl, rfl⟩
  by_cases hE : E1 = 0
  · subst hE
    have hQ : Q = rdSeal S := by have := HRR.out; simpa using this
    go_wp2_with fail
    refine (chkOpen_any aS nS cS S w2 HRS.out (by have := HRS.out.1; omega) hcS).mono ?_
    rintro e w3 ⟨hb3, hor⟩
    have hp3 := (hb3.block p HZ2.out).trans HP2.out
    have HB3 := Lib.hid hb3
    have HP3 := Lib.hid hp3
    have HQ := Lib.hid hQ
    clear hb3 hp3 hQ
    rcases hor with ⟨hns, rfl⟩ | ⟨hsd, v, rfl, hov⟩
    · have hQ4 : Q = (rec0 0, 4) := by rw [HQ.out]; unfold rdSeal; rw [if_neg hns]
      subst hQ4
      clear hns
      have hpz := HP3.out
      obtain ⟨z0, z1, z2, z3, z4, z5, z6, z7, z8⟩ := rec_cells hpz
      have y0 : w3.frozen? ⟨p, 0, none⟩ = false := by simp [World.frozen?, hpz]
      have y1 : w3.frozen? ⟨p, 1, none⟩ = false := by simp [World.frozen?, hpz]
      have y2 : w3.frozen? ⟨p, 2, none⟩ = false := by simp [World.frozen?, hpz]
      have y3 : w3.frozen? ⟨p, 3, none⟩ = false := by simp [World.frozen?, hpz]
      have y4 : w3.frozen? ⟨p, 4, none⟩ = false := by simp [World.frozen?, hpz]
      have y5 : w3.frozen? ⟨p, 5, none⟩ = false := by simp [World.frozen?, hpz]
      have y6 : w3.frozen? ⟨p, 6, none⟩ = false := by simp [World.frozen?, hpz]
      have y7 : w3.frozen? ⟨p, 7, none⟩ = false := by simp [World.frozen?, hpz]
      have y8 : w3.frozen? ⟨p, 8, none⟩ = false := by simp [World.frozen?, hpz]
      have hput := rec_put (v0 := .int .u8 0) (v1 := .int .i64 0) (v2 := .int .i64 0) (v3 := .int .i64 0) (v4 := .int .i64 0) (v5 := .slice none 0 0) (v6 := .int .i64 0) (v7 := .int .u64 0) (v8 := .int .u64 0) hpz
      rw [put_self hpz] at hput
      have HPUT := Lib.hid hput
      clear hput hpz
      go_wp2_with fail
      rw [HPUT.out]
      refine bodyPost_ret (v := .tuple #[.agg #[.int .u8 0, .int .i64 0, .int .i64 0, .int .i64 0, .int .i64 0, .slice none 0 0, .int .i64 0, .int .u64 0, .int .u64 0], .int .i64 4]) (by simp [results, Try.results34, go_sem, z0, z1, z2, z3, z4, z5, z6, z7, z8]; try rfl) rfl ?_
      refine ⟨none, 0, ⟨0, by simp [rcV, rec0]⟩, Lib.hid ⟨HSV.out.trans (Save.of_below HB3.out _), HRD.out.below ((HB3.out.mono (Nat.le_of_lt HZ2.out)).mono HLE.out), ⟨rfl, by simp [rec0], by omega⟩, fun b o he => by cases he⟩⟩
    · obtain ⟨aV, cV, rfl, hrV, hcV, hlV⟩ := hov.lies
      have hnS : nS = S.length := HRS.out.1.symm
      have hQ3 : Q = if (pars (S.take (S.length - 4))).isSome then ((cand (S.take (S.length - 4))).1, 0) else (rec0 0, 3) := by rw [HQ.out]; unfold rdSeal; rw [if_pos hsd]
      rw [← hnS] at hQ3
      obtain ⟨P, hP⟩ : ∃ P, P = S.take (nS - 4) := ⟨_, rfl⟩
      rw [← hP] at hQ3 hrV hcV ⊢
      have hPl : P.length ≤ 1000000 := by rw [hP]; simp; omega
      have hpa := parse_any aV P.length cV P w3 hrV hPl hcV
      obtain ⟨y, hy⟩ : ∃ y, y = (cand P).1 := ⟨_, rfl⟩
      obtain ⟨B, hB⟩ : ∃ B, B = (pars P).isSome := ⟨_, rfl⟩
      rw [← hy, ← hB] at hpa hQ3
      have HPA := Lib.hid hpa
      have HLV : Hid (∀ b o, aV = some ⟨b, o, none⟩ → p < b) := Lib.hid fun b o he => Nat.lt_of_lt_of_le HZ2.out (hlV b o he)
      have HQ3 := Lib.hid hQ3
      clear hov hrV hcV hlV hnS hQ3 hP hPl hpa hy hB hsd
      obtain ⟨k, i, b, f, t, lb, c, dn, ds⟩ := y
      simp only [rcV] at HPA
      go_wp2_with fail
      refine HPA.out.mono ?_
      rintro e w4 ⟨a2, n2, c2, rfl, HX⟩
      have HB4 : Hid (Below w2.heap.size w2 w4) := Lib.hid (HB3.out.trans (HX.out.1.mono HB3.out.size))
      obtain ⟨w5, hw5⟩ : ∃ w5, w5 = w4.alloc (.cells #[.int .u8 (k : Int), .int .i64 i, .int .i64 b, .int .i64 f, .int .i64 t, .slice a2 n2 c2, .int .i64 c, .int .u64 (dn : Int), .int .u64 (ds : Int)] 57) := ⟨_, rfl⟩
      obtain ⟨q, hq⟩ : ∃ q, q = w4.heap.size := ⟨_, rfl⟩
      have HW5 : Hid (w4.alloc (.cells #[.int .u8 (k : Int), .int .i64 i, .int .i64 b, .int .i64 f, .int .i64 t, .slice a2 n2 c2, .int .i64 c, .int .u64 (dn : Int), .int .u64 (ds : Int)] 57) = w5 ∧ w4.heap.size = q) := Lib.hid ⟨hw5.symm, hq.symm⟩
      have hb5 : Below w4.heap.size w4 w5 := by rw [hw5]; exact Below.alloc0 _ _
      have HB5 : Hid (Below w2.heap.size w2 w5) := Lib.hid (HB4.out.trans (hb5.mono HB4.out.size))
      have HQ5 : Hid (w5.heap[q]? = some (.cells #[.int .u8 (k : Int), .int .i64 i, .int .i64 b, .int .i64 f, .int .i64 t, .slice a2 n2 c2, .int .i64 c, .int .u64 (dn : Int), .int .u64 (ds : Int)] 57 (0, 0))) := Lib.hid (by rw [hw5, hq]; exact heap_alloc_new w4 _)
      have HP5 : Hid (w5.heap[p]? = some (.cells #[.int .u8 0, .int .i64 0, .int .i64 0, .int .i64 0, .int .i64 0, .slice none 0 0, .int .i64 0, .int .u64 0, .int .u64 0] 57 (0, 0))) := Lib.hid ((HB5.out.block p HZ2.out).trans HP2.out)
      have HRB : Hid (Rd w5 a2 n2 lb) := Lib.hid (HX.out.2.1.later hb5)
      have HPQ : Hid (p < q) := Lib.hid (by rw [hq]; exact Nat.lt_of_lt_of_le HZ2.out HB4.out.size)
      have HLB : Hid (∀ b o, a2 = some ⟨b, o, none⟩ → 0 < n2 → p < b) := Lib.hid fun b o he h0 => by
        obtain ⟨o1, h1⟩ := HX.out.2.2 b o he h0
        exact HLV.out b o1 h1
      clear hw5 hq hb5
      cases B
      · have hQ5 : Q = (rec0 0, 3) := by have := HQ3.out; simpa using this
        subst hQ5
        go_upto_region 9 with fail
        change Code.wp _ _ _ _ (w4.alloc (.cells #[.int .u8 (k : Int), .int .i64 i, .int .i64 b, .int .i64 f, .int .i64 t, .slice a2 n2 c2, .int .i64 c, .int .u64 (dn : Int), .int .u64 (ds : Int)] 57))
        rw [HW5.out.1]
        try rw [HW5.out.2]
        have hpz := HP5.out
        obtain ⟨z0, z1, z2, z3, z4, z5, z6, z7, z8⟩ := rec_cells hpz
        have y0 : w5.frozen? ⟨p, 0, none⟩ = false := by simp [World.frozen?, hpz]
        have y1 : w5.frozen? ⟨p, 1, none⟩ = false := by simp [World.frozen?, hpz]
        have y2 : w5.frozen? ⟨p, 2, none⟩ = false := by simp [World.frozen?, hpz]
        have y3 : w5.frozen? ⟨p, 3, none⟩ = false := by simp [World.frozen?, hpz]
        have y4 : w5.frozen? ⟨p, 4, none⟩ = false := by simp [World.frozen?, hpz]
        have y5 : w5.frozen? ⟨p, 5, none⟩ = false := by simp [World.frozen?, hpz]
        have y6 : w5.frozen? ⟨p, 6, none⟩ = false := by simp [World.frozen?, hpz]
        have y7 : w5.frozen? ⟨p, 7, none⟩ = false := by simp [World.frozen?, hpz]
        have y8 : w5.frozen? ⟨p, 8, none⟩ = false := by simp [World.frozen?, hpz]
        have hput := rec_put (v0 := .int .u8 0) (v1 := .int .i64 0) (v2 := .int .i64 0) (v3 := .int .i64 0) (v4 := .int .i64 0) (v5 := .slice none 0 0) (v6 := .int .i64 0) (v7 := .int .u64 0) (v8 := .int .u64 0) hpz
        rw [put_self hpz] at hput
        have HPUT := Lib.hid hput
        clear hput hpz
        go_wp2_with fail
        rw [HPUT.out]
        refine bodyPost_ret (v := .tuple #[.agg #[.int .u8 0, .int .i64 0, .int .i64 0, .int .i64 0, .int .i64 0, .slice none 0 0, .int .i64 0, .int .u64 0, .int .u64 0], .int .i64 3]) (by simp [results, Try.results34, go_sem, z0, z1, z2, z3, z4, z5, z6, z7, z8]; try rfl) rfl ?_
        refine ⟨none, 0, ⟨0, by simp [rcV, rec0]⟩, Lib.hid ⟨HSV.out.trans (Save.of_below HB5.out _), HRD.out.below ((HB5.out.mono (Nat.le_of_lt HZ2.out)).mono HLE.out), ⟨rfl, by simp [rec0], by omega⟩, fun b o he => by cases he⟩⟩
      · have hQ5 : Q = (⟨k, i, b, f, t, lb, c, dn, ds⟩, 0) := by have := HQ3.out; simpa using this
        subst hQ5
        go_upto_region 9 with fail
        change Code.wp _ _ _ _ (w4.alloc (.cells #[.int .u8 (k : Int), .int .i64 i, .int .i64 b, .int .i64 f, .int .i64 t, .slice a2 n2 c2, .int .i64 c, .int .u64 (dn : Int), .int .u64 (ds : Int)] 57))
        rw [HW5.out.1]
        try rw [HW5.out.2]
        obtain ⟨e0, e1, e2, e3, e4, e5, e6, e7, e8⟩ := rec_cells HQ5.out
        obtain ⟨z0, z1, z2, z3, z4, z5, z6, z7, z8⟩ := rec_cells HP5.out
        have hpz := HP5.out
        have y0 : w5.frozen? ⟨p, 0, none⟩ = false := by simp [World.frozen?, hpz]
        have y1 : w5.frozen? ⟨p, 1, none⟩ = false := by simp [World.frozen?, hpz]
        have y2 : w5.frozen? ⟨p, 2, none⟩ = false := by simp [World.frozen?, hpz]
        have y3 : w5.frozen? ⟨p, 3, none⟩ = false := by simp [World.frozen?, hpz]
        have y4 : w5.frozen? ⟨p, 4, none⟩ = false := by simp [World.frozen?, hpz]
        have y5 : w5.frozen? ⟨p, 5, none⟩ = false := by simp [World.frozen?, hpz]
        have y6 : w5.frozen? ⟨p, 6, none⟩ = false := by simp [World.frozen?, hpz]
        have y7 : w5.frozen? ⟨p, 7, none⟩ = false := by simp [World.frozen?, hpz]
        have y8 : w5.frozen? ⟨p, 8, none⟩ = false := by simp [World.frozen?, hpz]
        have hput := rec_put (v0 := .int .u8 (k : Int)) (v1 := .int .i64 i) (v2 := .int .i64 b) (v3 := .int .i64 f) (v4 := .int .i64 t) (v5 := .slice a2 n2 c2) (v6 := .int .i64 c) (v7 := .int .u64 (dn : Int)) (v8 := .int .u64 (ds : Int)) hpz
        have HPUT := Lib.hid hput
        clear hput hpz
        go_wp2_with fail
        rw [HPUT.out]
        clear z0 z1 z2 z3 z4 z5 z6 z7 z8 y0 y1 y2 y3 y4 y5 y6 y7 y8 e0 e1 e2 e3 e4 e5 e6 e7 e8
        have hp9 := put_same (o := .cells #[.int .u8 (k : Int), .int .i64 i, .int .i64 b, .int .i64 f, .int .i64 t, .slice a2 n2 c2, .int .i64 c, .int .u64 (dn : Int), .int .u64 (ds : Int)] 57 (0, 0)) HP5.out
        have hsv9 : Save [p] w5 (put w5 p (.cells #[.int .u8 (k : Int), .int .i64 i, .int .i64 b, .int .i64 f, .int .i64 t, .slice a2 n2 c2, .int .i64 c, .int .u64 (dn : Int), .int .u64 (ds : Int)] 57 (0, 0))) := (Save.refl _ _).put (by simp) _
        have hbl9 : Below p w5 (put w5 p (.cells #[.int .u8 (k : Int), .int .i64 i, .int .i64 b, .int .i64 f, .int .i64 t, .slice a2 n2 c2, .int .i64 c, .int .u64 (dn : Int), .int .u64 (ds : Int)] 57 (0, 0))) := put_below _ (Nat.le_refl _)
        generalize put w5 p (.cells #[.int .u8 (k : Int), .int .i64 i, .int .i64 b, .int .i64 f, .int .i64 t, .slice a2 n2 c2, .int .i64 c, .int .u64 (dn : Int), .int .u64 (ds : Int)] 57 (0, 0)) = w9 at hp9 hsv9 hbl9 ⊢
        have HF9 : Hid (Save [p] w5 w9 ∧ Below p w5 w9) := Lib.hid ⟨hsv9, hbl9⟩
        clear hsv9 hbl9
        obtain ⟨d0, d1, d2, d3, d4, d5, d6, d7, d8⟩ := rec_cells hp9
        refine bodyPost_ret (v := .tuple #[.agg #[.int .u8 (k : Int), .int .i64 i, .int .i64 b, .int .i64 f, .int .i64 t, .slice a2 n2 c2, .int .i64 c, .int .u64 (dn : Int), .int .u64 (ds : Int)], .int .i64 0]) (by simp [results, Try.results34, go_sem, d0, d1, d2, d3, d4, d5, d6, d7, d8]; try rfl) rfl ?_
        refine ⟨a2, n2, ⟨c2, rfl⟩, Lib.hid ⟨?_, ?_, ?_, fun b o he h0 => Nat.le_of_lt (HLB.out b o he h0)⟩⟩
        · have h1 : Below p w2 w9 := (HB5.out.mono (Nat.le_of_lt HZ2.out)).trans HF9.out.2
          have h2 := HSV.out
          exact ⟨h1.os.trans h2.os, h1.tape.trans h2.tape, h1.output.trans h2.output, Nat.le_trans h2.size h1.size, fun k' hk' hx => (h1.block k' (by have := HW.out.2; omega)).trans (h2.block k' hk' hx)⟩
        · exact HRD.out.below (((HB5.out.mono (Nat.le_of_lt HZ2.out)).trans HF9.out.2).mono HLE.out)
        · rcases Nat.eq_zero_or_pos n2 with h0 | h0
          · exact ⟨HRB.out.1, HRB.out.2.1, by omega⟩
          · refine HRB.out.save HF9.out.1 fun b' o he => ?_
            have := HLB.out b' o he h0
            simp only [List.mem_singleton]
            omega
  · have hE1 : ((E1 : Int) != 0) = true := by simp; omega
    have hQ : Q = (rec0 0, E1) := by have := HRR.out; simpa [hE] using this
    subst hQ
    clear hE
    have hpz := HP2.out
    obtain ⟨z0, z1, z2, z3, z4, z5, z6, z7, z8⟩ := rec_cells hpz
    have y0 : w2.frozen? ⟨p, 0, none⟩ = false := by simp [World.frozen?, hpz]
    have y1 : w2.frozen? ⟨p, 1, none⟩ = false := by simp [World.frozen?, hpz]
    have y2 : w2.frozen? ⟨p, 2, none⟩ = false := by simp [World.frozen?, hpz]
    have y3 : w2.frozen? ⟨p, 3, none⟩ = false := by simp [World.frozen?, hpz]
    have y4 : w2.frozen? ⟨p, 4, none⟩ = false := by simp [World.frozen?, hpz]
    have y5 : w2.frozen? ⟨p, 5, none⟩ = false := by simp [World.frozen?, hpz]
    have y6 : w2.frozen? ⟨p, 6, none⟩ = false := by simp [World.frozen?, hpz]
    have y7 : w2.frozen? ⟨p, 7, none⟩ = false := by simp [World.frozen?, hpz]
    have y8 : w2.frozen? ⟨p, 8, none⟩ = false := by simp [World.frozen?, hpz]
    have hput := rec_put (v0 := .int .u8 0) (v1 := .int .i64 0) (v2 := .int .i64 0) (v3 := .int .i64 0) (v4 := .int .i64 0) (v5 := .slice none 0 0) (v6 := .int .i64 0) (v7 := .int .u64 0) (v8 := .int .u64 0) hpz
    rw [put_self hpz] at hput
    have HPUT := Lib.hid hput
    clear hput hpz
    go_wp2_with fail
    rw [HPUT.out]
    refine bodyPost_ret (v := .tuple #[.agg #[.int .u8 0, .int .i64 0, .int .i64 0, .int .i64 0, .int .i64 0, .slice none 0 0, .int .i64 0, .int .u64 0, .int .u64 0], .int .i64 (E1 : Int)]) (by simp [results, Try.results34, go_sem, z0, z1, z2, z3, z4, z5, z6, z7, z8]; try rfl) rfl ?_
    refine ⟨none, 0, ⟨0, by simp [rcV, rec0]⟩, Lib.hid ⟨HSV.out, HRD.out, ⟨rfl, by simp [rec0], by omega⟩, fun b o he => by cases he⟩⟩

theorem rread_any (w : World) (g E : Nat) (l : List Nat) (h : Rdr w 99 g E l) :
    Calls Try.prog 34 #[.pointer (some ⟨g, 0, none⟩)] w fun e w' => ∃ a2 n2 c2, e = .returned (.tuple #[rcV (rdRec E l).1 a2 n2 c2, .int .i64 ((rdRec E l).2 : Int)]) ∧ Hid (Save [g] w w' ∧ RdrHi w' 99 g (rByt E l 200).2.1 (rByt E l 200).2.2 w.heap.size ∧ Rd w' a2 n2 (rdRec E l).1.l ∧ ∀ b o, a2 = some ⟨b, o, none⟩ → 0 < n2 → w.heap.size ≤ b) :=
  rreadHi_any w g E l w.heap.size h.hi (Nat.le_refl _)

end Go.Proofs.Ytaijldcfoaeogaa

/- A record's bytes are read as it. Plain mathematics. -/
namespace Go.Proofs.Ytaijldcfoaeogaa
open Go.RowKit
set_option linter.unusedSimpArgs false

theorem rNum_enc {x most : Nat} (r : List Nat) (h : x ≤ most) (hx : x < 18446744073709551616) : rNum 0 (vEnc x ++ r) most = (x, 0, r) := by
  obtain ⟨h1, h2, h3⟩ := vRead (n := x) r hx
  rw [rNum_ok h1 (by omega), h2, h3]
  simp

theorem rNum_enc0 {x most : Nat} (h : x ≤ most) (hx : x < 18446744073709551616) : rNum 0 (vEnc x) most = (x, 0, []) := by
  have := rNum_enc (x := x) (most := most) [] h hx
  simpa using this

theorem cand_plain {x : Rec} (hx : x.ok = true) : cand x.plain = (x, true) := by
  rcases Rec.ok_cases hx with ⟨i, b, h1, h2, rfl⟩ | ⟨f, t, l, h1, h2, h3, h4, rfl⟩ | ⟨f, t, h1, h2, rfl⟩ | ⟨c, n, s, h1, h2, h3, rfl⟩
  · have e1 := rNum_enc (x := i) (most := 1099511627776) (vEnc b) h1 (by omega)
    have e2 := rNum_enc0 (x := b) (most := 1099511627776) h2 (by omega)
    have ep : Rec.plain ⟨1, i, b, 0, 0, [], 0, 0, 0⟩ = 1 :: (vEnc i ++ vEnc b) := by simp [Rec.plain]
    rw [ep]
    simp [cand, candH, e1, e2, rEnd]
  · obtain ⟨v1, v2, v3⟩ := vRead (n := f) l (by omega)
    have ep : Rec.plain ⟨2, 0, 0, f, t, l, 0, 0, 0⟩ = 2 :: (vEnc f ++ l) := by simp [Rec.plain]
    rw [ep]
    have e1 : cand (2 :: (vEnc f ++ l)) = candD (vEnc f ++ l) := by simp [cand]
    rw [e1]
    unfold candD
    rw [if_pos ⟨v1, by rw [v3]; omega⟩, v2, v3]
    have e2 : (vEnc f ++ l).drop (vEnc f).length = l := by simp
    have e3 : f + ((vEnc f ++ l).length - (vEnc f).length) / 32 = t := by simp; omega
    rw [e2, e3]
  · have e1 := rNum_enc (x := f) (most := 1099511627776) (vEnc t) (by omega) (by omega)
    have e2 := rNum_enc0 (x := t) (most := 1099511627776) (by omega) (by omega)
    have ep : Rec.plain ⟨3, 0, 0, f, t, [], 0, 0, 0⟩ = 3 :: (vEnc f ++ vEnc t) := by simp [Rec.plain]
    rw [ep]
    simp [cand, candO, e1, e2, rEnd]
  · have e1 := rNum_enc (x := c) (most := 1099511627776) (vEnc n ++ vEnc s) h1 (by omega)
    have e2 := rNum_enc (x := n) (most := 1099511627776) (vEnc s) h2 (by omega)
    have e3 := rNum_enc0 (x := s) (most := 2305843009213693950) (by omega) (by omega)
    have ep : Rec.plain ⟨4, 0, 0, 0, 0, [], c, n, s⟩ = 4 :: (vEnc c ++ (vEnc n ++ vEnc s)) := by simp [Rec.plain]
    rw [ep]
    simp [cand, candT, threeN, e1, e2, e3, rEnd]

theorem rdRec_bytes {x : Rec} (hx : x.ok = true) : rdRec 0 x.bytes = (x, 0) := by
  obtain ⟨l1, l2⟩ := Rec.plain_len hx
  obtain ⟨P, hP⟩ : ∃ P, P = x.plain := ⟨_, rfl⟩
  rw [← hP] at l1 l2
  obtain ⟨Z, hZ⟩ : ∃ Z, Z = P ++ sumB (cSum P) := ⟨_, rfl⟩
  have hZl : Z.length = P.length + 4 := by rw [hZ]; simp [sumB]
  have hb : x.bytes = vEnc Z.length ++ Z := by rw [hZ, hP]; rfl
  have e1 : rByt 0 x.bytes 200 = (Z, 0, []) := by
    have h1 := rNum_enc (x := Z.length) (most := 200) Z (by omega) (by omega)
    rw [hb, rByt_ok h1 (by omega)]
    simp
  have ht : Z.take (Z.length - 4) = P := by rw [hZl, hZ]; simp
  have hs : Sealed Z := by
    refine ⟨by omega, ?_⟩
    rw [ht, hZl, hZ]
    have : (P ++ sumB (cSum P)).drop (P.length + 4 - 4) = sumB (cSum P) := by simp
    rw [this, numB_sumB]
  unfold rdRec
  rw [e1]
  simp only [ne_eq, not_true_eq_false, if_false]
  unfold rdSeal
  rw [if_pos hs, ht, hP, pars_isSome, cand_plain hx, hx]
  rfl

end Go.Proofs.Ytaijldcfoaeogaa

/- Bytes that are a record are its bytes: each record has but one row. Plain mathematics. -/
namespace Go.Proofs.Ytaijldcfoaeogaa
open Go.RowKit
set_option linter.unusedSimpArgs false

theorem rNum_inv {l : List Nat} {m : Nat} (hb : ∀ z ∈ l, z < 256) (h : (rNum 0 l m).2.1 = 0) : l = vEnc (rNum 0 l m).1 ++ (rNum 0 l m).2.2 ∧ (rNum 0 l m).1 < 18446744073709551616 := by
  by_cases h1 : vErr l = 0
  · by_cases h2 : m < vNum l
    · rw [rNum_long h1 h2] at h; simp at h
    · obtain ⟨g1, _, _, _, g5⟩ := vOne hb h1
      rw [rNum_ok h1 h2]
      simp only
      rw [g1, List.take_append_drop]
      exact ⟨rfl, g5⟩
  · rw [rNum_err h1] at h
    exact absurd h h1

theorem rNum_next {E m : Nat} {l : List Nat} (h : (rNum E l m).2.1 = 0) : E = 0 := by
  by_cases hE : E = 0
  · exact hE
  · rw [rNum_failed hE] at h
    exact absurd h hE

theorem rEnd_nil {E : Nat} {l : List Nat} (h : rEnd E l = 0) : E = 0 ∧ l = [] := by
  unfold rEnd at h
  split at h
  · omega
  · split at h
    · rename_i h1 h2
      exact ⟨by omega, h2⟩
    · cases h

/-- Bytes that are a record are what is sealed of it. -/
theorem cand_inv {l : List Nat} (hb : ∀ z ∈ l, z < 256) (h2 : (cand l).2 = true) (hk : (cand l).1.ok = true) : l = (cand l).1.plain := by
  match l, hb, h2, hk with
  | [], _, h2, _ => cases h2
  | k :: r, hb, h2, hk =>
    have hbr : ∀ z ∈ r, z < 256 := fun z hz => hb z (by simp [hz])
    by_cases e2 : k = 2
    · subst e2
      have e : cand (2 :: r) = candD r := by simp [cand]
      rw [e] at h2 hk ⊢
      unfold candD at h2 hk ⊢
      by_cases hg : vErr r = 0 ∧ vNum r < 256
      · rw [if_pos hg]
        obtain ⟨g1, _⟩ := vOne hbr hg.1
        simp only [Rec.plain]
        simp [g1, List.take_append_drop]
      · rw [if_neg hg] at h2; cases h2
    by_cases e1 : k = 1
    · subst e1
      have e : cand (1 :: r) = candH r := by simp [cand]
      rw [e] at h2 hk ⊢
      simp only [candH, decide_eq_true_eq] at h2
      have h4 : (rNum (rNum 0 r 1099511627776).2.1 (rNum 0 r 1099511627776).2.2 1099511627776).2.1 = 0 ∧ (rNum (rNum 0 r 1099511627776).2.1 (rNum 0 r 1099511627776).2.2 1099511627776).2.2 = [] := rEnd_nil h2
      have h5 := rNum_next h4.1
      have h6 := rNum_inv hbr h5
      have hb1 : ∀ z ∈ (rNum 0 r 1099511627776).2.2, z < 256 := rNum_bytes hbr
      rw [h5] at h4
      have h7 := rNum_inv hb1 h4.1
      simp only [candH, Rec.plain]
      rw [h5]
      simp
      rw [h4.2] at h7
      simp at h7
      rw [← h7.1]
      exact h6.1
    by_cases e3 : k = 3
    · subst e3
      have e : cand (3 :: r) = candO r := by simp [cand]
      rw [e] at h2 hk ⊢
      simp only [candO, decide_eq_true_eq] at h2
      have h4 : (rNum (rNum 0 r 1099511627776).2.1 (rNum 0 r 1099511627776).2.2 1099511627776).2.1 = 0 ∧ (rNum (rNum 0 r 1099511627776).2.1 (rNum 0 r 1099511627776).2.2 1099511627776).2.2 = [] := rEnd_nil h2
      have h5 := rNum_next h4.1
      have h6 := rNum_inv hbr h5
      have hb1 : ∀ z ∈ (rNum 0 r 1099511627776).2.2, z < 256 := rNum_bytes hbr
      rw [h5] at h4
      have h7 := rNum_inv hb1 h4.1
      simp only [candO, Rec.plain]
      rw [h5]
      simp
      rw [h4.2] at h7
      simp at h7
      rw [← h7.1]
      exact h6.1
    by_cases e4 : k = 4
    · subst e4
      have e : cand (4 :: r) = candT r := by simp [cand]
      rw [e] at h2 hk ⊢
      simp only [candT] at h2
      have h9 := of_decide_eq_true h2
      simp only [threeN] at h9
      obtain ⟨g1, g2⟩ := rEnd_nil h9
      have g3 := rNum_next g1
      rw [g3] at g1 g2
      have g4 := rNum_next g3
      have h6 := rNum_inv hbr g4
      have hb1 : ∀ z ∈ (rNum 0 r 1099511627776).2.2, z < 256 := rNum_bytes hbr
      rw [g4] at g1 g2 g3
      have h7 := rNum_inv hb1 g3
      have hb2 : ∀ z ∈ (rNum 0 (rNum 0 r 1099511627776).2.2 1099511627776).2.2, z < 256 := rNum_bytes hb1
      have h8 := rNum_inv hb2 g1
      simp only [candT, threeN, Rec.plain]
      rw [g4, g3]
      simp
      rw [g2] at h8
      simp at h8
      rw [← h8.1, ← h7.1]
      exact h6.1
    exfalso
    have : (cand (k :: r)).1 = rec0 k := by simp [cand, e1, e2, e3, e4]
    rw [this] at hk
    simp [Rec.ok, rec0, e1, e2, e3, e4] at hk

end Go.Proofs.Ytaijldcfoaeogaa
