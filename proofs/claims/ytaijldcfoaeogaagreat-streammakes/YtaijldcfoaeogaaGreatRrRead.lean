/- A record that is read, by the document's own Read; over any world. -/
import Derived.Test.YtaijldcfoaeogaaGreatGRcOpenToRrParse
import Derived.Test.YtaijldcfoaeogaaGreatGCheckRefToRefRdrBytesHi
import Derived.Test.YtaijldcfoaeogaaGreatGRcParseDToRcInv
import Derived.Test.YtaijldcfoaeogaaGreatOrders
import Derived.BigRegion
import Derived.BigQuiet
namespace Go.Proofs.YtaijldcfoaeogaaGreat
open Go.RowKit
set_option maxRecDepth 100000
set_option linter.unusedSimpArgs false

/-- The record that sealed bytes are, and what is wrong, by the document. -/
def rfSeal (s : List Nat) : Rec × Nat :=
  if Sealed s then (if refOk (s.take (s.length - 4)) then (refRec (s.take (s.length - 4)), 0) else (rec0 0, 3)) else (rec0 0, 4)

def rfRec (E : Nat) (l : List Nat) : Rec × Nat :=
  if (rByt E l 200).2.1 ≠ 0 then (rec0 0, (rByt E l 200).2.1) else rfSeal (rByt E l 200).1

/-- Both readings are the same. -/
theorem rfSeal_same (s : List Nat) : rfSeal s = rdSeal s := by
  unfold rfSeal rdSeal
  by_cases h : Sealed s
  · rw [if_pos h, if_pos h]
    obtain ⟨P, hP⟩ : ∃ P, P = s.take (s.length - 4) := ⟨_, rfl⟩
    rw [← hP]
    obtain ⟨h1, h2⟩ := ref_same P
    rw [← h1]
    by_cases h3 : refOk P = true
    · rw [if_pos h3, if_pos h3]
      match P, h2, h3 with
      | [], _, h3 => cases h3
      | k :: r, h2, h3 =>
        rw [← h2 h3 k r rfl]
        simp [refRec, h3]
    · rw [if_neg h3, if_neg h3]
  · rw [if_neg h, if_neg h]

theorem rfRec_same (E : Nat) (l : List Nat) : rfRec E l = rdRec E l := by
  unfold rfRec rdRec
  rw [rfSeal_same]

/-- Bytes are sealed ones just if they are what the rest is sealed to. -/
theorem sealed_iff {S : List Nat} (h4 : 4 ≤ S.length) (hb : ∀ z ∈ S, z < 256) : (S.take (S.length - 4) ++ sumB (cSum (S.take (S.length - 4))) = S) ↔ Sealed S := by
  have hd : (S.drop (S.length - 4)).length = 4 := by simp; omega
  have hdb : ∀ z ∈ S.drop (S.length - 4), z < 256 := fun z hz => hb z (List.mem_of_mem_drop hz)
  constructor
  · intro h
    refine ⟨h4, ?_⟩
    have h1 : sumB (cSum (S.take (S.length - 4))) = S.drop (S.length - 4) := by
      have h2 : S.take (S.length - 4) ++ sumB (cSum (S.take (S.length - 4))) = S.take (S.length - 4) ++ S.drop (S.length - 4) := by rw [h, List.take_append_drop]
      exact List.append_cancel_left h2
    rw [← h1, numB_sumB]
  · intro h
    rw [h.2, sumB_numB hd hdb, List.take_append_drop]

set_option maxHeartbeats 4000000 in
set_option maxRecDepth 100000 in
theorem rfreadHi_any (w : World) (g E : Nat) (l : List Nat) (ub : Nat) (h : RdrHi w 95 g E l ub) (hle : ub ≤ w.heap.size) :
    Calls Tryz.prog 33 #[.pointer (some ⟨g, 0, none⟩)] w fun e w' => e = .returned (.tuple #[pcV (rdRec E l).1, .int .i64 ((rdRec E l).2 : Int)]) ∧ Hid (Save [g] w w' ∧ RdrHi w' 95 g (rByt E l 200).2.1 (rByt E l 200).2.2 ub) := by
  obtain ⟨w1, hw1⟩ : ∃ w1, w1 = w.alloc (.cells #[.int .u8 0, .int .i64 0, .int .i64 0, .int .i64 0, .int .i64 0, .string ⟨#[]⟩, .int .i64 0, .int .u64 0, .int .u64 0] 50) := ⟨_, rfl⟩
  obtain ⟨p, hp⟩ : ∃ p, p = w.heap.size := ⟨_, rfl⟩
  have HW : Hid (w.alloc (.cells #[.int .u8 0, .int .i64 0, .int .i64 0, .int .i64 0, .int .i64 0, .string ⟨#[]⟩, .int .i64 0, .int .u64 0, .int .u64 0] 50) = w1 ∧ w.heap.size = p) := Lib.hid ⟨hw1.symm, hp.symm⟩
  have hb1 : Below w.heap.size w w1 := by rw [hw1]; exact Below.alloc0 _ _
  have hh1 : RdrHi w1 95 g E l ub := h.below (hb1.mono hle)
  have HLE : Hid (ub ≤ p) := Lib.hid (by rw [hp]; exact hle)
  have hp1 : w1.heap[p]? = some (.cells #[.int .u8 0, .int .i64 0, .int .i64 0, .int .i64 0, .int .i64 0, .string ⟨#[]⟩, .int .i64 0, .int .u64 0, .int .u64 0] 50 (0, 0)) := by rw [hw1, hp]; exact heap_alloc_new w _
  have hgp : g < p := by obtain ⟨_, _, _, hg, _⟩ := h.rdr; rw [hp]; exact lt_of_block hg
  have hby := refRdrBytesHi_any w1 g E l 200 200 ub (.inl rfl) (by omega) hh1
  have hmx := rNum_max E l 200
  rw [← rfRec_same]
  have HRR : Hid (rfRec E l = if (rByt E l 200).2.1 ≠ 0 then (rec0 0, (rByt E l 200).2.1) else rfSeal (rByt E l 200).1) := Lib.hid rfl
  obtain ⟨⟨S, E1, l1⟩, hY⟩ : ∃ Y, Y = rByt E l 200 := ⟨_, rfl⟩
  rw [← hY] at hby hmx HRR ⊢
  simp only at hby hmx HRR ⊢
  obtain ⟨Q, hQ⟩ : ∃ Q, Q = rfRec E l := ⟨_, rfl⟩
  rw [← hQ] at HRR ⊢
  have HBY := Lib.hid hby
  have HB1 := Lib.hid hb1
  have HP1 := Lib.hid hp1
  have HGP := Lib.hid hgp
  clear hw1 hp hb1 hh1 hp1 hby h hle hY hQ hgp
  go_enter Tryz.func33, Tryz.ntmps33
  go_upto_region 1 with fail
  change Code.wp _ _ _ _ (w.alloc (.cells #[.int .u8 0, .int .i64 0, .int .i64 0, .int .i64 0, .int .i64 0, .string ⟨#[]⟩, .int .i64 0, .int .u64 0, .int .u64 0] 50))
  rw [HW.out.1, HW.out.2]
  go_wp2_with fail
  refine HBY.out.mono ?_
  rintro e w2 ⟨aS, nS, cS, rfl, hcS, hrS, hrd, hgr⟩
  have HRS := Lib.hid hrS
  have hsv1 : Save [g] w1 w2 := ⟨hgr.os, hgr.tape, hgr.output, hgr.size, fun k hk hx => hgr.block k hk (by intro e; injection e with e; exact hx (by simp [e]))⟩
  have hp2 : w2.heap[p]? = some (.cells #[.int .u8 0, .int .i64 0, .int .i64 0, .int .i64 0, .int .i64 0, .string ⟨#[]⟩, .int .i64 0, .int .u64 0, .int .u64 0] 50 (0, 0)) := (hsv1.block p (lt_of_block HP1.out) (by have := HGP.out; simp; omega)).trans HP1.out
  have HSV := Lib.hid ((Save.of_below HB1.out [g]).trans hsv1)
  have HP2 := Lib.hid hp2
  have HZ2 := Lib.hid (lt_of_block hp2)
  have HRDH := Lib.hid hrd
  obtain ⟨aR, nR, cR, hgR, _, _, _⟩ := hrd.rdr
  clear hrd
  have r1 : w2.cell? ⟨g, 1, none⟩ = some (.int .i64 (E1 : Int)) := by simp [World.cell?, hgR]
  clear hsv1 hp2 hgr hrS hgR
  by_cases hE : E1 = 0
  · subst hE
    have hQ : Q = rfSeal S := by have := HRR.out; simpa using this
    have hnS : nS = S.length := HRS.out.1.symm
    by_cases h4 : nS < 4
    · have hQ4 : Q = (rec0 0, 4) := by rw [hQ]; unfold rfSeal; rw [if_neg (fun h => by have := h.1; omega)]
      subst hQ4
      have h4' : (nS : Int) < 4 := by omega
      clear h4 hQ hnS
      go_upto_region 4 with fail
      go_quiet (fail)
      obtain ⟨w3, hw3⟩ : ∃ w3, w3 = w2.drewN nq := ⟨_, rfl⟩
      rw [← hw3]
      have HP3 : Hid (w3.heap[p]? = some (.cells #[.int .u8 0, .int .i64 0, .int .i64 0, .int .i64 0, .int .i64 0, .string ⟨#[]⟩, .int .i64 0, .int .u64 0, .int .u64 0] 50 (0, 0))) := Lib.hid (by rw [hw3]; exact HP2.out)
      have HSV3 : Hid (Save [g] w w3 ∧ RdrHi w3 95 g 0 l1 ub) := Lib.hid ⟨by rw [hw3]; exact HSV.out.drewN _, by rw [hw3]; exact HRDH.out.below ⟨rfl, rfl, rfl, Nat.le_refl _, fun _ _ => rfl⟩⟩
      clear hw3
      have hpz := HP3.out
      obtain ⟨z0, z1, z2, z3, z4, z5, z6, z7, z8⟩ := rec_cells hpz
      have y0 : w3.frozen? ⟨p, 0, none⟩ = false := by simp [World.frozen?, hpz]
      have y1 : w3.frozen? ⟨p, 1, none⟩ = false := by simp [World.frozen?, hpz]
      have y2 : w3.frozen? ⟨p, 2, none⟩ = false := by simp [World.frozen?, hpz]
      have y3 : w3.frozen? ⟨p, 3, none⟩ = false := by simp [World.frozen?, hpz]
      have y4 : w3.frozen? ⟨p, 4, none⟩ = false := by simp [World.frozen?, hpz]
      have y5 : w3.frozen? ⟨p, 5, none⟩ = false := by simp [World.frozen?, hpz]
      have y6 : w3.frozen? ⟨p, 6, none⟩ = false := by simp [World.frozen?, hpz]
      have y7 : w3.frozen? ⟨p, 7, none⟩ = false := by simp [World.frozen?, hpz]
      have y8 : w3.frozen? ⟨p, 8, none⟩ = false := by simp [World.frozen?, hpz]
      have hput := rec_put (v0 := .int .u8 0) (v1 := .int .i64 0) (v2 := .int .i64 0) (v3 := .int .i64 0) (v4 := .int .i64 0) (v5 := .string ⟨#[]⟩) (v6 := .int .i64 0) (v7 := .int .u64 0) (v8 := .int .u64 0) hpz
      rw [put_self hpz] at hput
      have HPUT := Lib.hid hput
      clear hput hpz
      go_wp2_with fail
      rw [HPUT.out]
      refine bodyPost_ret (v := .tuple #[.agg #[.int .u8 0, .int .i64 0, .int .i64 0, .int .i64 0, .int .i64 0, .string ⟨#[]⟩, .int .i64 0, .int .u64 0, .int .u64 0], .int .i64 4]) (by simp [results, Tryz.results33, go_sem, z0, z1, z2, z3, z4, z5, z6, z7, z8]; try rfl) rfl ?_
      exact ⟨by simp [pcV, rec0, strB_nilR], HSV3.out⟩
    · have h4' : decide ((nS : Int) < 4) = false := by simp; omega
      have h4n : 4 ≤ nS := by omega
      clear h4
      obtain ⟨P, hP⟩ : ∃ P, P = S.take (nS - 4) := ⟨_, rfl⟩
      have hcutP : Rd w2 aS (nS - 4) P := by rw [hP]; exact HRS.out.first (by omega)
      have hsl := fun W => slice_to aS nS cS (nS - 4) .i64 (by omega) W
      have hw4 : IntKind.i64.wrap ((nS : Int) - 4) = ((nS - 4 : Nat) : Int) := by rw [IntKind.wrap_i64]; omega
      have hPl : P.length = nS - 4 := hcutP.1
      have hQ2 : Q = if P ++ sumB (cSum P) = S then (if refOk P then (refRec P, 0) else (rec0 0, 3)) else (rec0 0, 4) := by
        rw [hQ]
        unfold rfSeal
        rw [← hnS, ← hP]
        have hiff := sealed_iff (S := S) (by omega) HRS.out.2.1
        rw [← hnS, ← hP] at hiff
        by_cases hs : Sealed S
        · rw [if_pos hs, if_pos (hiff.2 hs)]
        · rw [if_neg hs, if_neg (fun h => hs (hiff.1 h))]
      have HRP := Lib.hid hcutP
      have HSEAL : Hid (∀ W, Below w2.heap.size w2 W → Calls Tryz.prog 50 #[.slice aS (nS - 4) cS] W fun e w' => ∃ v, e = .returned v ∧ Hid (Own w' w2.heap.size v (P ++ sumB (cSum P)) ∧ Below w2.heap.size w2 w')) := by
        refine Lib.hid fun W hW => (refSeal_any aS (nS - 4) cS P W (hcutP.later hW) (by omega)).mono ?_
        rintro e w' ⟨v, rfl, ho, hb⟩
        exact ⟨v, rfl, Lib.hid ⟨ho.mono hW.size, hW.trans (hb.mono hW.size)⟩⟩
      have HPA : Hid (∀ W, Below w2.heap.size w2 W → Calls Tryz.prog 57 #[.slice aS (nS - 4) cS] W fun e w' => e = .returned (.tuple #[pcV (refRec P), .bool (refOk P)]) ∧ Hid (Below w2.heap.size w2 w')) := by
        refine Lib.hid fun W hW => (rparse_any aS (nS - 4) cS P W (hcutP.later hW) (by omega) (by omega)).mono ?_
        rintro e w' ⟨rfl, hb⟩
        exact ⟨rfl, Lib.hid (hW.trans (hb.mono hW.size))⟩
      have HCV : Hid (∀ W, Below w2.heap.size w2 W → (convert 31 9 (.slice aS nS cS)).run Tryz.prog W = .ok (.string (strB S)) W) := Lib.hid fun W hW => conv_rd (HRS.out.later hW) cS
      have HSB := Lib.hid HRS.out.2.1
      have HZB : Hid (∀ z ∈ P ++ sumB (cSum P), z < 256) := Lib.hid (by
        intro z hz
        rcases List.mem_append.1 hz with h | h
        · exact hcutP.2.1 z h
        · exact sumB_byte (cSum_lt P) z h)
      have HQ2 := Lib.hid hQ2
      obtain ⟨Z, hZ⟩ : ∃ Z, Z = P ++ sumB (cSum P) := ⟨_, rfl⟩
      rw [← hZ] at HSEAL HQ2 HZB
      clear hQ hP hcutP hQ2 hZ hnS hPl
      by_cases hzs : Z = S
      · have hs1 : ((strB Z).toList != (strB S).toList) = false := by rw [hzs]; simp
        have hs2 : ((strB Z).toList == (strB S).toList) = true := by rw [hzs]; simp
        have hQ3 : Q = if refOk P then (refRec P, 0) else (rec0 0, 3) := by rw [HQ2.out, if_pos hzs]
        have HQ3 := Lib.hid hQ3
        clear hzs hQ3 HQ2
        go_upto_region 4 with fail
        have H : Hid (Below w2.heap.size w2 w2.drew) := Lib.hid (Below.refl _ _).drew
        refine wp_region_held_drew (S := fun W => Below w2.heap.size w2 W) (by kernel_rfl) H.out (fun _ => ?_)
        obtain ⟨w3, hw3⟩ : ∃ w3, w3 = w2.drew := ⟨_, rfl⟩
        rw [← hw3] at H ⊢
        clear hw3
        refine wpAnyH_take (i := 0) (v := ?vb0) rfl (by kernel_rfl) (by kernel_rfl) (by kernel_rfl) (fun _ _ _ h => h) (Or.inl ⟨by rfl, ?hb0⟩) H.out ?rb0
        case hb0 => (intro W hW; clear hW; go_simp; try with_reducible rfl)
        simp only [Act.put, List.getElem_toArray, List.getElem_cons_succ, List.getElem_cons_zero, List.setIfInBounds_toArray, List.set_cons_zero, List.set_cons_succ]
        refine wpAnyH_take (i := 1) (v := ?vb1) rfl (by kernel_rfl) (by kernel_rfl) (by kernel_rfl) (fun _ _ _ h => h) (Or.inl ⟨by rfl, ?hb1⟩) H.out ?rb1
        case hb1 => (intro W hW; clear hW; go_simp; try with_reducible rfl)
        simp only [Act.put, List.getElem_toArray, List.getElem_cons_succ, List.getElem_cons_zero, List.setIfInBounds_toArray, List.set_cons_zero, List.set_cons_succ]
        refine wpAnyH_take (i := 2) (v := ?vb2) rfl (by kernel_rfl) (by kernel_rfl) (by kernel_rfl) (fun _ _ _ h => h) (Or.inl ⟨by rfl, ?hb2⟩) H.out ?rb2
        case hb2 => (intro W hW; clear hW; go_simp; try with_reducible rfl)
        simp only [Act.put, List.getElem_toArray, List.getElem_cons_succ, List.getElem_cons_zero, List.setIfInBounds_toArray, List.set_cons_zero, List.set_cons_succ]
        refine wpAnyH_take (i := 3) (v := ?vb3) rfl (by kernel_rfl) (by kernel_rfl) (by kernel_rfl) (fun _ _ _ h => h) (Or.inl ⟨by rfl, ?hb3⟩) H.out ?rb3
        case hb3 => (intro W hW; clear hW; go_simp; try with_reducible rfl)
        simp only [Act.put, List.getElem_toArray, List.getElem_cons_succ, List.getElem_cons_zero, List.setIfInBounds_toArray, List.set_cons_zero, List.set_cons_succ]
        refine wpAnyH_take (i := 4) (v := ?vb4) rfl (by kernel_rfl) (by kernel_rfl) (by kernel_rfl) (fun _ _ _ h => h) (Or.inl ⟨by rfl, ?hb4⟩) H.out ?rb4
        case hb4 => (intro W hW; clear hW; go_simp; try with_reducible rfl)
        simp only [Act.put, List.getElem_toArray, List.getElem_cons_succ, List.getElem_cons_zero, List.setIfInBounds_toArray, List.set_cons_zero, List.set_cons_succ]
        refine wpAnyH_take (i := 5) (v := ?vb5) rfl (by kernel_rfl) (by kernel_rfl) (by kernel_rfl) (fun _ _ _ h => h) (Or.inl ⟨by rfl, ?hb5⟩) H.out ?rb5
        case hb5 => (intro W hW; clear hW; go_simp; try with_reducible rfl)
        simp only [Act.put, List.getElem_toArray, List.getElem_cons_succ, List.getElem_cons_zero, List.setIfInBounds_toArray, List.set_cons_zero, List.set_cons_succ]
        refine wpAnyH_take (i := 6) (v := ?vb6) rfl (by kernel_rfl) (by kernel_rfl) (by kernel_rfl) (fun _ _ _ h => h) (Or.inl ⟨by rfl, ?hb6⟩) H.out ?rb6
        case hb6 => (intro W hW; clear hW; go_simp; try with_reducible rfl)
        simp only [Act.put, List.getElem_toArray, List.getElem_cons_succ, List.getElem_cons_zero, List.setIfInBounds_toArray, List.set_cons_zero, List.set_cons_succ]
        refine wpAnyH_take (i := 7) (v := ?vb7) rfl (by kernel_rfl) (by kernel_rfl) (by kernel_rfl) (fun _ _ _ h => h) (Or.inl ⟨by rfl, ?hb7⟩) H.out ?rb7
        case hb7 => (intro W hW; clear hW; go_simp; try with_reducible rfl)
        simp only [Act.put, List.getElem_toArray, List.getElem_cons_succ, List.getElem_cons_zero, List.setIfInBounds_toArray, List.set_cons_zero, List.set_cons_succ]
        refine wpAnyH_take (i := 8) (v := ?vb8) rfl (by kernel_rfl) (by kernel_rfl) (by kernel_rfl) (fun _ _ _ h => h) (Or.inl ⟨by rfl, ?hb8⟩) H.out ?rb8
        case hb8 => (intro W hW; clear hW; go_simp; try with_reducible rfl)
        simp only [Act.put, List.getElem_toArray, List.getElem_cons_succ, List.getElem_cons_zero, List.setIfInBounds_toArray, List.set_cons_zero, List.set_cons_succ]
        refine wpAnyH_take (i := 11) (v := ?vb11) rfl (by kernel_rfl) (by kernel_rfl) (by kernel_rfl) (fun _ _ _ h => h) (Or.inl ⟨by rfl, ?hb11⟩) H.out ?rb11
        case hb11 => (intro W hW; clear hW; go_simp; try with_reducible rfl)
        simp only [Act.put, List.getElem_toArray, List.getElem_cons_succ, List.getElem_cons_zero, List.setIfInBounds_toArray, List.set_cons_zero, List.set_cons_succ]
        refine wpAnyH_take (i := 12) (v := ?vb12) rfl (by kernel_rfl) (by kernel_rfl) (by kernel_rfl) (fun _ _ _ h => h) (Or.inl ⟨by rfl, ?hb12⟩) H.out ?rb12
        case hb12 => (intro W hW; have hcv := HCV.out W hW; clear hW; go_simp; try with_reducible rfl)
        simp only [Act.put, List.getElem_toArray, List.getElem_cons_succ, List.getElem_cons_zero, List.setIfInBounds_toArray, List.set_cons_zero, List.set_cons_succ]
        refine wpAnyH_ready (rs := [9]) (by kernel_rfl) (by simp) ?_
        refine AllReadyH.cons rfl (fun K hK => ?_) AllReadyH.nil
        refine ready_call (f := 50) (vs := #[.slice aS (nS - 4) cS]) (by rfl) (by (go_simp; try with_reducible rfl)) ?_
        refine (HSEAL.out _ H.out).mono ?_
        rintro e w4 ⟨vZ, rfl, HZ⟩
        refine ⟨_, rfl, hK.out _ _ HZ.out.2 (fun _ => ?_)⟩
        clear hK K
        simp only [Act.put, List.getElem_toArray, List.getElem_cons_succ, List.getElem_cons_zero, List.setIfInBounds_toArray, List.set_cons_zero, List.set_cons_succ]
        obtain ⟨aZ, cZ, rfl, hrZ, _⟩ := HZ.out.1.sl
        have HRZ := Lib.hid hrZ
        have HB4 := Lib.hid HZ.out.2
        clear hrZ
        refine wpAnyH_strong (S1 := fun W => Below w4.heap.size w4 W) (fun W hW => HB4.out.trans (hW.mono HB4.out.size)) ?_
        refine wpAnyH_take (i := 10) (v := ?vb10) rfl (by kernel_rfl) (by kernel_rfl) (by kernel_rfl) (fun _ _ _ h => h) (Or.inl ⟨by rfl, ?hb10⟩) (Below.refl _ _) ?rb10
        case hb10 => (intro W hW; have hcv := conv_rd (HRZ.out.later hW) cZ; clear hW; go_simp; try with_reducible rfl)
        simp only [Act.put, List.getElem_toArray, List.getElem_cons_succ, List.getElem_cons_zero, List.setIfInBounds_toArray, List.set_cons_zero, List.set_cons_succ]
        refine wpAnyH_take (i := 13) (v := ?vb13) rfl (by kernel_rfl) (by kernel_rfl) (by kernel_rfl) (fun _ _ _ h => h) (Or.inl ⟨by rfl, ?hb13⟩) (Below.refl _ _) ?rb13
        case hb13 => (intro W hW; clear hW; go_simp; try with_reducible rfl)
        simp only [Act.put, List.getElem_toArray, List.getElem_cons_succ, List.getElem_cons_zero, List.setIfInBounds_toArray, List.set_cons_zero, List.set_cons_succ]
        refine wpAnyH_take (i := 14) (v := ?vb14) rfl (by kernel_rfl) (by kernel_rfl) (by kernel_rfl) (fun _ _ _ h => h) (Or.inl ⟨by rfl, ?hb14⟩) (Below.refl _ _) ?rb14
        case hb14 => (intro W hW; clear hW; go_simp; try with_reducible rfl)
        simp only [Act.put, List.getElem_toArray, List.getElem_cons_succ, List.getElem_cons_zero, List.setIfInBounds_toArray, List.set_cons_zero, List.set_cons_succ]
        refine wpAnyH_done (by kernel_rfl) ?_ _
        clear hs1 hs2
        have HP4 := Lib.hid ((HB4.out.block p HZ2.out).trans HP2.out)
        have hpa := HPA.out w4 HB4.out
        obtain ⟨B, hB⟩ : ∃ B, B = refOk P := ⟨_, rfl⟩
        obtain ⟨⟨k, i, b, f, t, lb, c, dn, ds⟩, hy⟩ : ∃ y, y = refRec P := ⟨_, rfl⟩
        rw [← hB, ← hy] at hpa HQ3
        simp only [pcV] at hpa
        have HPAA := Lib.hid hpa
        clear hpa hB hy HPA HSEAL HCV HZ
        go_wp2_with fail
        refine HPAA.out.mono ?_
        rintro e w5 ⟨rfl, HB5⟩
        obtain ⟨w6, hw6⟩ : ∃ w6, w6 = w5.alloc (.cells #[.int .u8 (k : Int), .int .i64 i, .int .i64 b, .int .i64 f, .int .i64 t, .string (strB lb), .int .i64 c, .int .u64 (dn : Int), .int .u64 (ds : Int)] 50) := ⟨_, rfl⟩
        obtain ⟨q, hq⟩ : ∃ q, q = w5.heap.size := ⟨_, rfl⟩
        have HW6 : Hid (w5.alloc (.cells #[.int .u8 (k : Int), .int .i64 i, .int .i64 b, .int .i64 f, .int .i64 t, .string (strB lb), .int .i64 c, .int .u64 (dn : Int), .int .u64 (ds : Int)] 50) = w6 ∧ w5.heap.size = q) := Lib.hid ⟨hw6.symm, hq.symm⟩
        have hb6 : Below w5.heap.size w5 w6 := by rw [hw6]; exact Below.alloc0 _ _
        have HB6 : Hid (Below w2.heap.size w2 w6) := Lib.hid (HB5.out.trans (hb6.mono HB5.out.size))
        have HQ6 : Hid (w6.heap[q]? = some (.cells #[.int .u8 (k : Int), .int .i64 i, .int .i64 b, .int .i64 f, .int .i64 t, .string (strB lb), .int .i64 c, .int .u64 (dn : Int), .int .u64 (ds : Int)] 50 (0, 0))) := Lib.hid (by rw [hw6, hq]; exact heap_alloc_new w5 _)
        have HP6 : Hid (w6.heap[p]? = some (.cells #[.int .u8 0, .int .i64 0, .int .i64 0, .int .i64 0, .int .i64 0, .string ⟨#[]⟩, .int .i64 0, .int .u64 0, .int .u64 0] 50 (0, 0))) := Lib.hid ((HB6.out.block p HZ2.out).trans HP2.out)
        clear hw6 hq hb6
        cases B
        · have hQ5 : Q = (rec0 0, 3) := by have := HQ3.out; simpa using this
          subst hQ5
          go_upto_region 7 with fail
          change Code.wp _ _ _ _ (w5.alloc (.cells #[.int .u8 (k : Int), .int .i64 i, .int .i64 b, .int .i64 f, .int .i64 t, .string (strB lb), .int .i64 c, .int .u64 (dn : Int), .int .u64 (ds : Int)] 50))
          rw [HW6.out.1]
          try rw [HW6.out.2]
          have hpz := HP6.out
          obtain ⟨z0, z1, z2, z3, z4, z5, z6, z7, z8⟩ := rec_cells hpz
          have y0 : w6.frozen? ⟨p, 0, none⟩ = false := by simp [World.frozen?, hpz]
          have y1 : w6.frozen? ⟨p, 1, none⟩ = false := by simp [World.frozen?, hpz]
          have y2 : w6.frozen? ⟨p, 2, none⟩ = false := by simp [World.frozen?, hpz]
          have y3 : w6.frozen? ⟨p, 3, none⟩ = false := by simp [World.frozen?, hpz]
          have y4 : w6.frozen? ⟨p, 4, none⟩ = false := by simp [World.frozen?, hpz]
          have y5 : w6.frozen? ⟨p, 5, none⟩ = false := by simp [World.frozen?, hpz]
          have y6 : w6.frozen? ⟨p, 6, none⟩ = false := by simp [World.frozen?, hpz]
          have y7 : w6.frozen? ⟨p, 7, none⟩ = false := by simp [World.frozen?, hpz]
          have y8 : w6.frozen? ⟨p, 8, none⟩ = false := by simp [World.frozen?, hpz]
          have hput := rec_put (v0 := .int .u8 0) (v1 := .int .i64 0) (v2 := .int .i64 0) (v3 := .int .i64 0) (v4 := .int .i64 0) (v5 := .string ⟨#[]⟩) (v6 := .int .i64 0) (v7 := .int .u64 0) (v8 := .int .u64 0) hpz
          rw [put_self hpz] at hput
          have HPUT := Lib.hid hput
          clear hput hpz
          go_wp2_with fail
          rw [HPUT.out]
          refine bodyPost_ret (v := .tuple #[.agg #[.int .u8 0, .int .i64 0, .int .i64 0, .int .i64 0, .int .i64 0, .string ⟨#[]⟩, .int .i64 0, .int .u64 0, .int .u64 0], .int .i64 3]) (by simp [results, Tryz.results33, go_sem, z0, z1, z2, z3, z4, z5, z6, z7, z8]; try rfl) rfl ?_
          exact ⟨by simp [pcV, rec0, strB_nilR], HSV.out.trans (Save.of_below HB6.out _), HRDH.out.below ((HB6.out.mono (Nat.le_of_lt HZ2.out)).mono HLE.out)⟩
        · have hQ5 : Q = (⟨k, i, b, f, t, lb, c, dn, ds⟩, 0) := by have := HQ3.out; simpa using this
          subst hQ5
          go_upto_region 7 with fail
          change Code.wp _ _ _ _ (w5.alloc (.cells #[.int .u8 (k : Int), .int .i64 i, .int .i64 b, .int .i64 f, .int .i64 t, .string (strB lb), .int .i64 c, .int .u64 (dn : Int), .int .u64 (ds : Int)] 50))
          rw [HW6.out.1]
          try rw [HW6.out.2]
          obtain ⟨e0, e1, e2, e3, e4, e5, e6, e7, e8⟩ := rec_cells HQ6.out
          obtain ⟨z0, z1, z2, z3, z4, z5, z6, z7, z8⟩ := rec_cells HP6.out
          have hpz := HP6.out
          have y0 : w6.frozen? ⟨p, 0, none⟩ = false := by simp [World.frozen?, hpz]
          have y1 : w6.frozen? ⟨p, 1, none⟩ = false := by simp [World.frozen?, hpz]
          have y2 : w6.frozen? ⟨p, 2, none⟩ = false := by simp [World.frozen?, hpz]
          have y3 : w6.frozen? ⟨p, 3, none⟩ = false := by simp [World.frozen?, hpz]
          have y4 : w6.frozen? ⟨p, 4, none⟩ = false := by simp [World.frozen?, hpz]
          have y5 : w6.frozen? ⟨p, 5, none⟩ = false := by simp [World.frozen?, hpz]
          have y6 : w6.frozen? ⟨p, 6, none⟩ = false := by simp [World.frozen?, hpz]
          have y7 : w6.frozen? ⟨p, 7, none⟩ = false := by simp [World.frozen?, hpz]
          have y8 : w6.frozen? ⟨p, 8, none⟩ = false := by simp [World.frozen?, hpz]
          have hput := rec_put (v0 := .int .u8 (k : Int)) (v1 := .int .i64 i) (v2 := .int .i64 b) (v3 := .int .i64 f) (v4 := .int .i64 t) (v5 := .string (strB lb)) (v6 := .int .i64 c) (v7 := .int .u64 (dn : Int)) (v8 := .int .u64 (ds : Int)) hpz
          have HPUT := Lib.hid hput
          clear hput hpz
          go_wp2_with fail
          rw [HPUT.out]
          clear z0 z1 z2 z3 z4 z5 z6 z7 z8 y0 y1 y2 y3 y4 y5 y6 y7 y8 e0 e1 e2 e3 e4 e5 e6 e7 e8
          have hp9 := put_same (o := .cells #[.int .u8 (k : Int), .int .i64 i, .int .i64 b, .int .i64 f, .int .i64 t, .string (strB lb), .int .i64 c, .int .u64 (dn : Int), .int .u64 (ds : Int)] 50 (0, 0)) HP6.out
          have h1 : Below p w2 (put w6 p (.cells #[.int .u8 (k : Int), .int .i64 i, .int .i64 b, .int .i64 f, .int .i64 t, .string (strB lb), .int .i64 c, .int .u64 (dn : Int), .int .u64 (ds : Int)] 50 (0, 0))) := (HB6.out.mono (Nat.le_of_lt HZ2.out)).trans (put_below _ (Nat.le_refl _))
          have h2 := HSV.out
          have hsv9 : Save [g] w (put w6 p (.cells #[.int .u8 (k : Int), .int .i64 i, .int .i64 b, .int .i64 f, .int .i64 t, .string (strB lb), .int .i64 c, .int .u64 (dn : Int), .int .u64 (ds : Int)] 50 (0, 0))) := ⟨h1.os.trans h2.os, h1.tape.trans h2.tape, h1.output.trans h2.output, Nat.le_trans h2.size h1.size, fun k' hk' hx => (h1.block k' (by have := HW.out.2; omega)).trans (h2.block k' hk' hx)⟩
          have hrd9 := HRDH.out.below (h1.mono HLE.out)
          clear h1 h2
          generalize put w6 p (.cells #[.int .u8 (k : Int), .int .i64 i, .int .i64 b, .int .i64 f, .int .i64 t, .string (strB lb), .int .i64 c, .int .u64 (dn : Int), .int .u64 (ds : Int)] 50 (0, 0)) = w9 at hp9 hsv9 hrd9 ⊢
          have HF9 := Lib.hid (And.intro hsv9 hrd9)
          clear hsv9 hrd9
          obtain ⟨d0, d1, d2, d3, d4, d5, d6, d7, d8⟩ := rec_cells hp9
          refine bodyPost_ret (v := .tuple #[.agg #[.int .u8 (k : Int), .int .i64 i, .int .i64 b, .int .i64 f, .int .i64 t, .string (strB lb), .int .i64 c, .int .u64 (dn : Int), .int .u64 (ds : Int)], .int .i64 0]) (by simp [results, Tryz.results33, go_sem, d0, d1, d2, d3, d4, d5, d6, d7, d8]; try rfl) rfl ?_
          exact ⟨by simp [pcV], HF9.out⟩
      · have hne : ¬ (strB Z).toList = (strB S).toList := by
          intro h
          have h1 := strB_sameC (A := Z) (B := S) (fun z hz => HZB.out z hz) HSB.out
          rw [decide_eq_false hzs] at h1
          simp [h] at h1
        have hs1 : ((strB Z).toList != (strB S).toList) = true := by simpa using hne
        have hs2 : ((strB Z).toList == (strB S).toList) = false := by simpa using hne
        have hQ3 : Q = (rec0 0, 4) := by rw [HQ2.out, if_neg hzs]
        subst hQ3
        clear hzs hne HQ2
        go_upto_region 4 with fail
        have H : Hid (Below w2.heap.size w2 w2.drew) := Lib.hid (Below.refl _ _).drew
        refine wp_region_held_drew (S := fun W => Below w2.heap.size w2 W) (by kernel_rfl) H.out (fun _ => ?_)
        obtain ⟨w3, hw3⟩ : ∃ w3, w3 = w2.drew := ⟨_, rfl⟩
        rw [← hw3] at H ⊢
        clear hw3
        refine wpAnyH_take (i := 0) (v := ?va0) rfl (by kernel_rfl) (by kernel_rfl) (by kernel_rfl) (fun _ _ _ h => h) (Or.inl ⟨by rfl, ?ha0⟩) H.out ?ra0
        case ha0 => (intro W hW; clear hW; go_simp; try with_reducible rfl)
        simp only [Act.put, List.getElem_toArray, List.getElem_cons_succ, List.getElem_cons_zero, List.setIfInBounds_toArray, List.set_cons_zero, List.set_cons_succ]
        refine wpAnyH_take (i := 1) (v := ?va1) rfl (by kernel_rfl) (by kernel_rfl) (by kernel_rfl) (fun _ _ _ h => h) (Or.inl ⟨by rfl, ?ha1⟩) H.out ?ra1
        case ha1 => (intro W hW; clear hW; go_simp; try with_reducible rfl)
        simp only [Act.put, List.getElem_toArray, List.getElem_cons_succ, List.getElem_cons_zero, List.setIfInBounds_toArray, List.set_cons_zero, List.set_cons_succ]
        refine wpAnyH_take (i := 2) (v := ?va2) rfl (by kernel_rfl) (by kernel_rfl) (by kernel_rfl) (fun _ _ _ h => h) (Or.inl ⟨by rfl, ?ha2⟩) H.out ?ra2
        case ha2 => (intro W hW; clear hW; go_simp; try with_reducible rfl)
        simp only [Act.put, List.getElem_toArray, List.getElem_cons_succ, List.getElem_cons_zero, List.setIfInBounds_toArray, List.set_cons_zero, List.set_cons_succ]
        refine wpAnyH_take (i := 3) (v := ?va3) rfl (by kernel_rfl) (by kernel_rfl) (by kernel_rfl) (fun _ _ _ h => h) (Or.inl ⟨by rfl, ?ha3⟩) H.out ?ra3
        case ha3 => (intro W hW; clear hW; go_simp; try with_reducible rfl)
        simp only [Act.put, List.getElem_toArray, List.getElem_cons_succ, List.getElem_cons_zero, List.setIfInBounds_toArray, List.set_cons_zero, List.set_cons_succ]
        refine wpAnyH_take (i := 4) (v := ?va4) rfl (by kernel_rfl) (by kernel_rfl) (by kernel_rfl) (fun _ _ _ h => h) (Or.inl ⟨by rfl, ?ha4⟩) H.out ?ra4
        case ha4 => (intro W hW; clear hW; go_simp; try with_reducible rfl)
        simp only [Act.put, List.getElem_toArray, List.getElem_cons_succ, List.getElem_cons_zero, List.setIfInBounds_toArray, List.set_cons_zero, List.set_cons_succ]
        refine wpAnyH_take (i := 5) (v := ?va5) rfl (by kernel_rfl) (by kernel_rfl) (by kernel_rfl) (fun _ _ _ h => h) (Or.inl ⟨by rfl, ?ha5⟩) H.out ?ra5
        case ha5 => (intro W hW; clear hW; go_simp; try with_reducible rfl)
        simp only [Act.put, List.getElem_toArray, List.getElem_cons_succ, List.getElem_cons_zero, List.setIfInBounds_toArray, List.set_cons_zero, List.set_cons_succ]
        refine wpAnyH_take (i := 6) (v := ?va6) rfl (by kernel_rfl) (by kernel_rfl) (by kernel_rfl) (fun _ _ _ h => h) (Or.inl ⟨by rfl, ?ha6⟩) H.out ?ra6
        case ha6 => (intro W hW; clear hW; go_simp; try with_reducible rfl)
        simp only [Act.put, List.getElem_toArray, List.getElem_cons_succ, List.getElem_cons_zero, List.setIfInBounds_toArray, List.set_cons_zero, List.set_cons_succ]
        refine wpAnyH_take (i := 7) (v := ?va7) rfl (by kernel_rfl) (by kernel_rfl) (by kernel_rfl) (fun _ _ _ h => h) (Or.inl ⟨by rfl, ?ha7⟩) H.out ?ra7
        case ha7 => (intro W hW; clear hW; go_simp; try with_reducible rfl)
        simp only [Act.put, List.getElem_toArray, List.getElem_cons_succ, List.getElem_cons_zero, List.setIfInBounds_toArray, List.set_cons_zero, List.set_cons_succ]
        refine wpAnyH_take (i := 8) (v := ?va8) rfl (by kernel_rfl) (by kernel_rfl) (by kernel_rfl) (fun _ _ _ h => h) (Or.inl ⟨by rfl, ?ha8⟩) H.out ?ra8
        case ha8 => (intro W hW; clear hW; go_simp; try with_reducible rfl)
        simp only [Act.put, List.getElem_toArray, List.getElem_cons_succ, List.getElem_cons_zero, List.setIfInBounds_toArray, List.set_cons_zero, List.set_cons_succ]
        refine wpAnyH_take (i := 11) (v := ?va11) rfl (by kernel_rfl) (by kernel_rfl) (by kernel_rfl) (fun _ _ _ h => h) (Or.inl ⟨by rfl, ?ha11⟩) H.out ?ra11
        case ha11 => (intro W hW; clear hW; go_simp; try with_reducible rfl)
        simp only [Act.put, List.getElem_toArray, List.getElem_cons_succ, List.getElem_cons_zero, List.setIfInBounds_toArray, List.set_cons_zero, List.set_cons_succ]
        refine wpAnyH_take (i := 12) (v := ?va12) rfl (by kernel_rfl) (by kernel_rfl) (by kernel_rfl) (fun _ _ _ h => h) (Or.inl ⟨by rfl, ?ha12⟩) H.out ?ra12
        case ha12 => (intro W hW; have hcv := HCV.out W hW; clear hW; go_simp; try with_reducible rfl)
        simp only [Act.put, List.getElem_toArray, List.getElem_cons_succ, List.getElem_cons_zero, List.setIfInBounds_toArray, List.set_cons_zero, List.set_cons_succ]
        refine wpAnyH_ready (rs := [9]) (by kernel_rfl) (by simp) ?_
        refine AllReadyH.cons rfl (fun K hK => ?_) AllReadyH.nil
        refine ready_call (f := 50) (vs := #[.slice aS (nS - 4) cS]) (by rfl) (by (go_simp; try with_reducible rfl)) ?_
        refine (HSEAL.out _ H.out).mono ?_
        rintro e w4 ⟨vZ, rfl, HZ⟩
        refine ⟨_, rfl, hK.out _ _ HZ.out.2 (fun _ => ?_)⟩
        clear hK K
        simp only [Act.put, List.getElem_toArray, List.getElem_cons_succ, List.getElem_cons_zero, List.setIfInBounds_toArray, List.set_cons_zero, List.set_cons_succ]
        obtain ⟨aZ, cZ, rfl, hrZ, _⟩ := HZ.out.1.sl
        have HRZ := Lib.hid hrZ
        have HB4 := Lib.hid HZ.out.2
        clear hrZ
        refine wpAnyH_strong (S1 := fun W => Below w4.heap.size w4 W) (fun W hW => HB4.out.trans (hW.mono HB4.out.size)) ?_
        refine wpAnyH_take (i := 10) (v := ?va10) rfl (by kernel_rfl) (by kernel_rfl) (by kernel_rfl) (fun _ _ _ h => h) (Or.inl ⟨by rfl, ?ha10⟩) (Below.refl _ _) ?ra10
        case ha10 => (intro W hW; have hcv := conv_rd (HRZ.out.later hW) cZ; clear hW; go_simp; try with_reducible rfl)
        simp only [Act.put, List.getElem_toArray, List.getElem_cons_succ, List.getElem_cons_zero, List.setIfInBounds_toArray, List.set_cons_zero, List.set_cons_succ]
        refine wpAnyH_take (i := 13) (v := ?va13) rfl (by kernel_rfl) (by kernel_rfl) (by kernel_rfl) (fun _ _ _ h => h) (Or.inl ⟨by rfl, ?ha13⟩) (Below.refl _ _) ?ra13
        case ha13 => (intro W hW; clear hW; go_simp; try with_reducible rfl)
        simp only [Act.put, List.getElem_toArray, List.getElem_cons_succ, List.getElem_cons_zero, List.setIfInBounds_toArray, List.set_cons_zero, List.set_cons_succ]
        refine wpAnyH_take (i := 14) (v := ?va14) rfl (by kernel_rfl) (by kernel_rfl) (by kernel_rfl) (fun _ _ _ h => h) (Or.inl ⟨by rfl, ?ha14⟩) (Below.refl _ _) ?ra14
        case ha14 => (intro W hW; clear hW; go_simp; try with_reducible rfl)
        simp only [Act.put, List.getElem_toArray, List.getElem_cons_succ, List.getElem_cons_zero, List.setIfInBounds_toArray, List.set_cons_zero, List.set_cons_succ]
        refine wpAnyH_done (by kernel_rfl) ?_ _
        have HP4 := Lib.hid ((HB4.out.block p HZ2.out).trans HP2.out)
        clear hs1 hs2
        have hpz := HP4.out
        obtain ⟨z0, z1, z2, z3, z4, z5, z6, z7, z8⟩ := rec_cells hpz
        have y0 : w4.frozen? ⟨p, 0, none⟩ = false := by simp [World.frozen?, hpz]
        have y1 : w4.frozen? ⟨p, 1, none⟩ = false := by simp [World.frozen?, hpz]
        have y2 : w4.frozen? ⟨p, 2, none⟩ = false := by simp [World.frozen?, hpz]
        have y3 : w4.frozen? ⟨p, 3, none⟩ = false := by simp [World.frozen?, hpz]
        have y4 : w4.frozen? ⟨p, 4, none⟩ = false := by simp [World.frozen?, hpz]
        have y5 : w4.frozen? ⟨p, 5, none⟩ = false := by simp [World.frozen?, hpz]
        have y6 : w4.frozen? ⟨p, 6, none⟩ = false := by simp [World.frozen?, hpz]
        have y7 : w4.frozen? ⟨p, 7, none⟩ = false := by simp [World.frozen?, hpz]
        have y8 : w4.frozen? ⟨p, 8, none⟩ = false := by simp [World.frozen?, hpz]
        have hput := rec_put (v0 := .int .u8 0) (v1 := .int .i64 0) (v2 := .int .i64 0) (v3 := .int .i64 0) (v4 := .int .i64 0) (v5 := .string ⟨#[]⟩) (v6 := .int .i64 0) (v7 := .int .u64 0) (v8 := .int .u64 0) hpz
        rw [put_self hpz] at hput
        have HPUT := Lib.hid hput
        clear hput hpz
        go_wp2_with fail
        rw [HPUT.out]
        refine bodyPost_ret (v := .tuple #[.agg #[.int .u8 0, .int .i64 0, .int .i64 0, .int .i64 0, .int .i64 0, .string ⟨#[]⟩, .int .i64 0, .int .u64 0, .int .u64 0], .int .i64 4]) (by simp [results, Tryz.results33, go_sem, z0, z1, z2, z3, z4, z5, z6, z7, z8]; try rfl) rfl ?_
        exact ⟨by simp [pcV, rec0, strB_nilR], HSV.out.trans (Save.of_below HB4.out _), HRDH.out.below ((HB4.out.mono (Nat.le_of_lt HZ2.out)).mono HLE.out)⟩
  · have hE1 : ((E1 : Int) != 0) = true := by simp; omega
    have hQ : Q = (rec0 0, E1) := by have := HRR.out; simpa [hE] using this
    subst hQ
    clear hE
    have HR1 := Lib.hid r1
    go_upto_region 3 with fail
    have H : Hid (w2.drew.cell? ⟨g, 1, none⟩ = some (.int .i64 (E1 : Int))) := Lib.hid r1
    refine wp_region_held_drew (S := fun W => W.cell? ⟨g, 1, none⟩ = some (.int .i64 (E1 : Int))) (by kernel_rfl) H.out (fun _ => ?_)
    refine wpAnyH_take (i := 0) (v := ?vz0) rfl (by kernel_rfl) (by kernel_rfl) (by kernel_rfl) (fun _ _ _ h => h) (Or.inl ⟨by rfl, ?hz0⟩) H.out ?rz0
    case hz0 => (intro W hW; (try dsimp only at hW); go_simp; try with_reducible rfl)
    simp only [Act.put, List.getElem_toArray, List.getElem_cons_succ, List.getElem_cons_zero, List.setIfInBounds_toArray, List.set_cons_zero, List.set_cons_succ]
    refine wpAnyH_take (i := 1) (v := ?vz1) rfl (by kernel_rfl) (by kernel_rfl) (by kernel_rfl) (fun _ _ _ h => h) (Or.inl ⟨by rfl, ?hz1⟩) H.out ?rz1
    case hz1 => (intro W hW; (try dsimp only at hW); go_simp; try with_reducible rfl)
    simp only [Act.put, List.getElem_toArray, List.getElem_cons_succ, List.getElem_cons_zero, List.setIfInBounds_toArray, List.set_cons_zero, List.set_cons_succ]
    refine wpAnyH_take (i := 2) (v := ?vz2) rfl (by kernel_rfl) (by kernel_rfl) (by kernel_rfl) (fun _ _ _ h => h) (Or.inl ⟨by rfl, ?hz2⟩) H.out ?rz2
    case hz2 => (intro W hW; (try dsimp only at hW); go_simp; try with_reducible rfl)
    simp only [Act.put, List.getElem_toArray, List.getElem_cons_succ, List.getElem_cons_zero, List.setIfInBounds_toArray, List.set_cons_zero, List.set_cons_succ]
    refine wpAnyH_take (i := 3) (v := ?vz3) rfl (by kernel_rfl) (by kernel_rfl) (by kernel_rfl) (fun _ _ _ h => h) (Or.inl ⟨by rfl, ?hz3⟩) H.out ?rz3
    case hz3 => (intro W hW; (try dsimp only at hW); go_simp; try with_reducible rfl)
    simp only [Act.put, List.getElem_toArray, List.getElem_cons_succ, List.getElem_cons_zero, List.setIfInBounds_toArray, List.set_cons_zero, List.set_cons_succ]
    refine wpAnyH_take (i := 4) (v := ?vz4) rfl (by kernel_rfl) (by kernel_rfl) (by kernel_rfl) (fun _ _ _ h => h) (Or.inl ⟨by rfl, ?hz4⟩) H.out ?rz4
    case hz4 => (intro W hW; (try dsimp only at hW); go_simp; try with_reducible rfl)
    simp only [Act.put, List.getElem_toArray, List.getElem_cons_succ, List.getElem_cons_zero, List.setIfInBounds_toArray, List.set_cons_zero, List.set_cons_succ]
    refine wpAnyH_ready (rs := [5]) (by kernel_rfl) (by simp) ?_
    refine AllReadyH.cons rfl (fun K hK => ?_) AllReadyH.nil
    refine ready_skp (w' := w2.drew) (by rfl) ?hsto ?_
    case hsto =>
      have h9 := HP2.out
      obtain ⟨z0, z1, z2, z3, z4, z5, z6, z7, z8⟩ := rec_cells h9
      have y0 : w2.frozen? ⟨p, 0, none⟩ = false := by simp [World.frozen?, h9]
      have y1 : w2.frozen? ⟨p, 1, none⟩ = false := by simp [World.frozen?, h9]
      have y2 : w2.frozen? ⟨p, 2, none⟩ = false := by simp [World.frozen?, h9]
      have y3 : w2.frozen? ⟨p, 3, none⟩ = false := by simp [World.frozen?, h9]
      have y4 : w2.frozen? ⟨p, 4, none⟩ = false := by simp [World.frozen?, h9]
      have y5 : w2.frozen? ⟨p, 5, none⟩ = false := by simp [World.frozen?, h9]
      have y6 : w2.frozen? ⟨p, 6, none⟩ = false := by simp [World.frozen?, h9]
      have y7 : w2.frozen? ⟨p, 7, none⟩ = false := by simp [World.frozen?, h9]
      have y8 : w2.frozen? ⟨p, 8, none⟩ = false := by simp [World.frozen?, h9]
      have h8 := rec_put (v0 := .int .u8 0) (v1 := .int .i64 0) (v2 := .int .i64 0) (v3 := .int .i64 0) (v4 := .int .i64 0) (v5 := .string ⟨#[]⟩) (v6 := .int .i64 0) (v7 := .int .u64 0) (v8 := .int .u64 0) h9
      rw [put_self h9] at h8
      have H8 := Lib.hid h8
      clear h8 h9
      go_simp
      exact congrArg World.drew H8.out
    refine hK.out _ _ H.out (fun _ => ?_)
    clear hK K
    simp only [Act.put, List.getElem_toArray, List.getElem_cons_succ, List.getElem_cons_zero, List.setIfInBounds_toArray, List.set_cons_zero, List.set_cons_succ]
    refine wpAnyH_take (i := 6) (v := ?vz6) rfl (by kernel_rfl) (by kernel_rfl) (by kernel_rfl) (fun _ _ _ h => h) (Or.inl ⟨by rfl, ?hz6⟩) H.out ?rz6
    case hz6 => (intro W hW; (try dsimp only at hW); go_simp; try with_reducible rfl)
    simp only [Act.put, List.getElem_toArray, List.getElem_cons_succ, List.getElem_cons_zero, List.setIfInBounds_toArray, List.set_cons_zero, List.set_cons_succ]
    refine wpAnyH_done (by kernel_rfl) ?_ _
    obtain ⟨w9, hw9⟩ : ∃ w9, w9 = w2.drew := ⟨_, rfl⟩
    rw [← hw9]
    have hp9 : w9.heap[p]? = some (.cells #[.int .u8 0, .int .i64 0, .int .i64 0, .int .i64 0, .int .i64 0, .string ⟨#[]⟩, .int .i64 0, .int .u64 0, .int .u64 0] 50 (0, 0)) := by rw [hw9]; exact HP2.out
    have HF9 : Hid (Save [g] w w9 ∧ RdrHi w9 95 g E1 l1 ub) := Lib.hid ⟨by rw [hw9]; exact HSV.out.drew, by rw [hw9]; exact HRDH.out.below (Below.refl _ _).drew⟩
    clear hw9
    obtain ⟨d0, d1, d2, d3, d4, d5, d6, d7, d8⟩ := rec_cells hp9
    go_wp2_with fail
    refine bodyPost_ret (v := .tuple #[.agg #[.int .u8 0, .int .i64 0, .int .i64 0, .int .i64 0, .int .i64 0, .string ⟨#[]⟩, .int .i64 0, .int .u64 0, .int .u64 0], .int .i64 (E1 : Int)]) (by simp [results, Tryz.results33, go_sem, d0, d1, d2, d3, d4, d5, d6, d7, d8]; try rfl) rfl ?_
    exact ⟨by simp [pcV, rec0, strB_nilR], HF9.out⟩

theorem rfread_any (w : World) (g E : Nat) (l : List Nat) (h : Rdr w 95 g E l) :
    Calls Tryz.prog 33 #[.pointer (some ⟨g, 0, none⟩)] w fun e w' => e = .returned (.tuple #[pcV (rdRec E l).1, .int .i64 ((rdRec E l).2 : Int)]) ∧ Hid (Save [g] w w') :=
  (rfreadHi_any w g E l w.heap.size h.hi (Nat.le_refl _)).mono fun _ _ ⟨h1, h2⟩ => ⟨h1, Lib.hid h2.out.1⟩

end Go.Proofs.YtaijldcfoaeogaaGreat
