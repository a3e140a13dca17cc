/- What is sealed, by the document's own open; over any world. -/
import Derived.Test.YtkfnjekeegebaaaLbMath
import Derived.Test.YtkfnjekeegebaaaCheckRef
import Derived.Test.YtkfnjekeegebaaaOrders
import Derived.Test.YtkfnjekeegebaaaReadyC
import Derived.BigRegion
import Derived.BigQuiet
import Derived.Deep.DeepCutAuto
import Derived.Deep.CutBlock
import Derived.Deep.RegionHeld3
namespace Go.Proofs.Ytkfnjekeegebaaa
open Go.RowKit
set_option linter.unusedSimpArgs false

/-- Bytes are sealed ones just if they are what the rest is sealed to. -/
theorem sealed_iff {S : List Nat} (h4 : 4 ≤ S.length) (hb : ∀ z ∈ S, z < 256) : (S.take (S.length - 4) ++ sumB (cSum (S.take (S.length - 4))) = S) ↔ Sealed S := by
  have hd : (S.drop (S.length - 4)).length = 4 := by simp; omega
  have hdb : ∀ z ∈ S.drop (S.length - 4), z < 256 := fun z hz => hb z (List.mem_of_mem_drop hz)
  constructor
  · intro h
    refine ⟨h4, ?_⟩
    have h1 : sumB (cSum (S.take (S.length - 4))) = S.drop (S.length - 4) := by
      have h2 : S.take (S.length - 4) ++ sumB (cSum (S.take (S.length - 4))) = S.take (S.length - 4) ++ S.drop (S.length - 4) := by rw [h, List.take_append_drop]
      exact List.append_cancel_left h2
    rw [← h1, numB_sumB]
  · intro h
    rw [h.2, sumB_numB hd hdb, List.take_append_drop]

set_option maxHeartbeats 1000000 in
set_option maxRecDepth 100000 in
theorem refOpen_less (a : Option Addr) (n c : Nat) (w : World) (h4 : n < 4) :
    Calls Try.prog 23 #[.slice a n c] w fun e w' => e = .returned (.tuple #[.slice none 0 0, .bool false]) ∧ Below w.heap.size w w' := by
  have h4' : (n : Int) < 4 := by omega
  clear h4
  go_enter Try.func23, Try.ntmps23
  go_upto_region 1 with fail
  go_quiet (fail)
  go_wp2
  go_ret2
  exact ⟨rfl, ⟨rfl, rfl, rfl, Nat.le_refl _, fun _ _ => rfl⟩⟩

set_option maxHeartbeats 2000000 in
set_option maxRecDepth 100000 in
theorem refOpen_more (a : Option Addr) (n c : Nat) (S : List Nat) (w : World) (h : Rd w a n S) (hn : n ≤ 1000000) (hc : n ≤ c) (h4 : ¬ n < 4) :
    Calls Try.prog 23 #[.slice a n c] w fun e w' => (e = .returned (if Sealed S then .tuple #[.slice a (n - 4) c, .bool true] else .tuple #[.slice none 0 0, .bool false])) ∧ Below w.heap.size w w' := by
  have h4n : 4 ≤ n := by omega
  have h4' : ¬ (n : Int) < 4 := by omega
  obtain ⟨P, hP⟩ : ∃ P, P = S.take (n - 4) := ⟨_, rfl⟩
  have hcutP : Rd w a (n - 4) P := by rw [hP]; exact h.first (by omega)
  have hPl : P.length ≤ 1000000 := by rw [hP]; simp; omega
  have hiff := sealed_iff (S := S) (by rw [h.1]; omega) h.2.1
  rw [h.1, ← hP] at hiff
  have hsl : ∀ W : World, (Instr.slice 26 (.slice a n c) none (some (.int .i64 ((n : Int) - 4))) none).run Try.prog W = .ok (.slice a (n - 4) c) W := by
    intro W
    have := slice_to a n c (n - 4) .i64 (by omega) W
    rwa [show (((n - 4 : Nat) : Nat) : Int) = (n : Int) - 4 by omega] at this
  have hwr : IntKind.i64.wrap ((n : Int) - 4) = (n : Int) - 4 := by rw [IntKind.wrap_i64]; omega
  have HSEAL : Hid (∀ W, Below w.heap.size w W → Calls Try.prog 35 #[.slice a (n - 4) c] W fun e w' => ∃ v, e = .returned v ∧ Hid (Own w' w.heap.size v (P ++ sumB (cSum P)) ∧ Below w.heap.size w w')) := by
    refine Lib.hid fun W hW => (refSeal_any a (n - 4) c P W (hcutP.later hW) (by omega)).mono ?_
    rintro e w' ⟨v, rfl, ho, hb⟩
    exact ⟨v, rfl, Lib.hid ⟨ho.mono hW.size, hW.trans (hb.mono hW.size)⟩⟩
  have HCV : Hid (∀ W, Below w.heap.size w W → (convert 26 9 (.slice a n c)).run Try.prog W = .ok (.string (strB S)) W) := Lib.hid fun W hW => conv_rd (h.later hW) c
  have hzb : ∀ z ∈ P ++ sumB (cSum P), z < 256 := by
    intro z hz
    rcases List.mem_append.1 hz with h | h
    · exact hcutP.2.1 z h
    · exact sumB_byte (cSum_lt P) z h
  obtain ⟨Z, hZ⟩ : ∃ Z, Z = P ++ sumB (cSum P) := ⟨_, rfl⟩
  rw [← hZ] at HSEAL hiff hzb
  obtain ⟨D, hD⟩ : ∃ D, D = decide (Z ≠ S) := ⟨_, rfl⟩
  have hs1 : ((strB Z).toList != (strB S).toList) = D := by
    rw [hD]
    by_cases e : Z = S
    · rw [e]; simp
    · have : strB Z ≠ strB S := fun e2 => e (strB_inj hzb h.2.1 e2)
      have h3 : (strB Z).toList ≠ (strB S).toList := by
        rw [ByteArray.toList_eq, ByteArray.toList_eq]
        intro e3
        exact this (ByteArray.ext (Array.ext' e3))
      simp [e, h3]
  have hs2 : ((strB Z).toList == (strB S).toList) = !D := by
    rw [← hs1]; simp [bne]
  have HD : Hid ((if Sealed S then Value.tuple #[.slice a (n - 4) c, .bool true] else Value.tuple #[.slice none 0 0, .bool false]) = (if D then Value.tuple #[.slice none 0 0, .bool false] else Value.tuple #[.slice a (n - 4) c, .bool true])) := Lib.hid (by
    rw [hD]
    by_cases e : Z = S
    · rw [if_pos (hiff.1 e)]; simp [e]
    · rw [if_neg (fun h => e (hiff.2 h))]; simp [e])
  obtain ⟨R, hR⟩ : ∃ R, R = (if Sealed S then Value.tuple #[.slice a (n - 4) c, .bool true] else Value.tuple #[.slice none 0 0, .bool false]) := ⟨_, rfl⟩
  rw [← hR] at HD ⊢
  clear hP hPl hcutP hZ hiff hzb hD hR h h4 hn hc
  go_enter Try.func23, Try.ntmps23
  go_upto_region 1 with fail
  have H : Hid (Below w.heap.size w w.drew) := Lib.hid (Below.refl _ _).drew
  refine wp_region_held_drew (S := fun W => Below w.heap.size w W) (by kernel_rfl) H.out (fun _ => ?_)
  obtain ⟨w3, hw3⟩ : ∃ w3, w3 = w.drew := ⟨_, rfl⟩
  rw [← hw3] at H ⊢
  clear hw3
  refine wpAnyH_take (i := 0) (v := ?vb0) rfl (by kernel_rfl) (by kernel_rfl) (by kernel_rfl) (fun _ _ _ h => h) (Or.inl ⟨by rfl, ?hb0⟩) H.out ?rb0
  case hb0 => (intro W hW; clear hW; go_simp; try with_reducible rfl)
  simp only [Act.put, List.getElem_toArray, List.getElem_cons_succ, List.getElem_cons_zero, List.setIfInBounds_toArray, List.set_cons_zero, List.set_cons_succ]
  refine wpAnyH_take (i := 1) (v := ?vb1) rfl (by kernel_rfl) (by kernel_rfl) (by kernel_rfl) (fun _ _ _ h => h) (Or.inl ⟨by rfl, ?hb1⟩) H.out ?rb1
  case hb1 => (intro W hW; clear hW; go_simp; try with_reducible rfl)
  simp only [Act.put, List.getElem_toArray, List.getElem_cons_succ, List.getElem_cons_zero, List.setIfInBounds_toArray, List.set_cons_zero, List.set_cons_succ]
  refine wpAnyH_take (i := 2) (v := ?vb2) rfl (by kernel_rfl) (by kernel_rfl) (by kernel_rfl) (fun _ _ _ h => h) (Or.inl ⟨by rfl, ?hb2⟩) H.out ?rb2
  case hb2 => (intro W hW; clear hW; go_simp; try with_reducible rfl)
  simp only [Act.put, List.getElem_toArray, List.getElem_cons_succ, List.getElem_cons_zero, List.setIfInBounds_toArray, List.set_cons_zero, List.set_cons_succ]
  refine wpAnyH_take (i := 3) (v := ?vb3) rfl (by kernel_rfl) (by kernel_rfl) (by kernel_rfl) (fun _ _ _ h => h) (Or.inl ⟨by rfl, ?hb3⟩) H.out ?rb3
  case hb3 => (intro W hW; clear hW; go_simp; try with_reducible rfl)
  simp only [Act.put, List.getElem_toArray, List.getElem_cons_succ, List.getElem_cons_zero, List.setIfInBounds_toArray, List.set_cons_zero, List.set_cons_succ]
  refine wpAnyH_take (i := 4) (v := ?vb4) rfl (by kernel_rfl) (by kernel_rfl) (by kernel_rfl) (fun _ _ _ h => h) (Or.inl ⟨by rfl, ?hb4⟩) H.out ?rb4
  case hb4 => (intro W hW; clear hW; go_simp; try with_reducible rfl)
  simp only [Act.put, List.getElem_toArray, List.getElem_cons_succ, List.getElem_cons_zero, List.setIfInBounds_toArray, List.set_cons_zero, List.set_cons_succ]
  refine wpAnyH_take (i := 5) (v := ?vb5) rfl (by kernel_rfl) (by kernel_rfl) (by kernel_rfl) (fun _ _ _ h => h) (Or.inl ⟨by rfl, ?hb5⟩) H.out ?rb5
  case hb5 => (intro W hW; clear hW; go_simp; try with_reducible rfl)
  simp only [Act.put, List.getElem_toArray, List.getElem_cons_succ, List.getElem_cons_zero, List.setIfInBounds_toArray, List.set_cons_zero, List.set_cons_succ]
  refine wpAnyH_take (i := 6) (v := ?vb6) rfl (by kernel_rfl) (by kernel_rfl) (by kernel_rfl) (fun _ _ _ h => h) (Or.inl ⟨by rfl, ?hb6⟩) H.out ?rb6
  case hb6 => (intro W hW; clear hW; go_simp; try with_reducible rfl)
  simp only [Act.put, List.getElem_toArray, List.getElem_cons_succ, List.getElem_cons_zero, List.setIfInBounds_toArray, List.set_cons_zero, List.set_cons_succ]
  refine wpAnyH_take (i := 7) (v := ?vb7) rfl (by kernel_rfl) (by kernel_rfl) (by kernel_rfl) (fun _ _ _ h => h) (Or.inl ⟨by rfl, ?hb7⟩) H.out ?rb7
  case hb7 => (intro W hW; clear hW; go_simp; try with_reducible rfl)
  simp only [Act.put, List.getElem_toArray, List.getElem_cons_succ, List.getElem_cons_zero, List.setIfInBounds_toArray, List.set_cons_zero, List.set_cons_succ]
  refine wpAnyH_take (i := 8) (v := ?vb8) rfl (by kernel_rfl) (by kernel_rfl) (by kernel_rfl) (fun _ _ _ h => h) (Or.inl ⟨by rfl, ?hb8⟩) H.out ?rb8
  case hb8 => (intro W hW; clear hW; go_simp; try with_reducible rfl)
  simp only [Act.put, List.getElem_toArray, List.getElem_cons_succ, List.getElem_cons_zero, List.setIfInBounds_toArray, List.set_cons_zero, List.set_cons_succ]
  refine wpAnyH_take (i := 11) (v := ?vb11) rfl (by kernel_rfl) (by kernel_rfl) (by kernel_rfl) (fun _ _ _ h => h) (Or.inl ⟨by rfl, ?hb11⟩) H.out ?rb11
  case hb11 => (intro W hW; clear hW; go_simp; try with_reducible rfl)
  simp only [Act.put, List.getElem_toArray, List.getElem_cons_succ, List.getElem_cons_zero, List.setIfInBounds_toArray, List.set_cons_zero, List.set_cons_succ]
  refine wpAnyH_take (i := 12) (v := ?vb12) rfl (by kernel_rfl) (by kernel_rfl) (by kernel_rfl) (fun _ _ _ h => h) (Or.inl ⟨by rfl, ?hb12⟩) H.out ?rb12
  case hb12 => (intro W hW; have hcv := HCV.out W hW; clear hW; go_simp; try with_reducible rfl)
  simp only [Act.put, List.getElem_toArray, List.getElem_cons_succ, List.getElem_cons_zero, List.setIfInBounds_toArray, List.set_cons_zero, List.set_cons_succ]
  refine wpAnyH_ready (rs := [9]) (by kernel_rfl) (by simp) ?_
  refine AllReadyH.cons rfl (fun K hK => ?_) AllReadyH.nil
  refine ready_call (f := 35) (vs := #[.slice a (n - 4) c]) (by rfl) (by (go_simp; try with_reducible rfl)) ?_
  refine (HSEAL.out _ H.out).mono ?_
  rintro e w4 ⟨vZ, rfl, HZ⟩
  refine ⟨_, rfl, hK.out _ _ HZ.out.2 (fun _ => ?_)⟩
  clear hK K
  simp only [Act.put, List.getElem_toArray, List.getElem_cons_succ, List.getElem_cons_zero, List.setIfInBounds_toArray, List.set_cons_zero, List.set_cons_succ]
  obtain ⟨aZ, cZ, rfl, hrZ, _⟩ := HZ.out.1.sl
  have HRZ := Lib.hid hrZ
  have HB4 := Lib.hid HZ.out.2
  clear hrZ
  refine wpAnyH_strong (S1 := fun W => Below w4.heap.size w4 W) (fun W hW => HB4.out.trans (hW.mono HB4.out.size)) ?_
  refine wpAnyH_take (i := 10) (v := ?vb10) rfl (by kernel_rfl) (by kernel_rfl) (by kernel_rfl) (fun _ _ _ h => h) (Or.inl ⟨by rfl, ?hb10⟩) (Below.refl _ _) ?rb10
  case hb10 => (intro W hW; have hcv := conv_rd (HRZ.out.later hW) cZ; clear hW; go_simp; try with_reducible rfl)
  simp only [Act.put, List.getElem_toArray, List.getElem_cons_succ, List.getElem_cons_zero, List.setIfInBounds_toArray, List.set_cons_zero, List.set_cons_succ]
  refine wpAnyH_take (i := 13) (v := ?vb13) rfl (by kernel_rfl) (by kernel_rfl) (by kernel_rfl) (fun _ _ _ h => h) (Or.inl ⟨by rfl, ?hb13⟩) (Below.refl _ _) ?rb13
  case hb13 => (intro W hW; clear hW; go_simp; try with_reducible rfl)
  simp only [Act.put, List.getElem_toArray, List.getElem_cons_succ, List.getElem_cons_zero, List.setIfInBounds_toArray, List.set_cons_zero, List.set_cons_succ]
  refine wpAnyH_take (i := 14) (v := ?vb14) rfl (by kernel_rfl) (by kernel_rfl) (by kernel_rfl) (fun _ _ _ h => h) (Or.inl ⟨by rfl, ?hb14⟩) (Below.refl _ _) ?rb14
  case hb14 => (intro W hW; clear hW; go_simp; try with_reducible rfl)
  simp only [Act.put, List.getElem_toArray, List.getElem_cons_succ, List.getElem_cons_zero, List.setIfInBounds_toArray, List.set_cons_zero, List.set_cons_succ]
  refine wpAnyH_done (by kernel_rfl) ?_ _
  clear hs1 hs2 HSEAL HCV HZ
  cases D with
  | true =>
    have hR : R = .tuple #[.slice none 0 0, .bool false] := HD.out
    subst hR
    go_wp2
    go_ret2
    exact ⟨rfl, HB4.out⟩
  | false =>
    have hR : R = .tuple #[.slice a (n - 4) c, .bool true] := HD.out
    subst hR
    go_wp2
    go_ret2
    exact ⟨rfl, HB4.out⟩

/-- What is sealed, by the document. -/
theorem refOpen_any (a : Option Addr) (n c : Nat) (S : List Nat) (w : World) (h : Rd w a n S) (hn : n ≤ 1000000) (hc : n ≤ c) :
    Calls Try.prog 23 #[.slice a n c] w fun e w' => ((¬ Sealed S ∧ e = .returned (.tuple #[.slice none 0 0, .bool false])) ∨ (Sealed S ∧ 4 ≤ n ∧ e = .returned (.tuple #[.slice a (n - 4) c, .bool true]))) ∧ Below w.heap.size w w' := by
  by_cases h4 : n < 4
  · refine (refOpen_less a n c w h4).mono ?_
    rintro e w' ⟨rfl, hb⟩
    exact ⟨.inl ⟨fun hs => by have := hs.1; rw [h.1] at this; omega, rfl⟩, hb⟩
  · refine (refOpen_more a n c S w h hn hc h4).mono ?_
    rintro e w' ⟨rfl, hb⟩
    refine ⟨?_, hb⟩
    by_cases hs : Sealed S
    · exact .inr ⟨hs, by omega, by rw [if_pos hs]⟩
    · exact .inl ⟨hs, by rw [if_neg hs]⟩

end Go.Proofs.Ytkfnjekeegebaaa
