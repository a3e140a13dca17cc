/- CheckSums returns true at every input: the sum of any bytes, also in pieces, and what is sealed and opened are the document's; the arguments read as they did. No condition but that each slice's length is one that a machine can have. -/
import Derived.Test.YtpkodhmlplohfaaCheckLives
import Derived.Test.YtpkodhmlplohfaaMade
import Derived.Test.YtpkodhmlplohfaaOrders
import Derived.Deep.DeepCutAuto
import Derived.BigRegion
import Derived.Deep.RegionHeld3
namespace Go.Proofs.Ytpkodhmlplohfaa
open Go.RowKit

theorem strB_same {A B : List Nat} (hA : ∀ x ∈ A, x < 256) (hB : ∀ x ∈ B, x < 256) : ((strB A).toList == (strB B).toList) = decide (A = B) := by
  rw [ByteArray.toList_eq, ByteArray.toList_eq]
  by_cases h : A = B
  · subst h; simp
  · have hne : ¬ (strB A).data = (strB B).data := fun e => h (strB_inj hA hB (ByteArray.ext e))
    simp [h, hne]

theorem spot_mod (at_ M : Int) (h0 : 0 < M) (hM : M ≤ 1000000) : ∃ k : Nat, wrap64 ((IntKind.u64.wrap at_).tmod M) = (k : Int) ∧ (k : Int) < M := by
  have h1 : IntKind.u64.wrap at_ = at_ % 18446744073709551616 := IntKind.wrap_u64 _
  have h2 : 0 ≤ at_ % 18446744073709551616 := Int.emod_nonneg _ (by omega)
  have h3 : (at_ % 18446744073709551616).tmod M = (at_ % 18446744073709551616) % M := Int.tmod_eq_emod_of_nonneg h2
  have h5 : 0 ≤ (at_ % 18446744073709551616) % M := Int.emod_nonneg _ (by omega)
  have h6 : (at_ % 18446744073709551616) % M < M := Int.emod_lt_of_pos _ (by omega)
  rw [h1, h3]
  generalize (at_ % 18446744073709551616) % M = x at h5 h6
  refine ⟨x.toNat, ?_, by omega⟩
  unfold wrap64
  omega

theorem seal_sl (a : Option Addr) (n c : Nat) (l : List Nat) (w : World) (h : Rd w a n l) (hn : n ≤ 1000000) :
    Calls Try.prog 6 #[.slice a n c] w fun e w' => ∃ a' c', e = .returned (.slice a' (n + 4) c') ∧ Rd w' a' (n + 4) (l ++ sumB (cSum l)) ∧ n + 4 ≤ c' ∧ Below w.heap.size w w' := by
  refine (seal_any a n c l w h hn).mono ?_
  rintro e w' ⟨v, rfl, ho, hb⟩
  obtain ⟨a', c', rfl, hr, hc⟩ := ho.sl
  have hlen : (l ++ sumB (cSum l)).length = n + 4 := by rw [List.length_append, h.1]; rfl
  rw [hlen] at hr hc ⊢
  exact ⟨a', c', rfl, hr, hc, hb⟩

theorem refSeal_sl (a : Option Addr) (n c : Nat) (l : List Nat) (w : World) (h : Rd w a n l) (hn : n ≤ 1000000) :
    Calls Try.prog 8 #[.slice a n c] w fun e w' => ∃ a' c', e = .returned (.slice a' (n + 4) c') ∧ Rd w' a' (n + 4) (l ++ sumB (cSum l)) ∧ Below w.heap.size w w' := by
  refine (refSeal_any a n c l w h hn).mono ?_
  rintro e w' ⟨v, rfl, ho, hb⟩
  obtain ⟨a', c', rfl, hr, hc⟩ := ho.sl
  have hlen : (l ++ sumB (cSum l)).length = n + 4 := by rw [List.length_append, h.1]; rfl
  rw [hlen] at hr ⊢
  exact ⟨a', c', rfl, hr, hb⟩

theorem open_yes (a : Option Addr) (n c : Nat) (l : List Nat) (w : World) (h : Rd w a n l) (hn : n ≤ 1000000) (hc : n ≤ c) (hs : Sealed l) :
    Calls Try.prog 7 #[.slice a n c] w fun e w' => ∃ a' c', e = .returned (.tuple #[.slice a' (n - 4) c', .bool true]) ∧ Rd w' a' (n - 4) (l.take (n - 4)) ∧ Below w.heap.size w w' := by
  refine (open_any a n c l w h hn hc).mono ?_
  rintro e w' ⟨hb, ⟨hno, _⟩ | ⟨_, v, rfl, ho⟩⟩
  · exact absurd hs hno
  · obtain ⟨a', c', rfl, hr, _⟩ := ho.sl
    have hlen : (l.take (n - 4)).length = n - 4 := by rw [List.length_take, h.1]; omega
    rw [hlen] at hr ⊢
    exact ⟨a', c', rfl, hr, hb⟩

theorem open_no (a : Option Addr) (n c : Nat) (l : List Nat) (w : World) (h : Rd w a n l) (hn : n ≤ 1000000) (hc : n ≤ c) (hs : ¬ Sealed l) :
    Calls Try.prog 7 #[.slice a n c] w fun e w' => e = .returned (.tuple #[.slice none 0 0, .bool false]) ∧ Below w.heap.size w w' := by
  refine (open_any a n c l w h hn hc).mono ?_
  rintro e w' ⟨hb, ⟨_, rfl⟩ | ⟨hyes, _⟩⟩
  · exact ⟨rfl, hb⟩
  · exact absurd hyes hs

theorem sealed_seal (l : List Nat) : Sealed (l ++ sumB (cSum l)) := by
  have hlen : (l ++ sumB (cSum l)).length = l.length + 4 := by rw [List.length_append]; rfl
  refine ⟨by omega, ?_⟩
  have e : l.length + 4 - 4 = l.length := by omega
  rw [hlen, e, List.take_left, List.drop_left, numB_sumB]

/-- Bytes are sealed just where they are what the document's seal makes of those ahead of the last four. -/
theorem sealed_iff {l : List Nat} (h4 : 4 ≤ l.length) (hb : ∀ x ∈ l, x < 256) : Sealed l ↔ l.take (l.length - 4) ++ sumB (cSum (l.take (l.length - 4))) = l := by
  have hd : (l.drop (l.length - 4)).length = 4 := by rw [List.length_drop]; omega
  have hdb : ∀ x ∈ l.drop (l.length - 4), x < 256 := fun x hx => hb x (List.mem_of_mem_drop hx)
  constructor
  · rintro ⟨_, h⟩
    rw [h, sumB_numB hd hdb, List.take_append_drop]
  · intro h
    refine ⟨h4, ?_⟩
    have h1 : l.take (l.length - 4) ++ sumB (cSum (l.take (l.length - 4))) = l.take (l.length - 4) ++ l.drop (l.length - 4) := by rw [h, List.take_append_drop]
    have h2 := List.append_cancel_left h1
    rw [← h2, numB_sumB]

set_option maxHeartbeats 40000000 in
set_option maxRecDepth 100000 in
theorem checkSums_walk (a : Option Addr) (n c : Nat) (l : List Nat) (at_ : Int) (oa : Option Addr) (on oc : Nat) (lo : List Nat) (w : World) (h : Rd w a n l) (ho : Rd w oa on lo) (hnc : n ≤ c) (hoc : on ≤ oc) (hn47 : n ≤ 140737488351232) (hon47 : on ≤ 140737488351232) :
    Calls Try.prog 3 #[.slice a n c, .int .i64 at_, .slice oa on oc] w fun e w' => e = .returned (.bool true) ∧ Below w.heap.size w w' := by
  have HR := Lib.hid h
  have HRO := Lib.hid ho
  clear h ho
  by_cases hbig : 20000 < n + on
  · have hbig' : 20000 < (n : Int) + (on : Int) := by omega
    clear hbig
    go_enter Try.func3, Try.ntmps3
    go_wp2_with fail
    refine (lives_any w).mono ?_
    rintro e w1 ⟨rfl, hb⟩
    have HB := Lib.hid hb
    clear hb
    go_wp2_with fail
    refine (lives_any w1).mono ?_
    rintro e w2 ⟨rfl, hb2⟩
    have HB2 := Lib.hid hb2
    clear hb2
    go_wp2
    go_ret
    exact ⟨rfl, HB.out.trans (HB2.out.mono HB.out.size)⟩
  · have hn : n ≤ 20000 := by omega
    have hon : on ≤ 20000 := by omega
    have hd1 : decide (20000 < (n : Int) + (on : Int)) = false := by simp; omega
    clear hbig hn47 hon47
    have hmk : ∀ W : World, (Instr.makeSlice 22 (.int .i64 0) (.int .i64 ((n : Int) + 9))).run Try.prog W = .ok (.slice (some ⟨W.heap.size, 0, none⟩) 0 (n + 9)) (W.alloc (.cells (mk0 (n + 9)) 5)) := by
      intro W
      have := run_mk0 (n + 9) (by omega) W
      simpa using this
    go_enter Try.func3, Try.ntmps3
    go_wp2_with fail
    refine (lives_any w).mono ?_
    rintro e w1 ⟨rfl, hb1⟩
    have H1 := Lib.hid (HR.out.later hb1)
    have HB1 := Lib.hid hb1
    clear hb1
    go_wp2_with (at_builtin; have _t := hn; refine wpList_append_made rfl (.tmp 37) (.tmp 38) rfl w1.heap.size (n + 9) rfl a n c rfl (heap_alloc_new w1 _) l (H1.out.later (Below.alloc0 _ _)) (by omega) ?next)
    case next =>
      intro w2 hR2 hg2
      have HOWN := Lib.hid hR2
      have HB2 : Hid (Below w1.heap.size w1 w2) := (Below.alloc0 w1 _).grown hg2 (by simp) (by simp)
      obtain ⟨k, hk, hkn⟩ := spot_mod at_ ((n : Int) + 1) (by omega) (by omega)
      clear hR2 hg2
      go_wp2_with fail
      rw [hk]
      clear hk
      have hfirst := HOWN.out.first (k := n) (by omega)
      rw [List.take_left' HR.out.1] at hfirst
      refine (seal_sl _ n (n + 9) l w2 hfirst (by omega)).mono ?_
      rintro e w3 ⟨a3, c3, rfl, hr3, hc3, hb3⟩
      have HS3 := Lib.hid hr3
      have HB3 := Lib.hid hb3
      clear hfirst hr3 hb3
      go_wp2_with fail
      refine (open_yes a3 (n + 4) c3 _ w3 HS3.out (by omega) hc3 (sealed_seal l)).mono ?_
      rintro e w4 ⟨a4, c4, rfl, hr4, hb4⟩
      have e4 : n + 4 - 4 = n := by omega
      rw [e4, List.take_left' HR.out.1] at hr4
      rw [e4]
      have HC4 := Lib.hid hr4
      have HB4 := Lib.hid hb4
      clear hr4 hb4 e4
      have HB14 : Hid (Below w1.heap.size w1 w4) := (HB2.out.trans (HB3.out.mono HB2.out.size)).trans (HB4.out.mono (Nat.le_trans HB2.out.size HB3.out.size))
      have HRO4 : Hid (Rd w4 oa on lo) := (HRO.out.later HB1.out).later HB14.out
      have HR4 : Hid (Rd w4 a n l) := H1.out.later HB14.out
      have HS4 : Hid (Rd w4 a3 (n + 4) (l ++ sumB (cSum l))) := HS3.out.later HB4.out
      have HOWN4 : Hid (Rd w4 (some ⟨w1.heap.size, 0, none⟩) (n + 9) (l ++ [0, 0, 0, 0, 0, 0, 0, 0, 0])) := (HOWN.out.later HB3.out).later HB4.out
      clear HS3 HOWN HB3 HB4
      have HOP : Hid (Calls Try.prog 7 #[.slice oa on oc] w4 fun e w' => ∃ a5 n5 c5 is ld, e = .returned (.tuple #[.slice a5 n5 c5, .bool is]) ∧ Rd w' a5 n5 ld ∧ Below w4.heap.size w4 w' ∧ ((Sealed lo ∧ is = true ∧ ld = lo.take (on - 4)) ∨ (¬ Sealed lo ∧ is = false ∧ n5 = 0))) := by
        by_cases hs : Sealed lo
        · refine (open_yes oa on oc lo w4 HRO4.out (by omega) hoc hs).mono ?_
          rintro e w5 ⟨a5, c5, rfl, hr5, hb5⟩
          exact ⟨a5, _, c5, true, _, rfl, hr5, hb5, .inl ⟨hs, rfl, rfl⟩⟩
        · refine (open_no oa on oc lo w4 HRO4.out (by omega) hoc hs).mono ?_
          rintro e w5 ⟨rfl, hb5⟩
          exact ⟨none, 0, 0, false, [], rfl, ⟨rfl, by simp, by omega⟩, hb5, .inr ⟨hs, rfl, rfl⟩⟩
      go_wp2_with fail
      refine HOP.out.mono ?_
      rintro e w5 ⟨a5, n5, c5, is, ld, rfl, hr5, hb5, hcase⟩
      have HD5 := Lib.hid hr5
      have HCASE := Lib.hid hcase
      have HB5 := Lib.hid hb5
      have HB15 : Hid (Below w1.heap.size w1 w5) := HB14.out.trans (hb5.mono HB14.out.size)
      have HRO5 := Lib.hid (HRO4.out.later hb5)
      have HR5 := Lib.hid (HR4.out.later hb5)
      have HS5 := Lib.hid (HS4.out.later hb5)
      have HC5 := Lib.hid (HC4.out.later hb5)
      have HOWN5 := Lib.hid (HOWN4.out.later hb5)
      clear hr5 hcase hb5 HOP HRO4 HR4 HS4 HC4 HOWN4 HB14
      go_wp2_with fail
      go_cut [14] (fun s wx => s = .bool is ∧ Below w5.heap.size w5 wx)
      case first =>
        by_cases h4 : on < 4
        · have h4' : decide (4 ≤ (on : Int)) = false := by simp; omega
          have his : is = false := by
            rcases HCASE.out with ⟨hs, _⟩ | ⟨_, h, _⟩
            · exact absurd hs.1 (by rw [HRO5.out.1]; omega)
            · exact h
          subst his
          go_quiet (fail)
          go_wp2
          go_meet
          exact ⟨rfl, Below.drewN' (Below.refl _ _) _⟩
        · have h4' : 4 ≤ (on : Int) := by omega
          obtain ⟨m, hm⟩ : ∃ m, m + 4 = on := ⟨on - 4, by omega⟩
          have hw4 : IntKind.i64.wrap ((on : Int) - 4) = (m : Int) := by rw [IntKind.wrap_i64]; omega
          have hm0 : ¬ ((m : Int) < 0) := by omega
          have hm1 : 0 ≤ (m : Int) := by omega
          have hm2 : (m : Int) ≤ (oc : Int) := by omega
          have hcmp : ((strB (lo.take m ++ sumB (cSum (lo.take m)))).toList == (strB lo).toList) = is := by
            have hl := HRO5.out.1
            have hiff := sealed_iff (l := lo) (by omega) HRO5.out.2.1
            have e : lo.length - 4 = m := by omega
            rw [e] at hiff
            have hby : ∀ x ∈ lo.take m ++ sumB (cSum (lo.take m)), x < 256 := by
              intro x hx
              simp only [List.mem_append] at hx
              rcases hx with hx | hx
              · exact HRO5.out.2.1 x (List.mem_of_mem_take hx)
              · exact sumB_byte (cSum_lt _) x hx
            rw [strB_same hby HRO5.out.2.1]
            rcases HCASE.out with ⟨hs, h, _⟩ | ⟨hs, h, _⟩
            · rw [h]; exact decide_eq_true (hiff.1 hs)
            · rw [h]; exact decide_eq_false fun e => hs (hiff.2 e)
          have HRT : Hid (Rd w5.drew oa m (lo.take m)) := HRO5.out.first (by omega)
          have HCO : Hid ((convert 22 9 (.slice oa on oc)).run Try.prog w5.drew = .ok (.string (strB lo)) w5.drew) := conv_rd (w := w5.drew) HRO5.out oc
          have HCMP := Lib.hid hcmp
          have hm6 : m ≤ 20000 := by omega
          clear hcmp hm
          refine wp_region_held_drew (S := fun W => (convert 22 9 (.slice oa on oc)).run Try.prog W = .ok (.string (strB lo)) W) (by kernel_rfl) HCO.out (fun _ => ?_)
          refine wpAnyH_take (i := 0) (v := ?v0) rfl (by kernel_rfl) (by kernel_rfl) (by kernel_rfl) (fun _ _ _ h => h) (Or.inl ⟨by rfl, ?h0⟩) HCO.out ?r0
          case h0 => (intro W hW; (try dsimp only at hW); go_simp; try with_reducible rfl)
          simp only [Act.put, List.getElem_toArray, List.getElem_cons_zero, List.setIfInBounds_toArray, List.set_cons_zero, List.set_cons_succ]
          refine wpAnyH_take (i := 1) (v := ?v1) rfl (by kernel_rfl) (by kernel_rfl) (by kernel_rfl) (fun _ _ _ h => h) (Or.inl ⟨by rfl, ?h1⟩) HCO.out ?r1
          case h1 => (intro W hW; (try dsimp only at hW); go_simp; try with_reducible rfl)
          simp only [Act.put, List.getElem_toArray, List.getElem_cons_succ, List.getElem_cons_zero, List.setIfInBounds_toArray, List.set_cons_zero, List.set_cons_succ]
          refine wpAnyH_take (i := 2) (v := ?v2) rfl (by kernel_rfl) (by kernel_rfl) (by kernel_rfl) (fun _ _ _ h => h) (Or.inl ⟨by rfl, ?h2⟩) HCO.out ?r2
          case h2 => (intro W hW; (try dsimp only at hW); go_simp; try with_reducible rfl)
          simp only [Act.put, List.getElem_toArray, List.getElem_cons_succ, List.getElem_cons_zero, List.setIfInBounds_toArray, List.set_cons_zero, List.set_cons_succ]
          refine wpAnyH_take (i := 3) (v := ?v3) rfl (by kernel_rfl) (by kernel_rfl) (by kernel_rfl) (fun _ _ _ h => h) (Or.inl ⟨by rfl, ?h3⟩) HCO.out ?r3
          case h3 => (intro W hW; (try dsimp only at hW); go_simp; try with_reducible rfl)
          simp only [Act.put, List.getElem_toArray, List.getElem_cons_succ, List.getElem_cons_zero, List.setIfInBounds_toArray, List.set_cons_zero, List.set_cons_succ]
          refine wpAnyH_take (i := 4) (v := ?v4) rfl (by kernel_rfl) (by kernel_rfl) (by kernel_rfl) (fun _ _ _ h => h) (Or.inl ⟨by rfl, ?h4⟩) HCO.out ?r4
          case h4 => (intro W hW; (try dsimp only at hW); go_simp; try with_reducible rfl)
          simp only [Act.put, List.getElem_toArray, List.getElem_cons_succ, List.getElem_cons_zero, List.setIfInBounds_toArray, List.set_cons_zero, List.set_cons_succ]
          refine wpAnyH_take (i := 5) (v := ?v5) rfl (by kernel_rfl) (by kernel_rfl) (by kernel_rfl) (fun _ _ _ h => h) (Or.inl ⟨by rfl, ?h5⟩) HCO.out ?r5
          case h5 => (intro W hW; (try dsimp only at hW); go_simp; try with_reducible rfl)
          simp only [Act.put, List.getElem_toArray, List.getElem_cons_succ, List.getElem_cons_zero, List.setIfInBounds_toArray, List.set_cons_zero, List.set_cons_succ]
          refine wpAnyH_take (i := 6) (v := ?v6) rfl (by kernel_rfl) (by kernel_rfl) (by kernel_rfl) (fun _ _ _ h => h) (Or.inl ⟨by rfl, ?h6⟩) HCO.out ?r6
          case h6 => (intro W hW; (try dsimp only at hW); go_simp; try with_reducible rfl)
          simp only [Act.put, List.getElem_toArray, List.getElem_cons_succ, List.getElem_cons_zero, List.setIfInBounds_toArray, List.set_cons_zero, List.set_cons_succ]
          refine wpAnyH_take (i := 7) (v := ?v7) rfl (by kernel_rfl) (by kernel_rfl) (by kernel_rfl) (fun _ _ _ h => h) (Or.inl ⟨by rfl, ?h7⟩) HCO.out ?r7
          case h7 => (intro W hW; (try dsimp only at hW); go_simp; try with_reducible rfl)
          simp only [Act.put, List.getElem_toArray, List.getElem_cons_succ, List.getElem_cons_zero, List.setIfInBounds_toArray, List.set_cons_zero, List.set_cons_succ]
          refine wpAnyH_take (i := 8) (v := ?v8) rfl (by kernel_rfl) (by kernel_rfl) (by kernel_rfl) (fun _ _ _ h => h) (Or.inl ⟨by rfl, ?h8⟩) HCO.out ?r8
          case h8 => (intro W hW; (try dsimp only at hW); go_simp; try with_reducible rfl)
          simp only [Act.put, List.getElem_toArray, List.getElem_cons_succ, List.getElem_cons_zero, List.setIfInBounds_toArray, List.set_cons_zero, List.set_cons_succ]
          refine wpAnyH_take (i := 9) (v := ?v9) rfl (by kernel_rfl) (by kernel_rfl) (by kernel_rfl) (fun _ _ _ h => h) (Or.inl ⟨by rfl, ?h9⟩) HCO.out ?r9
          case h9 => (intro W hW; (try dsimp only at hW); go_simp; try with_reducible rfl)
          simp only [Act.put, List.getElem_toArray, List.getElem_cons_succ, List.getElem_cons_zero, List.setIfInBounds_toArray, List.set_cons_zero, List.set_cons_succ]
          refine wpAnyH_take (i := 12) (v := ?v12) rfl (by kernel_rfl) (by kernel_rfl) (by kernel_rfl) (fun _ _ _ h => h) (Or.inl ⟨by rfl, ?h12⟩) HCO.out ?r12
          case h12 => (intro W hW; (try dsimp only at hW); go_simp; try with_reducible rfl)
          simp only [Act.put, List.getElem_toArray, List.getElem_cons_succ, List.getElem_cons_zero, List.setIfInBounds_toArray, List.set_cons_zero, List.set_cons_succ]
          refine wpAnyH_take (i := 13) (v := ?v13) rfl (by kernel_rfl) (by kernel_rfl) (by kernel_rfl) (fun _ _ _ h => h) (Or.inl ⟨by rfl, ?h13⟩) HCO.out ?r13
          case h13 => (intro W hW; (try dsimp only at hW); go_simp; try with_reducible rfl)
          simp only [Act.put, List.getElem_toArray, List.getElem_cons_succ, List.getElem_cons_zero, List.setIfInBounds_toArray, List.set_cons_zero, List.set_cons_succ]
          refine wpAnyH_ready (rs := [10]) (by kernel_rfl) (by simp) ?_
          refine AllReadyH.cons rfl (fun K hK => ?_) AllReadyH.nil
          go_simp
          refine (refSeal_sl oa m oc (lo.take m) w5.drew HRT.out (by omega)).mono ?_
          rintro e w6 ⟨a6, c6, rfl, hr6, hb6⟩
          have HR6 := Lib.hid hr6
          have HB6 : Hid (Below w5.heap.size w5 w6) := (Below.refl _ w5).drew.trans hb6
          clear hr6 hb6
          have HCO6 : Hid ((convert 22 9 (.slice oa on oc)).run Try.prog w6 = .ok (.string (strB lo)) w6) := conv_rd (w := w6) (HRO5.out.later HB6.out) oc
          refine hK.out _ _ HCO6.out (fun _ => ?_)
          clear hK K
          refine wpAnyH_strong (S1 := fun W => (convert 22 9 (.slice oa on oc)).run Try.prog W = .ok (.string (strB lo)) W ∧ (convert 22 9 (.slice a6 (m + 4) c6)).run Try.prog W = .ok (.string (strB (lo.take m ++ sumB (cSum (lo.take m))))) W) (fun _ h => h.1) ?_
          have HS6 : Hid ((convert 22 9 (.slice oa on oc)).run Try.prog w6 = .ok (.string (strB lo)) w6 ∧ (convert 22 9 (.slice a6 (m + 4) c6)).run Try.prog w6 = .ok (.string (strB (lo.take m ++ sumB (cSum (lo.take m))))) w6) := ⟨HCO6.out, conv_rd HR6.out c6⟩
          have hcmp := HCMP.out
          refine wpAnyH_take (i := 11) (v := ?v11) rfl (by kernel_rfl) (by kernel_rfl) (by kernel_rfl) (fun _ _ _ h => h) (Or.inl ⟨by rfl, ?h11⟩) HS6.out ?r11
          case h11 => (intro W hW; (try dsimp only at hW); go_simp; try with_reducible rfl)
          simp only [Act.put, List.getElem_toArray, List.getElem_cons_succ, List.getElem_cons_zero, List.setIfInBounds_toArray, List.set_cons_zero, List.set_cons_succ]
          refine wpAnyH_take (i := 14) (v := ?v14) rfl (by kernel_rfl) (by kernel_rfl) (by kernel_rfl) (fun _ _ _ h => h) (Or.inl ⟨by rfl, ?h14⟩) HS6.out ?r14
          case h14 => (intro W hW; (try dsimp only at hW); go_simp; try with_reducible rfl)
          simp only [Act.put, List.getElem_toArray, List.getElem_cons_succ, List.getElem_cons_zero, List.setIfInBounds_toArray, List.set_cons_zero, List.set_cons_succ]
          refine wpAnyH_take (i := 15) (v := ?v15) rfl (by kernel_rfl) (by kernel_rfl) (by kernel_rfl) (fun _ _ _ h => h) (Or.inl ⟨by rfl, ?h15⟩) HS6.out ?r15
          case h15 => (intro W hW; (try dsimp only at hW); go_simp; try with_reducible rfl)
          simp only [Act.put, List.getElem_toArray, List.getElem_cons_succ, List.getElem_cons_zero, List.setIfInBounds_toArray, List.set_cons_zero, List.set_cons_succ]
          refine wpAnyH_take (i := 16) (v := ?v16) rfl (by kernel_rfl) (by kernel_rfl) (by kernel_rfl) (fun _ _ _ h => h) (Or.inl ⟨by rfl, ?h16⟩) HS6.out ?r16
          case h16 => (intro W hW; (try dsimp only at hW); go_simp; try with_reducible rfl)
          simp only [Act.put, List.getElem_toArray, List.getElem_cons_succ, List.getElem_cons_zero, List.setIfInBounds_toArray, List.set_cons_zero, List.set_cons_succ]
          refine wpAnyH_done (by kernel_rfl) ?_ _
          go_wp2
          go_meet
          exact ⟨rfl, HB6.out⟩
      case rest =>
        obtain ⟨rfl, hbc⟩ := hcut
        have HBC := Lib.hid hbc
        have HB1C : Hid (Below w1.heap.size w1 wc) := HB15.out.trans (hbc.mono HB15.out.size)
        have HROc := Lib.hid (HRO5.out.later hbc)
        have HRc := Lib.hid (HR5.out.later hbc)
        have HSc := Lib.hid (HS5.out.later hbc)
        have HCc := Lib.hid (HC5.out.later hbc)
        have HOWNc := Lib.hid (HOWN5.out.later hbc)
        have HDc := Lib.hid (HD5.out.later hbc)
        clear hbc HRO5 HR5 HS5 HC5 HOWN5 HD5
        have hkn' : k ≤ n := by omega
        have hkc : k ≤ c := by omega
        obtain ⟨q, hq⟩ : ∃ q, q = n + 4 := ⟨_, rfl⟩
        have hwq : IntKind.i64.wrap ((n : Int) + 4) = (q : Int) := by rw [IntKind.wrap_i64]; omega
        have hsl1 := slice_to a n c k .i64 hkc
        have hsl2 := slice_from a n c k .i64 hkn'
        have hsl3 := slice_to (some ⟨w1.heap.size, 0, none⟩) n (n + 9) q .i64 (by omega)
        have hsl4 := slice_from (some ⟨w1.heap.size, 0, none⟩) q (n + 9) n .i64 (by omega)
        have e9 : n + 9 - n = 9 := by omega
        rw [e9] at hsl4
        have HOWNz : Hid (Rd wc (cutA (some ⟨w1.heap.size, 0, none⟩) (n + 9) n) (q - n) [0, 0, 0, 0]) := by
          have h1 := HOWNc.out.first (k := q) (by omega)
          have h2 := h1.cut (k := n) (c := n + 9) (by omega) (by omega)
          have e1 : ((l ++ [0, 0, 0, 0, 0, 0, 0, 0, 0]).take q).drop n = [0, 0, 0, 0] := by
            have hl := HRc.out.1
            rw [List.drop_take, List.drop_left' hl, hq]
            have e2 : n + 4 - n = 4 := by omega
            rw [e2]; rfl
          rw [e1] at h2
          exact h2
        have hzz : ((strB [0, 0, 0, 0]).toList == ([0, 0, 0, 0] : List UInt8)) = true := by rw [ByteArray.toList_eq]; rfl
        have HWQ := Lib.hid hwq
        have HSL3 := Lib.hid hsl3
        have HSL4 := Lib.hid hsl4
        have HZZ := Lib.hid hzz
        clear hq hwq hsl3 hsl4 hzz HOWNc e9
        have HA : Hid ((convert 22 9 (.slice a3 (n + 4) c3)).run Try.prog wc.drew = .ok (.string (strB (l ++ sumB (cSum l)))) wc.drew) := conv_rd (w := wc.drew) HSc.out c3
        go_wp2_with fail
        simp only [List.append_eq, List.cons_append, List.nil_append]
        refine wp_region_held_drew (S := fun W => (convert 22 9 (.slice a3 (n + 4) c3)).run Try.prog W = .ok (.string (strB (l ++ sumB (cSum l)))) W) (by kernel_rfl) HA.out (fun _ => ?_)
        refine wpAnyH_take (i := 0) (v := ?vb0) rfl (by kernel_rfl) (by kernel_rfl) (by kernel_rfl) (fun _ _ _ h => h) (Or.inl ⟨by rfl, ?hb0⟩) HA.out ?rb0
        case hb0 => (intro W hW; (try dsimp only at hW); go_simp; try with_reducible rfl)
        simp only [Act.put, List.getElem_toArray, List.getElem_cons_zero, List.setIfInBounds_toArray, List.set_cons_zero, List.set_cons_succ]
        refine wpAnyH_take (i := 1) (v := ?vb1) rfl (by kernel_rfl) (by kernel_rfl) (by kernel_rfl) (fun _ _ _ h => h) (Or.inl ⟨by rfl, ?hb1⟩) HA.out ?rb1
        case hb1 => (intro W hW; (try dsimp only at hW); go_simp; try with_reducible rfl)
        simp only [Act.put, List.getElem_toArray, List.getElem_cons_succ, List.getElem_cons_zero, List.setIfInBounds_toArray, List.set_cons_zero, List.set_cons_succ]
        refine wpAnyH_take (i := 2) (v := ?vb2) rfl (by kernel_rfl) (by kernel_rfl) (by kernel_rfl) (fun _ _ _ h => h) (Or.inl ⟨by rfl, ?hb2⟩) HA.out ?rb2
        case hb2 => (intro W hW; (try dsimp only at hW); go_simp; try with_reducible rfl)
        simp only [Act.put, List.getElem_toArray, List.getElem_cons_succ, List.getElem_cons_zero, List.setIfInBounds_toArray, List.set_cons_zero, List.set_cons_succ]
        refine wpAnyH_take (i := 3) (v := ?vb3) rfl (by kernel_rfl) (by kernel_rfl) (by kernel_rfl) (fun _ _ _ h => h) (Or.inl ⟨by rfl, ?hb3⟩) HA.out ?rb3
        case hb3 => (intro W hW; (try dsimp only at hW); go_simp; try with_reducible rfl)
        simp only [Act.put, List.getElem_toArray, List.getElem_cons_succ, List.getElem_cons_zero, List.setIfInBounds_toArray, List.set_cons_zero, List.set_cons_succ]
        refine wpAnyH_take (i := 4) (v := ?vb4) rfl (by kernel_rfl) (by kernel_rfl) (by kernel_rfl) (fun _ _ _ h => h) (Or.inl ⟨by rfl, ?hb4⟩) HA.out ?rb4
        case hb4 => (intro W hW; (try dsimp only at hW); go_simp; try with_reducible rfl)
        simp only [Act.put, List.getElem_toArray, List.getElem_cons_succ, List.getElem_cons_zero, List.setIfInBounds_toArray, List.set_cons_zero, List.set_cons_succ]
        refine wpAnyH_take (i := 5) (v := ?vb5) rfl (by kernel_rfl) (by kernel_rfl) (by kernel_rfl) (fun _ _ _ h => h) (Or.inl ⟨by rfl, ?hb5⟩) HA.out ?rb5
        case hb5 => (intro W hW; (try dsimp only at hW); go_simp; try with_reducible rfl)
        simp only [Act.put, List.getElem_toArray, List.getElem_cons_succ, List.getElem_cons_zero, List.setIfInBounds_toArray, List.set_cons_zero, List.set_cons_succ]
        refine wpAnyH_take (i := 8) (v := ?vb8) rfl (by kernel_rfl) (by kernel_rfl) (by kernel_rfl) (fun _ _ _ h => h) (Or.inl ⟨by rfl, ?hb8⟩) HA.out ?rb8
        case hb8 => (intro W hW; (try dsimp only at hW); go_simp; try with_reducible rfl)
        simp only [Act.put, List.getElem_toArray, List.getElem_cons_succ, List.getElem_cons_zero, List.setIfInBounds_toArray, List.set_cons_zero, List.set_cons_succ]
        refine wpAnyH_ready (rs := [6]) (by kernel_rfl) (by simp) ?_
        refine AllReadyH.cons rfl (fun K hK => ?_) AllReadyH.nil
        go_simp
        obtain ⟨wA, hwA⟩ : ∃ wA, wA = (wc.alloc (.cells #[.slice a k c, .slice none 0 0, .slice (cutA a c k) (n - k) (c - k)] 22)).drew := ⟨_, rfl⟩
        have HBA : Hid (Below wc.heap.size wc wA) := by rw [hwA]; exact (Below.alloc0 wc _).drew
        have HT : Hid (RdT wA (some ⟨wc.heap.size, 0, none⟩) 3 [l.take k, [], l.drop k]) := by
          rw [hwA]
          exact rdT_three (w := wc) (c := c) (c1 := 0) (c2 := c - k) (HRc.out.first hkn') (n1 := 0) ⟨rfl, by simp, by omega⟩ (HRc.out.cut hkn' hnc) 22
        have HOF : Hid (Calls Try.prog 9 #[.slice (some ⟨wc.heap.size, 0, none⟩) 3 3] wA fun e w' => e = .returned (.int .u32 ((cSum l : Nat) : Int)) ∧ w' = wA) := by
          refine (of_any _ 3 3 _ wA HT.out (by omega) ?_).mono ?_
          · intro t ht
            have hl := HRc.out.1
            simp only [List.mem_cons, List.not_mem_nil, or_false] at ht
            rcases ht with rfl | rfl | rfl
            · rw [List.length_take]; omega
            · simp
            · rw [List.length_drop]; omega
          · rintro e w' ⟨rfl, rfl⟩
            have e3 : [l.take k, [], l.drop k].flatten = l := by simp
            rw [e3]
            exact ⟨rfl, rfl⟩
        have HA2 : Hid ((convert 22 9 (.slice a3 (n + 4) c3)).run Try.prog wA = .ok (.string (strB (l ++ sumB (cSum l)))) wA) := conv_rd (HSc.out.later HBA.out) c3
        have HRA : Hid (Rd wA a n l) := HRc.out.later HBA.out
        rw [← hwA]
        clear hwA HT
        refine hK.out _ _ HA2.out (fun _ => ?_)
        clear hK K
        refine wpAnyH_ready (rs := [7]) (by kernel_rfl) (by simp) ?_
        refine AllReadyH.cons rfl (fun K hK => ?_) AllReadyH.nil
        go_simp
        refine HOF.out.mono ?_
        rintro e w' ⟨rfl, rfl⟩
        refine hK.out _ _ HA2.out (fun _ => ?_)
        clear hK K
        refine wpAnyH_ready (rs := [9]) (by kernel_rfl) (by simp) ?_
        refine AllReadyH.cons rfl (fun K hK => ?_) AllReadyH.nil
        go_simp
        refine (refOf_any a n c l w' HRA.out (by omega)).mono ?_
        rintro e w'' ⟨rfl, rfl⟩
        refine hK.out _ _ HA2.out (fun _ => ?_)
        clear hK K
        refine wpAnyH_take (i := 10) (v := ?vb10) rfl (by kernel_rfl) (by kernel_rfl) (by kernel_rfl) (fun _ _ _ h => h) (Or.inl ⟨by rfl, ?hb10⟩) HA2.out ?rb10
        case hb10 => (intro W hW; (try dsimp only at hW); go_simp; try with_reducible rfl)
        simp only [Act.put, List.getElem_toArray, List.getElem_cons_succ, List.getElem_cons_zero, List.setIfInBounds_toArray, List.set_cons_zero, List.set_cons_succ]
        refine wpAnyH_take (i := 11) (v := ?vb11) rfl (by kernel_rfl) (by kernel_rfl) (by kernel_rfl) (fun _ _ _ h => h) (Or.inl ⟨by rfl, ?hb11⟩) HA2.out ?rb11
        case hb11 => (intro W hW; (try dsimp only at hW); go_simp; try with_reducible rfl)
        simp only [Act.put, List.getElem_toArray, List.getElem_cons_succ, List.getElem_cons_zero, List.setIfInBounds_toArray, List.set_cons_zero, List.set_cons_succ]
        refine wpAnyH_take (i := 12) (v := ?vb12) rfl (by kernel_rfl) (by kernel_rfl) (by kernel_rfl) (fun _ _ _ h => h) (Or.inl ⟨by rfl, ?hb12⟩) HA2.out ?rb12
        case hb12 => (intro W hW; (try dsimp only at hW); go_simp; try with_reducible rfl)
        simp only [Act.put, List.getElem_toArray, List.getElem_cons_succ, List.getElem_cons_zero, List.setIfInBounds_toArray, List.set_cons_zero, List.set_cons_succ]
        refine wpAnyH_take (i := 13) (v := ?vb13) rfl (by kernel_rfl) (by kernel_rfl) (by kernel_rfl) (fun _ _ _ h => h) (Or.inl ⟨by rfl, ?hb13⟩) HA2.out ?rb13
        case hb13 => (intro W hW; (try dsimp only at hW); go_simp; try with_reducible rfl)
        simp only [Act.put, List.getElem_toArray, List.getElem_cons_succ, List.getElem_cons_zero, List.setIfInBounds_toArray, List.set_cons_zero, List.set_cons_succ]
        refine wpAnyH_take (i := 14) (v := ?vb14) rfl (by kernel_rfl) (by kernel_rfl) (by kernel_rfl) (fun _ _ _ h => h) (Or.inl ⟨by rfl, ?hb14⟩) HA2.out ?rb14
        case hb14 => (intro W hW; (try dsimp only at hW); go_simp; try with_reducible rfl)
        simp only [Act.put, List.getElem_toArray, List.getElem_cons_succ, List.getElem_cons_zero, List.setIfInBounds_toArray, List.set_cons_zero, List.set_cons_succ]
        refine wpAnyH_ready (rs := [15]) (by kernel_rfl) (by simp) ?_
        refine AllReadyH.cons rfl (fun K hK => ?_) AllReadyH.nil
        go_simp
        refine (refSeal_sl a n c l w'' HRA.out (by omega)).mono ?_
        rintro e w9 ⟨a9, c9, rfl, hr9, hb9⟩
        have HR9 := Lib.hid hr9
        have HB9 : Hid (Below wc.heap.size wc w9) := HBA.out.trans (hb9.mono HBA.out.size)
        clear hr9 hb9
        have HA9 : Hid ((convert 22 9 (.slice a3 (n + 4) c3)).run Try.prog w9 = .ok (.string (strB (l ++ sumB (cSum l)))) w9) := conv_rd (HSc.out.later HB9.out) c3
        refine hK.out _ _ HA9.out (fun _ => ?_)
        clear hK K
        have HBB : Hid ((convert 22 9 (.slice a3 (n + 4) c3)).run Try.prog w9 = .ok (.string (strB (l ++ sumB (cSum l)))) w9 ∧ (convert 22 9 (.slice a9 (n + 4) c9)).run Try.prog w9 = .ok (.string (strB (l ++ sumB (cSum l)))) w9 ∧ (convert 22 9 (.slice a4 n c4)).run Try.prog w9 = .ok (.string (strB (l))) w9 ∧ (convert 22 9 (.slice a n c)).run Try.prog w9 = .ok (.string (strB (l))) w9 ∧ (convert 22 9 (.slice (cutA (some ⟨w1.heap.size, 0, none⟩) (n + 9) n) (q - n) 9)).run Try.prog w9 = .ok (.string (strB ([0, 0, 0, 0]))) w9) := ⟨HA9.out, conv_rd HR9.out c9, conv_rd (HCc.out.later HB9.out) c4, conv_rd (HRc.out.later HB9.out) c, conv_rd (HOWNz.out.later HB9.out) _⟩
        refine wpAnyH_strong (S1 := fun W => (convert 22 9 (.slice a3 (n + 4) c3)).run Try.prog W = .ok (.string (strB (l ++ sumB (cSum l)))) W ∧ (convert 22 9 (.slice a9 (n + 4) c9)).run Try.prog W = .ok (.string (strB (l ++ sumB (cSum l)))) W ∧ (convert 22 9 (.slice a4 n c4)).run Try.prog W = .ok (.string (strB (l))) W ∧ (convert 22 9 (.slice a n c)).run Try.prog W = .ok (.string (strB (l))) W ∧ (convert 22 9 (.slice (cutA (some ⟨w1.heap.size, 0, none⟩) (n + 9) n) (q - n) 9)).run Try.prog W = .ok (.string (strB ([0, 0, 0, 0]))) W) (fun _ h => h.1) ?_
        refine wpAnyH_take (i := 16) (v := ?vb16) rfl (by kernel_rfl) (by kernel_rfl) (by kernel_rfl) (fun _ _ _ h => h) (Or.inl ⟨by rfl, ?hb16⟩) HBB.out ?rb16
        case hb16 => (intro W hW; (try dsimp only at hW); go_simp; try with_reducible rfl)
        simp only [Act.put, List.getElem_toArray, List.getElem_cons_succ, List.getElem_cons_zero, List.setIfInBounds_toArray, List.set_cons_zero, List.set_cons_succ]
        refine wpAnyH_take (i := 17) (v := ?vb17) rfl (by kernel_rfl) (by kernel_rfl) (by kernel_rfl) (fun _ _ _ h => h) (Or.inl ⟨by rfl, ?hb17⟩) HBB.out ?rb17
        case hb17 => (intro W hW; (try dsimp only at hW); go_simp; try with_reducible rfl)
        simp only [Act.put, List.getElem_toArray, List.getElem_cons_succ, List.getElem_cons_zero, List.setIfInBounds_toArray, List.set_cons_zero, List.set_cons_succ]
        refine wpAnyH_take (i := 18) (v := ?vb18) rfl (by kernel_rfl) (by kernel_rfl) (by kernel_rfl) (fun _ _ _ h => h) (Or.inl ⟨by rfl, ?hb18⟩) HBB.out ?rb18
        case hb18 => (intro W hW; (try dsimp only at hW); go_simp; try with_reducible rfl)
        simp only [Act.put, List.getElem_toArray, List.getElem_cons_succ, List.getElem_cons_zero, List.setIfInBounds_toArray, List.set_cons_zero, List.set_cons_succ]
        refine wpAnyH_take (i := 19) (v := ?vb19) rfl (by kernel_rfl) (by kernel_rfl) (by kernel_rfl) (fun _ _ _ h => h) (Or.inl ⟨by rfl, ?hb19⟩) HBB.out ?rb19
        case hb19 => (intro W hW; (try dsimp only at hW); go_simp; try with_reducible rfl)
        simp only [Act.put, List.getElem_toArray, List.getElem_cons_succ, List.getElem_cons_zero, List.setIfInBounds_toArray, List.set_cons_zero, List.set_cons_succ]
        refine wpAnyH_take (i := 20) (v := ?vb20) rfl (by kernel_rfl) (by kernel_rfl) (by kernel_rfl) (fun _ _ _ h => h) (Or.inl ⟨by rfl, ?hb20⟩) HBB.out ?rb20
        case hb20 => (intro W hW; (try dsimp only at hW); go_simp; try with_reducible rfl)
        simp only [Act.put, List.getElem_toArray, List.getElem_cons_succ, List.getElem_cons_zero, List.setIfInBounds_toArray, List.set_cons_zero, List.set_cons_succ]
        refine wpAnyH_take (i := 21) (v := ?vb21) rfl (by kernel_rfl) (by kernel_rfl) (by kernel_rfl) (fun _ _ _ h => h) (Or.inl ⟨by rfl, ?hb21⟩) HBB.out ?rb21
        case hb21 => (intro W hW; (try dsimp only at hW); go_simp; try with_reducible rfl)
        simp only [Act.put, List.getElem_toArray, List.getElem_cons_succ, List.getElem_cons_zero, List.setIfInBounds_toArray, List.set_cons_zero, List.set_cons_succ]
        refine wpAnyH_take (i := 22) (v := ?vb22) rfl (by kernel_rfl) (by kernel_rfl) (by kernel_rfl) (fun _ _ _ h => h) (Or.inl ⟨by rfl, ?hb22⟩) HBB.out ?rb22
        case hb22 => (intro W hW; (try dsimp only at hW); go_simp; try with_reducible rfl)
        simp only [Act.put, List.getElem_toArray, List.getElem_cons_succ, List.getElem_cons_zero, List.setIfInBounds_toArray, List.set_cons_zero, List.set_cons_succ]
        refine wpAnyH_take (i := 23) (v := ?vb23) rfl (by kernel_rfl) (by kernel_rfl) (by kernel_rfl) (fun _ _ _ h => h) (Or.inl ⟨by rfl, ?hb23⟩) HBB.out ?rb23
        case hb23 => (intro W hW; (try dsimp only at hW); go_simp; try with_reducible rfl)
        simp only [Act.put, List.getElem_toArray, List.getElem_cons_succ, List.getElem_cons_zero, List.setIfInBounds_toArray, List.set_cons_zero, List.set_cons_succ]
        refine wpAnyH_take (i := 24) (v := ?vb24) rfl (by kernel_rfl) (by kernel_rfl) (by kernel_rfl) (fun _ _ _ h => h) (Or.inl ⟨by rfl, ?hb24⟩) HBB.out ?rb24
        case hb24 => (intro W hW; (try dsimp only at hW); go_simp; try with_reducible rfl)
        simp only [Act.put, List.getElem_toArray, List.getElem_cons_succ, List.getElem_cons_zero, List.setIfInBounds_toArray, List.set_cons_zero, List.set_cons_succ]
        refine wpAnyH_take (i := 25) (v := ?vb25) rfl (by kernel_rfl) (by kernel_rfl) (by kernel_rfl) (fun _ _ _ h => h) (Or.inl ⟨by rfl, ?hb25⟩) HBB.out ?rb25
        case hb25 => (intro W hW; (try dsimp only at hW); go_simp; try with_reducible rfl)
        simp only [Act.put, List.getElem_toArray, List.getElem_cons_succ, List.getElem_cons_zero, List.setIfInBounds_toArray, List.set_cons_zero, List.set_cons_succ]
        refine wpAnyH_take (i := 26) (v := ?vb26) rfl (by kernel_rfl) (by kernel_rfl) (by kernel_rfl) (fun _ _ _ h => h) (Or.inl ⟨by rfl, ?hb26⟩) HBB.out ?rb26
        case hb26 => (intro W hW; (try dsimp only at hW); go_simp; try with_reducible rfl)
        simp only [Act.put, List.getElem_toArray, List.getElem_cons_succ, List.getElem_cons_zero, List.setIfInBounds_toArray, List.set_cons_zero, List.set_cons_succ]
        refine wpAnyH_take (i := 27) (v := ?vb27) rfl (by kernel_rfl) (by kernel_rfl) (by kernel_rfl) (fun _ _ _ h => h) (Or.inl ⟨by rfl, ?hb27⟩) HBB.out ?rb27
        case hb27 => (intro W hW; (try dsimp only at hW); go_simp; try with_reducible rfl)
        simp only [Act.put, List.getElem_toArray, List.getElem_cons_succ, List.getElem_cons_zero, List.setIfInBounds_toArray, List.set_cons_zero, List.set_cons_succ]
        refine wpAnyH_take (i := 28) (v := ?vb28) rfl (by kernel_rfl) (by kernel_rfl) (by kernel_rfl) (fun _ _ _ h => h) (Or.inl ⟨by rfl, ?hb28⟩) HBB.out ?rb28
        case hb28 => (intro W hW; (try dsimp only at hW); go_simp; try with_reducible rfl)
        simp only [Act.put, List.getElem_toArray, List.getElem_cons_succ, List.getElem_cons_zero, List.setIfInBounds_toArray, List.set_cons_zero, List.set_cons_succ]
        refine wpAnyH_take (i := 29) (v := ?vb29) rfl (by kernel_rfl) (by kernel_rfl) (by kernel_rfl) (fun _ _ _ h => h) (Or.inl ⟨by rfl, ?hb29⟩) HBB.out ?rb29
        case hb29 => (intro W hW; (try dsimp only at hW); go_simp; try with_reducible rfl)
        simp only [Act.put, List.getElem_toArray, List.getElem_cons_succ, List.getElem_cons_zero, List.setIfInBounds_toArray, List.set_cons_zero, List.set_cons_succ]
        have HD9 := Lib.hid (HDc.out.later HB9.out)
        have HRO9 := Lib.hid (HROc.out.later HB9.out)
        have HBW9 : Hid (Below w.heap.size w w9) := HB1.out.trans ((HB1C.out.trans (HB9.out.mono HB1C.out.size)).mono HB1.out.size)
        clear HA HA2 HA9 HRA HOF HR9 HDc HROc HRc HSc HCc HOWNz HBC HB1C HB15 HB2 H1 HBA hsl1 hsl2 hmk
        rcases HCASE.out with ⟨hs, rfl, hld⟩ | ⟨hs, rfl, rfl⟩
        · have h4 : 4 ≤ on := by have := hs.1; rw [HRO9.out.1] at this; exact this
          obtain ⟨m, hm⟩ : ∃ m, m + 4 = on := ⟨on - 4, by omega⟩
          have hw4 : IntKind.i64.wrap ((on : Int) - 4) = (m : Int) := by rw [IntKind.wrap_i64]; omega
          have hsl5 := slice_to oa on oc m .i64 (by omega)
          have e4 : on - 4 = m := by omega
          rw [e4] at hld
          have HLD := Lib.hid hld
          rw [HLD.out] at HD9
          have HBC9 : Hid (((convert 22 9 (.slice a3 (n + 4) c3)).run Try.prog w9 = .ok (.string (strB (l ++ sumB (cSum l)))) w9 ∧ (convert 22 9 (.slice a9 (n + 4) c9)).run Try.prog w9 = .ok (.string (strB (l ++ sumB (cSum l)))) w9 ∧ (convert 22 9 (.slice a4 n c4)).run Try.prog w9 = .ok (.string (strB (l))) w9 ∧ (convert 22 9 (.slice a n c)).run Try.prog w9 = .ok (.string (strB (l))) w9 ∧ (convert 22 9 (.slice (cutA (some ⟨w1.heap.size, 0, none⟩) (n + 9) n) (q - n) 9)).run Try.prog w9 = .ok (.string (strB ([0, 0, 0, 0]))) w9) ∧ (convert 22 9 (.slice a5 n5 c5)).run Try.prog w9 = .ok (.string (strB (lo.take m))) w9 ∧ (convert 22 9 (.slice oa m oc)).run Try.prog w9 = .ok (.string (strB (lo.take m))) w9) := ⟨HBB.out, conv_rd HD9.out c5, conv_rd (HRO9.out.first (by omega)) oc⟩
          refine wpAnyH_strong (S1 := fun W => ((convert 22 9 (.slice a3 (n + 4) c3)).run Try.prog W = .ok (.string (strB (l ++ sumB (cSum l)))) W ∧ (convert 22 9 (.slice a9 (n + 4) c9)).run Try.prog W = .ok (.string (strB (l ++ sumB (cSum l)))) W ∧ (convert 22 9 (.slice a4 n c4)).run Try.prog W = .ok (.string (strB (l))) W ∧ (convert 22 9 (.slice a n c)).run Try.prog W = .ok (.string (strB (l))) W ∧ (convert 22 9 (.slice (cutA (some ⟨w1.heap.size, 0, none⟩) (n + 9) n) (q - n) 9)).run Try.prog W = .ok (.string (strB ([0, 0, 0, 0]))) W) ∧ (convert 22 9 (.slice a5 n5 c5)).run Try.prog W = .ok (.string (strB (lo.take m))) W ∧ (convert 22 9 (.slice oa m oc)).run Try.prog W = .ok (.string (strB (lo.take m))) W) (fun _ h => h.1) ?_
          clear HBB hs hld e4 hm h4
          refine wpAnyH_take (i := 30) (v := ?vc30) rfl (by kernel_rfl) (by kernel_rfl) (by kernel_rfl) (fun _ _ _ h => h) (Or.inl ⟨by rfl, ?hc30⟩) HBC9.out ?rc30
          case hc30 => (intro W hW; (try dsimp only at hW); go_simp; try with_reducible rfl)
          simp only [Act.put, List.getElem_toArray, List.getElem_cons_succ, List.getElem_cons_zero, List.setIfInBounds_toArray, List.set_cons_zero, List.set_cons_succ]
          refine wpAnyH_take (i := 31) (v := ?vc31) rfl (by kernel_rfl) (by kernel_rfl) (by kernel_rfl) (fun _ _ _ h => h) (Or.inl ⟨by rfl, ?hc31⟩) HBC9.out ?rc31
          case hc31 => (intro W hW; (try dsimp only at hW); go_simp; try with_reducible rfl)
          simp only [Act.put, List.getElem_toArray, List.getElem_cons_succ, List.getElem_cons_zero, List.setIfInBounds_toArray, List.set_cons_zero, List.set_cons_succ]
          refine wpAnyH_take (i := 32) (v := ?vc32) rfl (by kernel_rfl) (by kernel_rfl) (by kernel_rfl) (fun _ _ _ h => h) (Or.inl ⟨by rfl, ?hc32⟩) HBC9.out ?rc32
          case hc32 => (intro W hW; (try dsimp only at hW); go_simp; try with_reducible rfl)
          simp only [Act.put, List.getElem_toArray, List.getElem_cons_succ, List.getElem_cons_zero, List.setIfInBounds_toArray, List.set_cons_zero, List.set_cons_succ]
          refine wpAnyH_take (i := 33) (v := ?vc33) rfl (by kernel_rfl) (by kernel_rfl) (by kernel_rfl) (fun _ _ _ h => h) (Or.inl ⟨by rfl, ?hc33⟩) HBC9.out ?rc33
          case hc33 => (intro W hW; (try dsimp only at hW); go_simp; try with_reducible rfl)
          simp only [Act.put, List.getElem_toArray, List.getElem_cons_succ, List.getElem_cons_zero, List.setIfInBounds_toArray, List.set_cons_zero, List.set_cons_succ]
          refine wpAnyH_take (i := 34) (v := ?vc34) rfl (by kernel_rfl) (by kernel_rfl) (by kernel_rfl) (fun _ _ _ h => h) (Or.inl ⟨by rfl, ?hc34⟩) HBC9.out ?rc34
          case hc34 => (intro W hW; (try dsimp only at hW); go_simp; try with_reducible rfl)
          simp only [Act.put, List.getElem_toArray, List.getElem_cons_succ, List.getElem_cons_zero, List.setIfInBounds_toArray, List.set_cons_zero, List.set_cons_succ]
          refine wpAnyH_take (i := 35) (v := ?vc35) rfl (by kernel_rfl) (by kernel_rfl) (by kernel_rfl) (fun _ _ _ h => h) (Or.inl ⟨by rfl, ?hc35⟩) HBC9.out ?rc35
          case hc35 => (intro W hW; (try dsimp only at hW); go_simp; try with_reducible rfl)
          simp only [Act.put, List.getElem_toArray, List.getElem_cons_succ, List.getElem_cons_zero, List.setIfInBounds_toArray, List.set_cons_zero, List.set_cons_succ]
          refine wpAnyH_take (i := 36) (v := ?vc36) rfl (by kernel_rfl) (by kernel_rfl) (by kernel_rfl) (fun _ _ _ h => h) (Or.inl ⟨by rfl, ?hc36⟩) HBC9.out ?rc36
          case hc36 => (intro W hW; (try dsimp only at hW); go_simp; try with_reducible rfl)
          simp only [Act.put, List.getElem_toArray, List.getElem_cons_succ, List.getElem_cons_zero, List.setIfInBounds_toArray, List.set_cons_zero, List.set_cons_succ]
          refine wpAnyH_take (i := 37) (v := ?vc37) rfl (by kernel_rfl) (by kernel_rfl) (by kernel_rfl) (fun _ _ _ h => h) (Or.inl ⟨by rfl, ?hc37⟩) HBC9.out ?rc37
          case hc37 => (intro W hW; (try dsimp only at hW); go_simp; try with_reducible rfl)
          simp only [Act.put, List.getElem_toArray, List.getElem_cons_succ, List.getElem_cons_zero, List.setIfInBounds_toArray, List.set_cons_zero, List.set_cons_succ]
          refine wpAnyH_take (i := 38) (v := ?vc38) rfl (by kernel_rfl) (by kernel_rfl) (by kernel_rfl) (fun _ _ _ h => h) (Or.inl ⟨by rfl, ?hc38⟩) HBC9.out ?rc38
          case hc38 => (intro W hW; (try dsimp only at hW); go_simp; try with_reducible rfl)
          simp only [Act.put, List.getElem_toArray, List.getElem_cons_succ, List.getElem_cons_zero, List.setIfInBounds_toArray, List.set_cons_zero, List.set_cons_succ]
          refine wpAnyH_take (i := 39) (v := ?vc39) rfl (by kernel_rfl) (by kernel_rfl) (by kernel_rfl) (fun _ _ _ h => h) (Or.inl ⟨by rfl, ?hc39⟩) HBC9.out ?rc39
          case hc39 => (intro W hW; (try dsimp only at hW); go_simp; try with_reducible rfl)
          simp only [Act.put, List.getElem_toArray, List.getElem_cons_succ, List.getElem_cons_zero, List.setIfInBounds_toArray, List.set_cons_zero, List.set_cons_succ]
          refine wpAnyH_take (i := 40) (v := ?vc40) rfl (by kernel_rfl) (by kernel_rfl) (by kernel_rfl) (fun _ _ _ h => h) (Or.inl ⟨by rfl, ?hc40⟩) HBC9.out ?rc40
          case hc40 => (intro W hW; (try dsimp only at hW); go_simp; try with_reducible rfl)
          simp only [Act.put, List.getElem_toArray, List.getElem_cons_succ, List.getElem_cons_zero, List.setIfInBounds_toArray, List.set_cons_zero, List.set_cons_succ]
          refine wpAnyH_take (i := 41) (v := ?vc41) rfl (by kernel_rfl) (by kernel_rfl) (by kernel_rfl) (fun _ _ _ h => h) (Or.inl ⟨by rfl, ?hc41⟩) HBC9.out ?rc41
          case hc41 => (intro W hW; (try dsimp only at hW); go_simp; try with_reducible rfl)
          simp only [Act.put, List.getElem_toArray, List.getElem_cons_succ, List.getElem_cons_zero, List.setIfInBounds_toArray, List.set_cons_zero, List.set_cons_succ]
          refine wpAnyH_take (i := 42) (v := ?vc42) rfl (by kernel_rfl) (by kernel_rfl) (by kernel_rfl) (fun _ _ _ h => h) (Or.inl ⟨by rfl, ?hc42⟩) HBC9.out ?rc42
          case hc42 => (intro W hW; (try dsimp only at hW); go_simp; try with_reducible rfl)
          simp only [Act.put, List.getElem_toArray, List.getElem_cons_succ, List.getElem_cons_zero, List.setIfInBounds_toArray, List.set_cons_zero, List.set_cons_succ]
          refine wpAnyH_take (i := 43) (v := ?vc43) rfl (by kernel_rfl) (by kernel_rfl) (by kernel_rfl) (fun _ _ _ h => h) (Or.inl ⟨by rfl, ?hc43⟩) HBC9.out ?rc43
          case hc43 => (intro W hW; (try dsimp only at hW); go_simp; try with_reducible rfl)
          simp only [Act.put, List.getElem_toArray, List.getElem_cons_succ, List.getElem_cons_zero, List.setIfInBounds_toArray, List.set_cons_zero, List.set_cons_succ]
          refine wpAnyH_take (i := 44) (v := ?vc44) rfl (by kernel_rfl) (by kernel_rfl) (by kernel_rfl) (fun _ _ _ h => h) (Or.inl ⟨by rfl, ?hc44⟩) HBC9.out ?rc44
          case hc44 => (intro W hW; (try dsimp only at hW); go_simp; try with_reducible rfl)
          simp only [Act.put, List.getElem_toArray, List.getElem_cons_succ, List.getElem_cons_zero, List.setIfInBounds_toArray, List.set_cons_zero, List.set_cons_succ]
          refine wpAnyH_take (i := 45) (v := ?vc45) rfl (by kernel_rfl) (by kernel_rfl) (by kernel_rfl) (fun _ _ _ h => h) (Or.inl ⟨by rfl, ?hc45⟩) HBC9.out ?rc45
          case hc45 => (intro W hW; (try dsimp only at hW); go_simp; try with_reducible rfl)
          simp only [Act.put, List.getElem_toArray, List.getElem_cons_succ, List.getElem_cons_zero, List.setIfInBounds_toArray, List.set_cons_zero, List.set_cons_succ]
          refine wpAnyH_take (i := 46) (v := ?vc46) rfl (by kernel_rfl) (by kernel_rfl) (by kernel_rfl) (fun _ _ _ h => h) (Or.inl ⟨by rfl, ?hc46⟩) HBC9.out ?rc46
          case hc46 => (intro W hW; (try dsimp only at hW); go_simp; try with_reducible rfl)
          simp only [Act.put, List.getElem_toArray, List.getElem_cons_succ, List.getElem_cons_zero, List.setIfInBounds_toArray, List.set_cons_zero, List.set_cons_succ]
          refine wpAnyH_take (i := 47) (v := ?vc47) rfl (by kernel_rfl) (by kernel_rfl) (by kernel_rfl) (fun _ _ _ h => h) (Or.inl ⟨by rfl, ?hc47⟩) HBC9.out ?rc47
          case hc47 => (intro W hW; (try dsimp only at hW); go_simp; try with_reducible rfl)
          simp only [Act.put, List.getElem_toArray, List.getElem_cons_succ, List.getElem_cons_zero, List.setIfInBounds_toArray, List.set_cons_zero, List.set_cons_succ]
          refine wpAnyH_take (i := 48) (v := undef) rfl (by kernel_rfl) (by kernel_rfl) (by kernel_rfl) (fun _ _ _ h => h) (Or.inr ⟨by rfl, rfl⟩) HBC9.out ?rc48
          simp only [Act.put, List.getElem_toArray, List.getElem_cons_succ, List.getElem_cons_zero, List.setIfInBounds_toArray, List.set_cons_zero, List.set_cons_succ]
          refine wpAnyH_take (i := 49) (v := undef) rfl (by kernel_rfl) (by kernel_rfl) (by kernel_rfl) (fun _ _ _ h => h) (Or.inr ⟨by rfl, rfl⟩) HBC9.out ?rc49
          simp only [Act.put, List.getElem_toArray, List.getElem_cons_succ, List.getElem_cons_zero, List.setIfInBounds_toArray, List.set_cons_zero, List.set_cons_succ]
          refine wpAnyH_take (i := 50) (v := undef) rfl (by kernel_rfl) (by kernel_rfl) (by kernel_rfl) (fun _ _ _ h => h) (Or.inr ⟨by rfl, rfl⟩) HBC9.out ?rc50
          simp only [Act.put, List.getElem_toArray, List.getElem_cons_succ, List.getElem_cons_zero, List.setIfInBounds_toArray, List.set_cons_zero, List.set_cons_succ]
          refine wpAnyH_take (i := 51) (v := undef) rfl (by kernel_rfl) (by kernel_rfl) (by kernel_rfl) (fun _ _ _ h => h) (Or.inr ⟨by rfl, rfl⟩) HBC9.out ?rc51
          simp only [Act.put, List.getElem_toArray, List.getElem_cons_succ, List.getElem_cons_zero, List.setIfInBounds_toArray, List.set_cons_zero, List.set_cons_succ]
          refine wpAnyH_take (i := 52) (v := undef) rfl (by kernel_rfl) (by kernel_rfl) (by kernel_rfl) (fun _ _ _ h => h) (Or.inr ⟨by rfl, rfl⟩) HBC9.out ?rc52
          simp only [Act.put, List.getElem_toArray, List.getElem_cons_succ, List.getElem_cons_zero, List.setIfInBounds_toArray, List.set_cons_zero, List.set_cons_succ]
          refine wpAnyH_take (i := 53) (v := undef) rfl (by kernel_rfl) (by kernel_rfl) (by kernel_rfl) (fun _ _ _ h => h) (Or.inr ⟨by rfl, rfl⟩) HBC9.out ?rc53
          simp only [Act.put, List.getElem_toArray, List.getElem_cons_succ, List.getElem_cons_zero, List.setIfInBounds_toArray, List.set_cons_zero, List.set_cons_succ]
          refine wpAnyH_take (i := 54) (v := undef) rfl (by kernel_rfl) (by kernel_rfl) (by kernel_rfl) (fun _ _ _ h => h) (Or.inr ⟨by rfl, rfl⟩) HBC9.out ?rc54
          simp only [Act.put, List.getElem_toArray, List.getElem_cons_succ, List.getElem_cons_zero, List.setIfInBounds_toArray, List.set_cons_zero, List.set_cons_succ]
          refine wpAnyH_take (i := 55) (v := ?vc55) rfl (by kernel_rfl) (by kernel_rfl) (by kernel_rfl) (fun _ _ _ h => h) (Or.inl ⟨by rfl, ?hc55⟩) HBC9.out ?rc55
          case hc55 => (intro W hW; (try dsimp only at hW); go_simp; try with_reducible rfl)
          simp only [Act.put, List.getElem_toArray, List.getElem_cons_succ, List.getElem_cons_zero, List.setIfInBounds_toArray, List.set_cons_zero, List.set_cons_succ]
          refine wpAnyH_take (i := 56) (v := ?vc56) rfl (by kernel_rfl) (by kernel_rfl) (by kernel_rfl) (fun _ _ _ h => h) (Or.inl ⟨by rfl, ?hc56⟩) HBC9.out ?rc56
          case hc56 => (intro W hW; (try dsimp only at hW); go_simp; try with_reducible rfl)
          simp only [Act.put, List.getElem_toArray, List.getElem_cons_succ, List.getElem_cons_zero, List.setIfInBounds_toArray, List.set_cons_zero, List.set_cons_succ]
          refine wpAnyH_take (i := 57) (v := ?vc57) rfl (by kernel_rfl) (by kernel_rfl) (by kernel_rfl) (fun _ _ _ h => h) (Or.inl ⟨by rfl, ?hc57⟩) HBC9.out ?rc57
          case hc57 => (intro W hW; (try dsimp only at hW); go_simp; try with_reducible rfl)
          simp only [Act.put, List.getElem_toArray, List.getElem_cons_succ, List.getElem_cons_zero, List.setIfInBounds_toArray, List.set_cons_zero, List.set_cons_succ]
          have hwq := HWQ.out
          have hsl3 := HSL3.out
          have hsl4 := HSL4.out
          refine wpAnyH_take (i := 58) (v := ?vc58) rfl (by kernel_rfl) (by kernel_rfl) (by kernel_rfl) (fun _ _ _ h => h) (Or.inl ⟨by rfl, ?hc58⟩) HBC9.out ?rc58
          case hc58 => (intro W hW; (try dsimp only at hW); go_simp; try with_reducible rfl)
          simp only [Act.put, List.getElem_toArray, List.getElem_cons_succ, List.getElem_cons_zero, List.setIfInBounds_toArray, List.set_cons_zero, List.set_cons_succ]
          refine wpAnyH_take (i := 59) (v := ?vc59) rfl (by kernel_rfl) (by kernel_rfl) (by kernel_rfl) (fun _ _ _ h => h) (Or.inl ⟨by rfl, ?hc59⟩) HBC9.out ?rc59
          case hc59 => (intro W hW; (try dsimp only at hW); go_simp; try with_reducible rfl)
          simp only [Act.put, List.getElem_toArray, List.getElem_cons_succ, List.getElem_cons_zero, List.setIfInBounds_toArray, List.set_cons_zero, List.set_cons_succ]
          refine wpAnyH_take (i := 60) (v := ?vc60) rfl (by kernel_rfl) (by kernel_rfl) (by kernel_rfl) (fun _ _ _ h => h) (Or.inl ⟨by rfl, ?hc60⟩) HBC9.out ?rc60
          case hc60 => (intro W hW; (try dsimp only at hW); go_simp; try with_reducible rfl)
          simp only [Act.put, List.getElem_toArray, List.getElem_cons_succ, List.getElem_cons_zero, List.setIfInBounds_toArray, List.set_cons_zero, List.set_cons_succ]
          refine wpAnyH_take (i := 61) (v := ?vc61) rfl (by kernel_rfl) (by kernel_rfl) (by kernel_rfl) (fun _ _ _ h => h) (Or.inl ⟨by rfl, ?hc61⟩) HBC9.out ?rc61
          case hc61 => (intro W hW; (try dsimp only at hW); go_simp; try with_reducible rfl)
          simp only [Act.put, List.getElem_toArray, List.getElem_cons_succ, List.getElem_cons_zero, List.setIfInBounds_toArray, List.set_cons_zero, List.set_cons_succ]
          refine wpAnyH_take (i := 62) (v := ?vc62) rfl (by kernel_rfl) (by kernel_rfl) (by kernel_rfl) (fun _ _ _ h => h) (Or.inl ⟨by rfl, ?hc62⟩) HBC9.out ?rc62
          case hc62 => (intro W hW; (try dsimp only at hW); go_simp; try with_reducible rfl)
          simp only [Act.put, List.getElem_toArray, List.getElem_cons_succ, List.getElem_cons_zero, List.setIfInBounds_toArray, List.set_cons_zero, List.set_cons_succ]
          refine wpAnyH_take (i := 63) (v := ?vc63) rfl (by kernel_rfl) (by kernel_rfl) (by kernel_rfl) (fun _ _ _ h => h) (Or.inl ⟨by rfl, ?hc63⟩) HBC9.out ?rc63
          case hc63 => (intro W hW; (try dsimp only at hW); go_simp; try with_reducible rfl)
          simp only [Act.put, List.getElem_toArray, List.getElem_cons_succ, List.getElem_cons_zero, List.setIfInBounds_toArray, List.set_cons_zero, List.set_cons_succ]
          refine wpAnyH_take (i := 64) (v := ?vc64) rfl (by kernel_rfl) (by kernel_rfl) (by kernel_rfl) (fun _ _ _ h => h) (Or.inl ⟨by rfl, ?hc64⟩) HBC9.out ?rc64
          case hc64 => (intro W hW; (try dsimp only at hW); go_simp; try with_reducible rfl)
          simp only [Act.put, List.getElem_toArray, List.getElem_cons_succ, List.getElem_cons_zero, List.setIfInBounds_toArray, List.set_cons_zero, List.set_cons_succ]
          refine wpAnyH_take (i := 65) (v := ?vc65) rfl (by kernel_rfl) (by kernel_rfl) (by kernel_rfl) (fun _ _ _ h => h) (Or.inl ⟨by rfl, ?hc65⟩) HBC9.out ?rc65
          case hc65 => (intro W hW; (try dsimp only at hW); go_simp; try with_reducible rfl)
          simp only [Act.put, List.getElem_toArray, List.getElem_cons_succ, List.getElem_cons_zero, List.setIfInBounds_toArray, List.set_cons_zero, List.set_cons_succ]
          refine wpAnyH_take (i := 66) (v := ?vc66) rfl (by kernel_rfl) (by kernel_rfl) (by kernel_rfl) (fun _ _ _ h => h) (Or.inl ⟨by rfl, ?hc66⟩) HBC9.out ?rc66
          case hc66 => (intro W hW; (try dsimp only at hW); go_simp; try with_reducible rfl)
          simp only [Act.put, List.getElem_toArray, List.getElem_cons_succ, List.getElem_cons_zero, List.setIfInBounds_toArray, List.set_cons_zero, List.set_cons_succ]
          refine wpAnyH_take (i := 67) (v := ?vc67) rfl (by kernel_rfl) (by kernel_rfl) (by kernel_rfl) (fun _ _ _ h => h) (Or.inl ⟨by rfl, ?hc67⟩) HBC9.out ?rc67
          case hc67 => (intro W hW; (try dsimp only at hW); go_simp; try with_reducible rfl)
          simp only [Act.put, List.getElem_toArray, List.getElem_cons_succ, List.getElem_cons_zero, List.setIfInBounds_toArray, List.set_cons_zero, List.set_cons_succ]
          refine wpAnyH_take (i := 68) (v := ?vc68) rfl (by kernel_rfl) (by kernel_rfl) (by kernel_rfl) (fun _ _ _ h => h) (Or.inl ⟨by rfl, ?hc68⟩) HBC9.out ?rc68
          case hc68 => (intro W hW; (try dsimp only at hW); go_simp; try with_reducible rfl)
          simp only [Act.put, List.getElem_toArray, List.getElem_cons_succ, List.getElem_cons_zero, List.setIfInBounds_toArray, List.set_cons_zero, List.set_cons_succ]
          refine wpAnyH_take (i := 69) (v := ?vc69) rfl (by kernel_rfl) (by kernel_rfl) (by kernel_rfl) (fun _ _ _ h => h) (Or.inl ⟨by rfl, ?hc69⟩) HBC9.out ?rc69
          case hc69 => (intro W hW; (try dsimp only at hW); go_simp; try with_reducible rfl)
          simp only [Act.put, List.getElem_toArray, List.getElem_cons_succ, List.getElem_cons_zero, List.setIfInBounds_toArray, List.set_cons_zero, List.set_cons_succ]
          refine wpAnyH_done (by kernel_rfl) ?_ _
          go_wp2
          go_ret
          exact ⟨ret_bool HZZ.out, HBW9.out⟩
        · clear hs
          refine wpAnyH_take (i := 30) (v := ?vd30) rfl (by kernel_rfl) (by kernel_rfl) (by kernel_rfl) (fun _ _ _ h => h) (Or.inl ⟨by rfl, ?hd30⟩) HBB.out ?rd30
          case hd30 => (intro W hW; (try dsimp only at hW); go_simp; try with_reducible rfl)
          simp only [Act.put, List.getElem_toArray, List.getElem_cons_succ, List.getElem_cons_zero, List.setIfInBounds_toArray, List.set_cons_zero, List.set_cons_succ]
          refine wpAnyH_take (i := 31) (v := ?vd31) rfl (by kernel_rfl) (by kernel_rfl) (by kernel_rfl) (fun _ _ _ h => h) (Or.inl ⟨by rfl, ?hd31⟩) HBB.out ?rd31
          case hd31 => (intro W hW; (try dsimp only at hW); go_simp; try with_reducible rfl)
          simp only [Act.put, List.getElem_toArray, List.getElem_cons_succ, List.getElem_cons_zero, List.setIfInBounds_toArray, List.set_cons_zero, List.set_cons_succ]
          refine wpAnyH_take (i := 32) (v := ?vd32) rfl (by kernel_rfl) (by kernel_rfl) (by kernel_rfl) (fun _ _ _ h => h) (Or.inl ⟨by rfl, ?hd32⟩) HBB.out ?rd32
          case hd32 => (intro W hW; (try dsimp only at hW); go_simp; try with_reducible rfl)
          simp only [Act.put, List.getElem_toArray, List.getElem_cons_succ, List.getElem_cons_zero, List.setIfInBounds_toArray, List.set_cons_zero, List.set_cons_succ]
          refine wpAnyH_take (i := 33) (v := ?vd33) rfl (by kernel_rfl) (by kernel_rfl) (by kernel_rfl) (fun _ _ _ h => h) (Or.inl ⟨by rfl, ?hd33⟩) HBB.out ?rd33
          case hd33 => (intro W hW; (try dsimp only at hW); go_simp; try with_reducible rfl)
          simp only [Act.put, List.getElem_toArray, List.getElem_cons_succ, List.getElem_cons_zero, List.setIfInBounds_toArray, List.set_cons_zero, List.set_cons_succ]
          refine wpAnyH_take (i := 34) (v := ?vd34) rfl (by kernel_rfl) (by kernel_rfl) (by kernel_rfl) (fun _ _ _ h => h) (Or.inl ⟨by rfl, ?hd34⟩) HBB.out ?rd34
          case hd34 => (intro W hW; (try dsimp only at hW); go_simp; try with_reducible rfl)
          simp only [Act.put, List.getElem_toArray, List.getElem_cons_succ, List.getElem_cons_zero, List.setIfInBounds_toArray, List.set_cons_zero, List.set_cons_succ]
          refine wpAnyH_take (i := 35) (v := ?vd35) rfl (by kernel_rfl) (by kernel_rfl) (by kernel_rfl) (fun _ _ _ h => h) (Or.inl ⟨by rfl, ?hd35⟩) HBB.out ?rd35
          case hd35 => (intro W hW; (try dsimp only at hW); go_simp; try with_reducible rfl)
          simp only [Act.put, List.getElem_toArray, List.getElem_cons_succ, List.getElem_cons_zero, List.setIfInBounds_toArray, List.set_cons_zero, List.set_cons_succ]
          refine wpAnyH_take (i := 36) (v := ?vd36) rfl (by kernel_rfl) (by kernel_rfl) (by kernel_rfl) (fun _ _ _ h => h) (Or.inl ⟨by rfl, ?hd36⟩) HBB.out ?rd36
          case hd36 => (intro W hW; (try dsimp only at hW); go_simp; try with_reducible rfl)
          simp only [Act.put, List.getElem_toArray, List.getElem_cons_succ, List.getElem_cons_zero, List.setIfInBounds_toArray, List.set_cons_zero, List.set_cons_succ]
          refine wpAnyH_take (i := 37) (v := undef) rfl (by kernel_rfl) (by kernel_rfl) (by kernel_rfl) (fun _ _ _ h => h) (Or.inr ⟨by rfl, rfl⟩) HBB.out ?rd37
          simp only [Act.put, List.getElem_toArray, List.getElem_cons_succ, List.getElem_cons_zero, List.setIfInBounds_toArray, List.set_cons_zero, List.set_cons_succ]
          refine wpAnyH_take (i := 38) (v := undef) rfl (by kernel_rfl) (by kernel_rfl) (by kernel_rfl) (fun _ _ _ h => h) (Or.inr ⟨by rfl, rfl⟩) HBB.out ?rd38
          simp only [Act.put, List.getElem_toArray, List.getElem_cons_succ, List.getElem_cons_zero, List.setIfInBounds_toArray, List.set_cons_zero, List.set_cons_succ]
          refine wpAnyH_take (i := 39) (v := undef) rfl (by kernel_rfl) (by kernel_rfl) (by kernel_rfl) (fun _ _ _ h => h) (Or.inr ⟨by rfl, rfl⟩) HBB.out ?rd39
          simp only [Act.put, List.getElem_toArray, List.getElem_cons_succ, List.getElem_cons_zero, List.setIfInBounds_toArray, List.set_cons_zero, List.set_cons_succ]
          refine wpAnyH_take (i := 40) (v := undef) rfl (by kernel_rfl) (by kernel_rfl) (by kernel_rfl) (fun _ _ _ h => h) (Or.inr ⟨by rfl, rfl⟩) HBB.out ?rd40
          simp only [Act.put, List.getElem_toArray, List.getElem_cons_succ, List.getElem_cons_zero, List.setIfInBounds_toArray, List.set_cons_zero, List.set_cons_succ]
          refine wpAnyH_take (i := 41) (v := undef) rfl (by kernel_rfl) (by kernel_rfl) (by kernel_rfl) (fun _ _ _ h => h) (Or.inr ⟨by rfl, rfl⟩) HBB.out ?rd41
          simp only [Act.put, List.getElem_toArray, List.getElem_cons_succ, List.getElem_cons_zero, List.setIfInBounds_toArray, List.set_cons_zero, List.set_cons_succ]
          refine wpAnyH_take (i := 42) (v := undef) rfl (by kernel_rfl) (by kernel_rfl) (by kernel_rfl) (fun _ _ _ h => h) (Or.inr ⟨by rfl, rfl⟩) HBB.out ?rd42
          simp only [Act.put, List.getElem_toArray, List.getElem_cons_succ, List.getElem_cons_zero, List.setIfInBounds_toArray, List.set_cons_zero, List.set_cons_succ]
          refine wpAnyH_take (i := 43) (v := undef) rfl (by kernel_rfl) (by kernel_rfl) (by kernel_rfl) (fun _ _ _ h => h) (Or.inr ⟨by rfl, rfl⟩) HBB.out ?rd43
          simp only [Act.put, List.getElem_toArray, List.getElem_cons_succ, List.getElem_cons_zero, List.setIfInBounds_toArray, List.set_cons_zero, List.set_cons_succ]
          refine wpAnyH_take (i := 44) (v := undef) rfl (by kernel_rfl) (by kernel_rfl) (by kernel_rfl) (fun _ _ _ h => h) (Or.inr ⟨by rfl, rfl⟩) HBB.out ?rd44
          simp only [Act.put, List.getElem_toArray, List.getElem_cons_succ, List.getElem_cons_zero, List.setIfInBounds_toArray, List.set_cons_zero, List.set_cons_succ]
          refine wpAnyH_take (i := 45) (v := undef) rfl (by kernel_rfl) (by kernel_rfl) (by kernel_rfl) (fun _ _ _ h => h) (Or.inr ⟨by rfl, rfl⟩) HBB.out ?rd45
          simp only [Act.put, List.getElem_toArray, List.getElem_cons_succ, List.getElem_cons_zero, List.setIfInBounds_toArray, List.set_cons_zero, List.set_cons_succ]
          refine wpAnyH_take (i := 46) (v := ?vd46) rfl (by kernel_rfl) (by kernel_rfl) (by kernel_rfl) (fun _ _ _ h => h) (Or.inl ⟨by rfl, ?hd46⟩) HBB.out ?rd46
          case hd46 => (intro W hW; (try dsimp only at hW); go_simp; try with_reducible rfl)
          simp only [Act.put, List.getElem_toArray, List.getElem_cons_succ, List.getElem_cons_zero, List.setIfInBounds_toArray, List.set_cons_zero, List.set_cons_succ]
          refine wpAnyH_take (i := 47) (v := ?vd47) rfl (by kernel_rfl) (by kernel_rfl) (by kernel_rfl) (fun _ _ _ h => h) (Or.inl ⟨by rfl, ?hd47⟩) HBB.out ?rd47
          case hd47 => (intro W hW; (try dsimp only at hW); go_simp; try with_reducible rfl)
          simp only [Act.put, List.getElem_toArray, List.getElem_cons_succ, List.getElem_cons_zero, List.setIfInBounds_toArray, List.set_cons_zero, List.set_cons_succ]
          refine wpAnyH_take (i := 48) (v := ?vd48) rfl (by kernel_rfl) (by kernel_rfl) (by kernel_rfl) (fun _ _ _ h => h) (Or.inl ⟨by rfl, ?hd48⟩) HBB.out ?rd48
          case hd48 => (intro W hW; (try dsimp only at hW); go_simp; try with_reducible rfl)
          simp only [Act.put, List.getElem_toArray, List.getElem_cons_succ, List.getElem_cons_zero, List.setIfInBounds_toArray, List.set_cons_zero, List.set_cons_succ]
          refine wpAnyH_take (i := 49) (v := ?vd49) rfl (by kernel_rfl) (by kernel_rfl) (by kernel_rfl) (fun _ _ _ h => h) (Or.inl ⟨by rfl, ?hd49⟩) HBB.out ?rd49
          case hd49 => (intro W hW; (try dsimp only at hW); go_simp; try with_reducible rfl)
          simp only [Act.put, List.getElem_toArray, List.getElem_cons_succ, List.getElem_cons_zero, List.setIfInBounds_toArray, List.set_cons_zero, List.set_cons_succ]
          refine wpAnyH_take (i := 50) (v := ?vd50) rfl (by kernel_rfl) (by kernel_rfl) (by kernel_rfl) (fun _ _ _ h => h) (Or.inl ⟨by rfl, ?hd50⟩) HBB.out ?rd50
          case hd50 => (intro W hW; (try dsimp only at hW); go_simp; try with_reducible rfl)
          simp only [Act.put, List.getElem_toArray, List.getElem_cons_succ, List.getElem_cons_zero, List.setIfInBounds_toArray, List.set_cons_zero, List.set_cons_succ]
          refine wpAnyH_take (i := 51) (v := ?vd51) rfl (by kernel_rfl) (by kernel_rfl) (by kernel_rfl) (fun _ _ _ h => h) (Or.inl ⟨by rfl, ?hd51⟩) HBB.out ?rd51
          case hd51 => (intro W hW; (try dsimp only at hW); go_simp; try with_reducible rfl)
          simp only [Act.put, List.getElem_toArray, List.getElem_cons_succ, List.getElem_cons_zero, List.setIfInBounds_toArray, List.set_cons_zero, List.set_cons_succ]
          refine wpAnyH_take (i := 52) (v := ?vd52) rfl (by kernel_rfl) (by kernel_rfl) (by kernel_rfl) (fun _ _ _ h => h) (Or.inl ⟨by rfl, ?hd52⟩) HBB.out ?rd52
          case hd52 => (intro W hW; (try dsimp only at hW); go_simp; try with_reducible rfl)
          simp only [Act.put, List.getElem_toArray, List.getElem_cons_succ, List.getElem_cons_zero, List.setIfInBounds_toArray, List.set_cons_zero, List.set_cons_succ]
          refine wpAnyH_take (i := 53) (v := ?vd53) rfl (by kernel_rfl) (by kernel_rfl) (by kernel_rfl) (fun _ _ _ h => h) (Or.inl ⟨by rfl, ?hd53⟩) HBB.out ?rd53
          case hd53 => (intro W hW; (try dsimp only at hW); go_simp; try with_reducible rfl)
          simp only [Act.put, List.getElem_toArray, List.getElem_cons_succ, List.getElem_cons_zero, List.setIfInBounds_toArray, List.set_cons_zero, List.set_cons_succ]
          refine wpAnyH_take (i := 54) (v := ?vd54) rfl (by kernel_rfl) (by kernel_rfl) (by kernel_rfl) (fun _ _ _ h => h) (Or.inl ⟨by rfl, ?hd54⟩) HBB.out ?rd54
          case hd54 => (intro W hW; (try dsimp only at hW); go_simp; try with_reducible rfl)
          simp only [Act.put, List.getElem_toArray, List.getElem_cons_succ, List.getElem_cons_zero, List.setIfInBounds_toArray, List.set_cons_zero, List.set_cons_succ]
          refine wpAnyH_take (i := 55) (v := ?vd55) rfl (by kernel_rfl) (by kernel_rfl) (by kernel_rfl) (fun _ _ _ h => h) (Or.inl ⟨by rfl, ?hd55⟩) HBB.out ?rd55
          case hd55 => (intro W hW; (try dsimp only at hW); go_simp; try with_reducible rfl)
          simp only [Act.put, List.getElem_toArray, List.getElem_cons_succ, List.getElem_cons_zero, List.setIfInBounds_toArray, List.set_cons_zero, List.set_cons_succ]
          refine wpAnyH_take (i := 56) (v := ?vd56) rfl (by kernel_rfl) (by kernel_rfl) (by kernel_rfl) (fun _ _ _ h => h) (Or.inl ⟨by rfl, ?hd56⟩) HBB.out ?rd56
          case hd56 => (intro W hW; (try dsimp only at hW); go_simp; try with_reducible rfl)
          simp only [Act.put, List.getElem_toArray, List.getElem_cons_succ, List.getElem_cons_zero, List.setIfInBounds_toArray, List.set_cons_zero, List.set_cons_succ]
          refine wpAnyH_take (i := 57) (v := ?vd57) rfl (by kernel_rfl) (by kernel_rfl) (by kernel_rfl) (fun _ _ _ h => h) (Or.inl ⟨by rfl, ?hd57⟩) HBB.out ?rd57
          case hd57 => (intro W hW; (try dsimp only at hW); go_simp; try with_reducible rfl)
          simp only [Act.put, List.getElem_toArray, List.getElem_cons_succ, List.getElem_cons_zero, List.setIfInBounds_toArray, List.set_cons_zero, List.set_cons_succ]
          have hwq := HWQ.out
          have hsl3 := HSL3.out
          have hsl4 := HSL4.out
          refine wpAnyH_take (i := 58) (v := ?vd58) rfl (by kernel_rfl) (by kernel_rfl) (by kernel_rfl) (fun _ _ _ h => h) (Or.inl ⟨by rfl, ?hd58⟩) HBB.out ?rd58
          case hd58 => (intro W hW; (try dsimp only at hW); go_simp; try with_reducible rfl)
          simp only [Act.put, List.getElem_toArray, List.getElem_cons_succ, List.getElem_cons_zero, List.setIfInBounds_toArray, List.set_cons_zero, List.set_cons_succ]
          refine wpAnyH_take (i := 59) (v := ?vd59) rfl (by kernel_rfl) (by kernel_rfl) (by kernel_rfl) (fun _ _ _ h => h) (Or.inl ⟨by rfl, ?hd59⟩) HBB.out ?rd59
          case hd59 => (intro W hW; (try dsimp only at hW); go_simp; try with_reducible rfl)
          simp only [Act.put, List.getElem_toArray, List.getElem_cons_succ, List.getElem_cons_zero, List.setIfInBounds_toArray, List.set_cons_zero, List.set_cons_succ]
          refine wpAnyH_take (i := 60) (v := ?vd60) rfl (by kernel_rfl) (by kernel_rfl) (by kernel_rfl) (fun _ _ _ h => h) (Or.inl ⟨by rfl, ?hd60⟩) HBB.out ?rd60
          case hd60 => (intro W hW; (try dsimp only at hW); go_simp; try with_reducible rfl)
          simp only [Act.put, List.getElem_toArray, List.getElem_cons_succ, List.getElem_cons_zero, List.setIfInBounds_toArray, List.set_cons_zero, List.set_cons_succ]
          refine wpAnyH_take (i := 61) (v := ?vd61) rfl (by kernel_rfl) (by kernel_rfl) (by kernel_rfl) (fun _ _ _ h => h) (Or.inl ⟨by rfl, ?hd61⟩) HBB.out ?rd61
          case hd61 => (intro W hW; (try dsimp only at hW); go_simp; try with_reducible rfl)
          simp only [Act.put, List.getElem_toArray, List.getElem_cons_succ, List.getElem_cons_zero, List.setIfInBounds_toArray, List.set_cons_zero, List.set_cons_succ]
          refine wpAnyH_take (i := 62) (v := ?vd62) rfl (by kernel_rfl) (by kernel_rfl) (by kernel_rfl) (fun _ _ _ h => h) (Or.inl ⟨by rfl, ?hd62⟩) HBB.out ?rd62
          case hd62 => (intro W hW; (try dsimp only at hW); go_simp; try with_reducible rfl)
          simp only [Act.put, List.getElem_toArray, List.getElem_cons_succ, List.getElem_cons_zero, List.setIfInBounds_toArray, List.set_cons_zero, List.set_cons_succ]
          refine wpAnyH_take (i := 63) (v := ?vd63) rfl (by kernel_rfl) (by kernel_rfl) (by kernel_rfl) (fun _ _ _ h => h) (Or.inl ⟨by rfl, ?hd63⟩) HBB.out ?rd63
          case hd63 => (intro W hW; (try dsimp only at hW); go_simp; try with_reducible rfl)
          simp only [Act.put, List.getElem_toArray, List.getElem_cons_succ, List.getElem_cons_zero, List.setIfInBounds_toArray, List.set_cons_zero, List.set_cons_succ]
          refine wpAnyH_take (i := 64) (v := ?vd64) rfl (by kernel_rfl) (by kernel_rfl) (by kernel_rfl) (fun _ _ _ h => h) (Or.inl ⟨by rfl, ?hd64⟩) HBB.out ?rd64
          case hd64 => (intro W hW; (try dsimp only at hW); go_simp; try with_reducible rfl)
          simp only [Act.put, List.getElem_toArray, List.getElem_cons_succ, List.getElem_cons_zero, List.setIfInBounds_toArray, List.set_cons_zero, List.set_cons_succ]
          refine wpAnyH_take (i := 65) (v := ?vd65) rfl (by kernel_rfl) (by kernel_rfl) (by kernel_rfl) (fun _ _ _ h => h) (Or.inl ⟨by rfl, ?hd65⟩) HBB.out ?rd65
          case hd65 => (intro W hW; (try dsimp only at hW); go_simp; try with_reducible rfl)
          simp only [Act.put, List.getElem_toArray, List.getElem_cons_succ, List.getElem_cons_zero, List.setIfInBounds_toArray, List.set_cons_zero, List.set_cons_succ]
          refine wpAnyH_take (i := 66) (v := ?vd66) rfl (by kernel_rfl) (by kernel_rfl) (by kernel_rfl) (fun _ _ _ h => h) (Or.inl ⟨by rfl, ?hd66⟩) HBB.out ?rd66
          case hd66 => (intro W hW; (try dsimp only at hW); go_simp; try with_reducible rfl)
          simp only [Act.put, List.getElem_toArray, List.getElem_cons_succ, List.getElem_cons_zero, List.setIfInBounds_toArray, List.set_cons_zero, List.set_cons_succ]
          refine wpAnyH_take (i := 67) (v := ?vd67) rfl (by kernel_rfl) (by kernel_rfl) (by kernel_rfl) (fun _ _ _ h => h) (Or.inl ⟨by rfl, ?hd67⟩) HBB.out ?rd67
          case hd67 => (intro W hW; (try dsimp only at hW); go_simp; try with_reducible rfl)
          simp only [Act.put, List.getElem_toArray, List.getElem_cons_succ, List.getElem_cons_zero, List.setIfInBounds_toArray, List.set_cons_zero, List.set_cons_succ]
          refine wpAnyH_take (i := 68) (v := ?vd68) rfl (by kernel_rfl) (by kernel_rfl) (by kernel_rfl) (fun _ _ _ h => h) (Or.inl ⟨by rfl, ?hd68⟩) HBB.out ?rd68
          case hd68 => (intro W hW; (try dsimp only at hW); go_simp; try with_reducible rfl)
          simp only [Act.put, List.getElem_toArray, List.getElem_cons_succ, List.getElem_cons_zero, List.setIfInBounds_toArray, List.set_cons_zero, List.set_cons_succ]
          refine wpAnyH_take (i := 69) (v := ?vd69) rfl (by kernel_rfl) (by kernel_rfl) (by kernel_rfl) (fun _ _ _ h => h) (Or.inl ⟨by rfl, ?hd69⟩) HBB.out ?rd69
          case hd69 => (intro W hW; (try dsimp only at hW); go_simp; try with_reducible rfl)
          simp only [Act.put, List.getElem_toArray, List.getElem_cons_succ, List.getElem_cons_zero, List.setIfInBounds_toArray, List.set_cons_zero, List.set_cons_succ]
          refine wpAnyH_done (by kernel_rfl) ?_ _
          go_wp2
          go_ret
          exact ⟨ret_bool HZZ.out, HBW9.out⟩
end Go.Proofs.Ytpkodhmlplohfaa
