/- SnapActs returns true at every input: any calls, while power falls, or not; the arguments read as they did. No condition. -/
import Derived.Test.YtaijjogjohbheaaGreatSAct2
import Derived.Test.YtaijjogjohbheaaGreatMemOpen
import Derived.Test.YtaijjogjohbheaaGreatStructs
namespace Go.Proofs.YtaijjogjohbheaaGreat
open Go.ChangeShapes Go.WideShapes Go.ChangeAt Go.RowKit Go.Deep

/-- A slice of acts that came in. -/
theorem acs_open {H : Type} {enc : TypeId × Value → H} {W : World} {b0 : Nat} {held : Bool} {a : Option Addr} {n c : Nat} {d : DataW H} {p : List MemPlace}
    (h : DataW.Trod enc Tryz.prog W b0 (fun _ => true) held 22 (.slice a n c) d p) : ∃ X, RdA W a n X := by
  obtain ⟨_, _, hk⟩ := structs_open Tryz.underlying22 Tryz.underlying42 (by kernel_rfl) (by kernel_rfl) _ rfl h
  rcases Nat.eq_zero_or_pos n with h0 | h0
  · subst h0
    exact ⟨[], rfl, by simp, by omega⟩
  · obtain ⟨b, o, rfl, hc⟩ := hk h0
    have cell : ∀ i, ∃ x : Ac, i < n → (∀ j u, (acV x)[j]? = some u → W.cell? ⟨b, o + i * 7 + j, none⟩ = some u) ∧ x.fits W := by
      intro i
      by_cases hi : i < n
      · obtain ⟨v0, _, _, h0, t0⟩ := hc i hi 0 _ rfl
        obtain ⟨v1, _, _, h1, t1⟩ := hc i hi 1 _ rfl
        obtain ⟨v2, _, _, h2, t2⟩ := hc i hi 2 _ rfl
        obtain ⟨v3, _, ⟨d3, p3⟩, h3, t3⟩ := hc i hi 3 _ rfl
        obtain ⟨v4, _, _, h4, t4⟩ := hc i hi 4 _ rfl
        obtain ⟨v5, _, _, h5, t5⟩ := hc i hi 5 _ rfl
        obtain ⟨v6, _, _, h6, t6⟩ := hc i hi 6 _ rfl
        obtain ⟨K, e0, _, w0⟩ := DataW.trod_int Tryz.underlying5 t0
        obtain ⟨I, e1, _, _⟩ := DataW.trod_int Tryz.underlying3 t1
        obtain ⟨J, e2, _, _⟩ := DataW.trod_int Tryz.underlying3 t2
        obtain ⟨fl, e4, _⟩ := DataW.trod_bool Tryz.underlying4 t4
        obtain ⟨P, e5, _, w5⟩ := DataW.trod_int Tryz.underlying3 t5
        obtain ⟨Z, e6, _, _⟩ := DataW.trod_int Tryz.underlying3 t6
        simp only [List.cons.injEq, and_true] at e0 e1 e2 e4 e5 e6
        subst e0 e1 e2 e4 e5 e6
        have b0 := bounds_u8 w0
        have b5 := bounds_i64 w5
        have hK : ((K.toNat : Nat) : Int) = K := Int.toNat_of_nonneg b0.1
        have fin : ∀ (x : Ac), acV x = [.int .u8 K, .int .i64 I, .int .i64 J, v3, .bool fl, .int .i64 P, .int .i64 Z] → ∀ j u, (acV x)[j]? = some u → W.cell? ⟨b, o + i * 7 + j, none⟩ = some u := by
          intro x hx j u hu
          rw [hx] at hu
          match j, hu with
          | 0, hu => injection hu with hu; subst hu; exact h0
          | 1, hu => injection hu with hu; subst hu; exact h1
          | 2, hu => injection hu with hu; subst hu; exact h2
          | 3, hu => injection hu with hu; subst hu; exact h3
          | 4, hu => injection hu with hu; subst hu; exact h4
          | 5, hu => injection hu with hu; subst hu; exact h5
          | 6, hu => injection hu with hu; subst hu; exact h6
          | j + 7, hu => exact absurd hu (by simp)
        rcases open_ints Tryz.underlying40 Tryz.underlying5 (by kernel_rfl) t3 with ⟨hcs, _⟩ | ⟨x, l, c', zs, hcs, _, hl, hm, hz, _, hcell, hwz⟩
        · simp only [List.cons.injEq, and_true] at hcs
          subst hcs
          refine ⟨⟨K.toNat, I, J, none, 0, 0, fl, P, Z, []⟩, fun _ => ⟨fin _ (by simp only [acV, hK]), ?_⟩⟩
          exact ⟨by simp only; omega, rfl, by simp, by simp⟩
        · simp only [List.cons.injEq, and_true] at hcs
          subst hcs
          refine ⟨⟨K.toNat, I, J, some x, l, c', fl, P, Z, (zs.take l).map Int.toNat⟩, fun _ => ⟨fin _ (by simp only [acV, hK]), ?_⟩⟩
          exact ⟨by simp only; omega, (nums_of (k := .u8) (fun z hz => (bounds_u8 hz).1) hl (by simpa using hz) hcell hwz).rd⟩
      · exact ⟨Ac.none, fun h => absurd h hi⟩
    obtain ⟨f, hf⟩ := Classical.axiomOfChoice cell
    refine ⟨(List.range n).map f, by simp, ?_, fun _ => ⟨b, o, rfl, fun j hj i u hu => ?_⟩⟩
    · intro x hx
      simp only [List.mem_map, List.mem_range] at hx
      obtain ⟨i, hi, rfl⟩ := hx
      exact (hf i hi).2
    · have e : ((List.range n).map f).getD j Ac.none = f j := by simp [List.getD, hj]
      rw [e] at hu
      exact (hf j hj).1 i u hu

set_option maxRecDepth 100000 in
theorem snapActs_lifted (os : Os) (started : os.Started) (H : Type) (enc : TypeId × Value → H) :
    ReturnsInHanded {} Tryz.checked os 3 .any (Rows.snapActsSpec.pre6 enc Tryz.prog Tryz.f3 Rows.snapActsRow.domain false) (Rows.snapActsSpec.post enc Tryz.prog Tryz.f3 false true false false) := by
  refine returnsInHanded_of_change (C := Tryz.checked) knob1 started (by kernel_rfl) Tryz.func3
    (ChangeSpec.witness6 (enc := enc) (C := Tryz.checked) false ⟨#[], #[.int .i64 0, .slice none 0 0], []⟩ 8 (by kernel_rfl) (by kernel_rfl) (by kernel_rfl) (by kernel_rfl)) ?_
  intro W base args ds gs before hval0 hW hcnd _
  have hval : ∀ (j : Nat) t v, Tryz.f3.params[j]? = some t → args[j]? = some v → Value.okWide Tryz.prog W .any base t v := hval0
  have hW' := hW
  obtain ⟨p, q, hA0, hV, rfl, hfz, hnd⟩ := hW
  have hA : DataW.TrodAll enc Tryz.prog W 0 (fun _ => true) true Tryz.f3.params.toList args.toList ds p := hA0
  rw [Tryz.params3] at hA hval
  obtain ⟨v0, vs0, d0, ds0, p0, q0, hargs, rfl, rfl, h0, r0⟩ := trodAll_cons hA
  obtain ⟨v1, vs1, d1, ds1, p1, q1, hargs1, rfl, rfl, h1, r1⟩ := trodAll_cons r0
  obtain ⟨rfl, rfl, rfl⟩ := trodAll_nil r1
  obtain rfl : args = #[v0, v1] := by cases args; simp_all
  obtain ⟨rfl, rfl⟩ := trodVars_none hV
  obtain ⟨z0, rfl, rfl, rfl, hz0⟩ := open_int Tryz.underlying3 (hval 0 3 v0 rfl rfl) h0
  obtain ⟨a1, len1, cap1, rfl⟩ := okWide_slice Tryz.underlying22 (hval 1 22 v1 rfl rfl)
  have k1 := h1
  have lt1 : ∀ x ∈ p1, x.block < W.heap.size := by obtain ⟨m, hm⟩ := k1; exact DataW.trod_lt m _ _ _ hm
  obtain ⟨X, hX⟩ := acs_open h1
  clear hA0 hval0
  refine (snapActs_walk W z0 a1 len1 cap1 X hX).mono fun e W' ⟨he, bel⟩ => ?_
  subst he
  exact ⟨_, rfl, _, _, _, [], _, [], hW', trodAll_mk1 (shut_bool Tryz.underlying4 _), (trodAll_cons_mk (shut_int Tryz.underlying3 hz0) (trodAll_cons_mk (Below.trod laidOut1 (by kernel_rfl) (of_decide_eq_true (by kernel_rfl)) k1 bel lt1) trodAll_mk0)), rfl, bel.frame _, fun h => by cases h⟩

/-- The statement. -/
theorem snapActs_holds : Rows.SnapActsSaid :=
  OpenClaim.holds_of_wide 3 Tryz.f3 rfl rfl rfl rfl rfl rfl rfl ⟨rfl, rfl, rfl, rfl, rfl⟩ rfl rfl rfl rfl rfl (by kernel_rfl) Tryz.func3 (by kernel_rfl)
    (of_decide_eq_true (by kernel_rfl)) (by unfold Func.isWrapper; first | (rw [if_pos (by decide +kernel)]; kernel_rfl) | (rw [if_neg (by decide +kernel)]; exact ⟨rfl, rfl⟩))
    (fun os started H enc _ => snapActs_lifted os started H enc)
#print axioms snapActs_holds
end Go.Proofs.YtaijjogjohbheaaGreat
