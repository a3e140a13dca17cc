/- StreamSpoilt returns true at every input: a stream of which a byte is another one, or that is cut, is refused; the arguments read as they did. No condition. -/
import Derived.Test.YtaijldcfoaeogaaSmSpoilt
import Derived.Test.YtaijldcfoaeogaaWOpen
namespace Go.Proofs.Ytaijldcfoaeogaa
open Go.ChangeShapes Go.WideShapes Go.ChangeAt Go.RowKit Go.Deep

set_option maxRecDepth 100000 in
theorem okWide_arr {w : World} {r : Reach} {base : Nat} {v : Value} {t : TypeId} {n : Nat} {e : TypeId} (ht : Try.prog.underlying t = some (.array n e)) (h : Value.okWide Try.prog w r base t v) : ∃ cs, v = .agg cs ∧ cs.size = Try.prog.cellsOf t := by
  simp only [Value.okWide, ht] at h
  obtain ⟨cs, h1, h2, _⟩ := h
  exact ⟨cs, h1, h2⟩

theorem list2s {α : Type} {l : List α} (h : l.length = 2) : ∃ a b, l = [a, b] := by
  match l, h with
  | [a, b], _ => exact ⟨a, b, rfl⟩

set_option maxRecDepth 100000 in
/-- Two numbers that came in. -/
theorem pair_open {H : Type} {enc : TypeId × Value → H} {W : World} {b0 : Nat} {held : Bool} {m : Nat} {cs : List Value} {D : DataW H × List MemPlace}
    (h : DataW.trod enc Try.prog W b0 (fun _ => true) held m 23 cs = some D) : ∃ x y : Int, cs = [.int .i64 x, .int .i64 y] := by
  obtain ⟨ys, k, _, _, hcl, hyl, hg⟩ := DataW.trod_array Try.underlying23 h
  have e2 : Try.prog.cellsOf 23 = 2 := by kernel_rfl
  have e1 : Try.prog.cellsOf 3 = 1 := by kernel_rfl
  rw [e2] at hcl
  obtain ⟨c0, c1, rfl⟩ := list2s hcl
  obtain ⟨y0, y1, rfl⟩ := list2s hyl
  have f0 : DataW.trod enc Try.prog W b0 (fun _ => true) held k 3 [c0] = some y0 := by
    have h0 := hg 0 (by omega)
    rw [e1] at h0
    have e3 : ([c0, c1].drop (0 * 1)).take 1 = [c0] := rfl
    have e4 : [y0, y1][0]? = some y0 := rfl
    rw [e3, e4] at h0
    exact h0
  have f1 : DataW.trod enc Try.prog W b0 (fun _ => true) held k 3 [c1] = some y1 := by
    have h0 := hg 1 (by omega)
    rw [e1] at h0
    have e3 : ([c0, c1].drop (1 * 1)).take 1 = [c1] := rfl
    have e4 : [y0, y1][1]? = some y1 := rfl
    rw [e3, e4] at h0
    exact h0
  obtain ⟨I, e0, _, _⟩ := DataW.trod_int Try.underlying3 f0
  obtain ⟨J, e1, _, _⟩ := DataW.trod_int Try.underlying3 f1
  simp only [List.cons.injEq, and_true] at e0 e1
  subst e0 e1
  exact ⟨I, J, rfl⟩

set_option maxRecDepth 100000 in
theorem streamSpoilt_lifted (os : Os) (started : os.Started) (H : Type) (enc : TypeId × Value → H) :
    ReturnsInHanded {} Try.checked os 3 .any (Rows.streamSpoiltSpec.pre6 enc Try.prog Try.f3 Rows.streamSpoiltRow.domain false) (Rows.streamSpoiltSpec.post enc Try.prog Try.f3 false true false false) := by
  refine returnsInHanded_of_change_sized (C := Try.checked) knob1 started (by kernel_rfl) Try.func3
    (ChangeSpec.witness6 (enc := enc) (C := Try.checked) false ⟨#[], #[.slice none 0 0, .agg #[.int .i64 0, .int .i64 0], .int .u8 0], []⟩ 8 (by kernel_rfl) (by kernel_rfl) (by kernel_rfl) (by kernel_rfl)) ?_
  intro W base args ds gs before hval0 hW hcnd hsz0 _
  have hval : ∀ (j : Nat) t v, Try.f3.params[j]? = some t → args[j]? = some v → Value.okWide Try.prog W .any base t v := hval0
  have hsz : (DataW.weightsEach Try.prog (Try.f3.params.toList ++ Rows.streamSpoiltSpec.plain.varTypes Try.prog) (ds ++ gs)).all (· ≤ reachBytes) = true := hsz0
  have hW' := hW
  obtain ⟨p, q, hA0, hV, rfl, hfz, hnd⟩ := hW
  have hA : DataW.TrodAll enc Try.prog W 0 (fun _ => true) true Try.f3.params.toList args.toList ds p := hA0
  rw [Try.params3] at hA hval hsz
  obtain ⟨v0, vs0, d0, ds0, p0, q0, hargs, rfl, rfl, h0, r0⟩ := trodAll_cons hA
  obtain ⟨v1, vs1, d1, ds1, p1, q1, hargs1, rfl, rfl, h1, r1⟩ := trodAll_cons r0
  obtain ⟨v2, vs2, d2, ds2, p2, q2, hargs2, rfl, rfl, h2, r2⟩ := trodAll_cons r1
  obtain ⟨rfl, rfl, rfl⟩ := trodAll_nil r2
  obtain rfl : args = #[v0, v1, v2] := by cases args; simp_all
  obtain ⟨rfl, rfl⟩ := trodVars_none hV
  obtain ⟨a0, len0, cap0, rfl⟩ := okWide_slice Try.underlying22 (hval 0 22 v0 rfl rfl)
  obtain ⟨cs1, rfl, _⟩ := okWide_arr Try.underlying23 (hval 1 23 v1 rfl rfl)
  have k0 := h0
  have lt0 : ∀ x ∈ p0, x.block < W.heap.size := by obtain ⟨m, hm⟩ := k0; exact DataW.trod_lt m _ _ _ hm
  have k1 := h1
  have lt1 : ∀ x ∈ p1, x.block < W.heap.size := by obtain ⟨m, hm⟩ := k1; exact DataW.trod_lt m _ _ _ hm
  have k2 := h2
  have lt2 : ∀ x ∈ p2, x.block < W.heap.size := by obtain ⟨m, hm⟩ := k2; exact DataW.trod_lt m _ _ _ hm
  obtain ⟨m0, X0, hX0⟩ := writes_open h0 (fun z hz => by
    have h9 := List.all_eq_true.1 hsz z (DataW.weights_mem_each (j := 0) (t := 22) rfl rfl z hz)
    simpa using h9)
  obtain ⟨m1, t1⟩ := h1
  obtain ⟨x, y, e1⟩ := pair_open t1
  obtain ⟨m2, t2⟩ := h2
  obtain ⟨bz, e2, _, wf2⟩ := DataW.trod_int Try.underlying5 t2
  have hb := bounds_u8 wf2
  obtain ⟨bn, rfl⟩ : ∃ bn : Nat, bz = (bn : Int) := ⟨bz.toNat, by omega⟩
  have ev2 : v2 = .int .u8 (bn : Int) := by
    obtain ⟨z, hz⟩ := okWide_int Try.underlying5 (hval 2 5 v2 rfl rfl)
    subst hz
    simpa [Value.cells] using e2
  subst ev2
  simp only [Value.cells] at e1
  clear hA0 hval0
  have walk : Calls Try.prog 3 #[.slice a0 len0 cap0, .agg cs1, .int .u8 (bn : Int)] W fun e w' => e = .returned (.bool true) ∧ Below W.heap.size W w' := by
    have e3 : cs1 = #[.int .i64 x, .int .i64 y] := by
      have := congrArg List.toArray e1
      simpa using this
    rw [e3]
    exact spoilt_walk W a0 len0 cap0 X0 hX0 x y bn (by omega)
  refine walk.mono fun e W' ⟨he, bel⟩ => ?_
  subst he
  exact ⟨_, rfl, _, _, _, [], _, [], hW', trodAll_mk1 (shut_bool Try.underlying4 _), (trodAll_cons_mk (Below.trod laidOut1 (by kernel_rfl) (of_decide_eq_true (by kernel_rfl)) k0 bel lt0) (trodAll_cons_mk (Below.trod laidOut1 (by kernel_rfl) (of_decide_eq_true (by kernel_rfl)) k1 bel lt1) (trodAll_cons_mk (Below.trod laidOut1 (by kernel_rfl) (of_decide_eq_true (by kernel_rfl)) k2 bel lt2) trodAll_mk0))), rfl, bel.frame _, fun h => by cases h⟩

/-- The statement. -/
theorem streamSpoilt_holds : Rows.StreamSpoiltSaid :=
  OpenClaim.holds_of_wide 3 Try.f3 rfl rfl rfl rfl rfl rfl rfl ⟨rfl, rfl, rfl, rfl, rfl⟩ rfl rfl rfl rfl rfl (by kernel_rfl) Try.func3 (by kernel_rfl)
    (of_decide_eq_true (by kernel_rfl)) (by unfold Func.isWrapper; first | (rw [if_pos (by decide +kernel)]; kernel_rfl) | (rw [if_neg (by decide +kernel)]; exact ⟨rfl, rfl⟩))
    (fun os started H enc _ => streamSpoilt_lifted os started H enc)
#print axioms streamSpoilt_holds
end Go.Proofs.Ytaijldcfoaeogaa
