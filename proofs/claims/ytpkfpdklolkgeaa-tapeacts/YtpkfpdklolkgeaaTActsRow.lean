/- TapeActs returns true at every input: any calls, one behind the other, with falls of power, places that can't be written, or read, and an end; the arguments read as they did. No condition. -/
import Derived.Test.YtpkfpdklolkgeaaTActs
import Derived.Test.YtpkfpdklolkgeaaMemOpen
import Derived.Test.YtpkfpdklolkgeaaStructs
import Derived.Lib.SmallJoins
import Derived.SizedLaws
namespace Go.Proofs.Ytpkfpdklolkgeaa
open Go.ChangeShapes Go.WideShapes Go.ChangeAt Go.RowKit Go.Deep

set_option maxHeartbeats 1000000 in
set_option maxRecDepth 100000 in
/-- More than 150 calls, or more than 60 places: the example alone. -/
theorem tapeActs_many (w : World) (R0 Y0 : Int) (aW aR : Option Addr) (nW cW nR cR : Nat) (a : Option Addr) (n c : Nat) (hb : nW ≤ reachBytes ∧ nR ≤ reachBytes) (hn : 150 < n ∨ (n ≤ 150 ∧ 60 < nW + nR)) :
    Calls Try.prog 3 #[.agg #[.int .i64 R0, .int .i64 Y0, .slice aW nW cW, .slice aR nR cR], .slice a n c] w fun e w' => e = .returned (.bool true) ∧ Below w.heap.size w w' := by
  obtain ⟨w1, h1⟩ : ∃ w1, w1 = w.alloc (plnObj R0 Y0 (.slice aW nW cW) (.slice aR nR cR)) := ⟨_, rfl⟩
  obtain ⟨gb, hgb⟩ : ∃ gb, gb = w.heap.size := ⟨_, rfl⟩
  have hob : w1.heap[gb]? = some (plnObj R0 Y0 (.slice aW nW cW) (.slice aR nR cR)) := by rw [h1, hgb]; exact heap_alloc_new w _
  have hb1 : Below w.heap.size w w1 := by rw [h1]; exact Below.alloc0 _ _
  have HL : Hid (Calls Try.prog 5 #[] w1 fun e w' => e = .returned (.bool true) ∧ Hid (w'.heap[gb]? = some (plnObj R0 Y0 (.slice aW nW cW) (.slice aR nR cR)) ∧ Below w.heap.size w w')) := by
    refine Lib.hid ((lives_any w1).mono ?_)
    rintro e w' ⟨rfl, hb⟩
    exact ⟨rfl, Lib.hid ⟨(hb.block gb (lt_of_block hob)).trans hob, hb1.trans (hb.mono hb1.size)⟩⟩
  have HL2 : Hid (∀ W, Below w.heap.size w W → Calls Try.prog 5 #[] W fun e w' => e = .returned (.bool true) ∧ Hid (Below w.heap.size w w')) := by
    refine Lib.hid fun W hW => (lives_any W).mono ?_
    rintro e w' ⟨rfl, hb⟩
    exact ⟨rfl, Lib.hid (hW.trans (hb.mono hW.size))⟩
  have HW1 := Lib.hid (And.intro h1 hgb)
  obtain ⟨q, hq⟩ : ∃ q, q = nW + nR := ⟨_, rfl⟩
  have hws : IntKind.i64.wrap ((nW : Int) + (nR : Int)) = (q : Int) := by unfold reachBytes at hb; rw [IntKind.wrap_i64] <;> omega
  rw [← hq] at hn
  clear h1 hgb hob hb1 hq hb
  rcases hn with hn | ⟨hn, hs⟩
  · go_enter Try.func3, Try.ntmps3
    go_upto_region 1 with fail
    change Code.wp _ _ _ _ (w.alloc (plnObj R0 Y0 (.slice aW nW cW) (.slice aR nR cR)))
    rw [← HW1.out.1]
    go_wp2_with fail
    refine HL.out.mono ?_
    rintro e w2 ⟨rfl, H2⟩
    go_wp2_with fail
    refine (HL2.out _ H2.out.2).mono ?_
    rintro e w3 ⟨rfl, H3⟩
    go_wp2
    go_ret
    exact ⟨rfl, H3.out⟩
  · have hsI : (60 : Int) < (q : Int) := by omega
    go_enter Try.func3, Try.ntmps3
    go_upto_region 1 with fail
    change Code.wp _ _ _ _ (w.alloc (plnObj R0 Y0 (.slice aW nW cW) (.slice aR nR cR)))
    rw [← HW1.out.1]
    go_wp2_with fail
    refine HL.out.mono ?_
    rintro e w2 ⟨rfl, H2⟩
    rw [← HW1.out.2]
    obtain ⟨x0, x1, x2, x3⟩ := pln_cells H2.out.1
    go_wp2_with fail
    refine (HL2.out _ H2.out.2).mono ?_
    rintro e w3 ⟨rfl, H3⟩
    go_wp2
    go_ret
    exact ⟨rfl, H3.out⟩

/-- A slice of numbers that came in. -/
theorem rdI_open {H : Type} {enc : TypeId × Value → H} {W : World} {b0 : Nat} {held : Bool} {v : Value} {m : Nat} {x : DataW H × List MemPlace}
    (h : DataW.trod enc Try.prog W b0 (fun _ => true) held m 22 [v] = some x) (hsz : ∀ z ∈ x.1.weights Try.prog 22, z ≤ reachBytes) : ∃ a n c L, v = .slice a n c ∧ n ≤ reachBytes ∧ RdI W a n L := by
  rcases open_ints Try.underlying22 Try.underlying3 (by kernel_rfl) h with ⟨hcs, _⟩ | ⟨x, l, c', zs, hcs, _, hl, hm, hz, hx, hcell, hwz⟩
  · simp only [List.cons.injEq, and_true] at hcs
    subst hcs
    exact ⟨none, 0, 0, [], rfl, Nat.zero_le _, rfl, by simp, by omega⟩
  · simp only [List.cons.injEq, and_true] at hcs
    subst hcs
    have hz' : zs.length = c' := by simpa using hz
    have hreach : c' ≤ reachBytes := by
      have h1 := hsz (c' * Try.prog.bytesOf 3) (by
        rw [hx]
        simp only [DataW.weights, Try.underlying22, lits, List.length_map, List.length_take, List.length_drop]
        have h2 : min l zs.length + (zs.length - l) = c' := by omega
        rw [h2]
        simp)
      exact Nat.le_trans (Nat.le_mul_of_pos_right c' (of_decide_eq_true (by kernel_rfl))) h1
    refine ⟨some x, l, c', zs.take l, rfl, by omega, by simp; omega, fun z hz => hwz z (List.mem_of_mem_take hz), fun h0 => ?_⟩
    obtain ⟨b, o, rfl, hc⟩ := ints_at hcell (by omega)
    refine ⟨b, o, rfl, fun j hj => ?_⟩
    rw [hc j (by omega)]
    have hj' : j < zs.length := by omega
    simp [List.getD, hj, hj']

/-- A slice of calls that came in. -/
theorem cals_open {H : Type} {enc : TypeId × Value → H} {W : World} {b0 : Nat} {held : Bool} {a : Option Addr} {n c : Nat} {d : DataW H} {p : List MemPlace}
    (h : DataW.Trod enc Try.prog W b0 (fun _ => true) held 25 (.slice a n c) d p) : ∃ X, RdC W a n X := by
  obtain ⟨_, _, hk⟩ := structs_open Try.underlying25 Try.underlying43 (by kernel_rfl) (by kernel_rfl) _ rfl h
  rcases Nat.eq_zero_or_pos n with h0 | h0
  · subst h0
    exact ⟨[], rfl, by simp, by omega⟩
  · obtain ⟨b, o, rfl, hc⟩ := hk h0
    have cell : ∀ i, ∃ x : Cal, i < n → W.cell? ⟨b, o + i * 4, none⟩ = some (.int .u8 (x.K : Int)) ∧ W.cell? ⟨b, o + i * 4 + 1, none⟩ = some (.int .i64 x.I) ∧ W.cell? ⟨b, o + i * 4 + 2, none⟩ = some (.int .i64 x.Z) ∧ W.cell? ⟨b, o + i * 4 + 3, none⟩ = some (.slice x.a x.n x.c) ∧ x.fits W := by
      intro i
      by_cases hi : i < n
      · obtain ⟨v0, _, _, h0, t0⟩ := hc i hi 0 _ rfl
        obtain ⟨v1, _, _, h1, t1⟩ := hc i hi 1 _ rfl
        obtain ⟨v2, _, _, h2, t2⟩ := hc i hi 2 _ rfl
        obtain ⟨v3, _, ⟨d3, p3⟩, h3, t3⟩ := hc i hi 3 _ rfl
        obtain ⟨K, e0, _, w0⟩ := DataW.trod_int Try.underlying5 t0
        obtain ⟨N, e1, _, w1⟩ := DataW.trod_int Try.underlying3 t1
        obtain ⟨T, e2, _, w2⟩ := DataW.trod_int Try.underlying3 t2
        simp only [List.cons.injEq, and_true] at e0 e1 e2
        subst e0 e1 e2
        have b0 := bounds_u8 w0
        have b1 := bounds_i64 w1
        have hK : ((K.toNat : Nat) : Int) = K := Int.toNat_of_nonneg b0.1
        rcases open_ints Try.underlying41 Try.underlying5 (by kernel_rfl) t3 with ⟨hcs, _⟩ | ⟨x, l, c', zs, hcs, _, hl, hm, hz, _, hcell, hwz⟩
        · simp only [List.cons.injEq, and_true] at hcs
          subst hcs
          refine ⟨⟨K.toNat, N, T, none, 0, 0, []⟩, fun _ => ⟨?_, h1, h2, h3, ?_⟩⟩
          · simp only [hK]; exact h0
          · exact ⟨by simp only; omega, by simp only; omega, Nat.le_refl _, rfl, by simp, by simp⟩
        · simp only [List.cons.injEq, and_true] at hcs
          subst hcs
          refine ⟨⟨K.toNat, N, T, some x, l, c', (zs.take l).map Int.toNat⟩, fun _ => ⟨?_, h1, h2, h3, ?_⟩⟩
          · simp only [hK]; exact h0
          · exact ⟨by simp only; omega, by simp only; omega, hl, (nums_of (k := .u8) (fun z hz => (bounds_u8 hz).1) hl (by simpa using hz) hcell hwz).rd⟩
      · exact ⟨Cal.none, fun h => absurd h hi⟩
    obtain ⟨f, hf⟩ := Classical.axiomOfChoice cell
    refine ⟨(List.range n).map f, by simp, ?_, fun _ => ⟨b, o, rfl, fun j hj => ?_⟩⟩
    · intro x hx
      simp only [List.mem_map, List.mem_range] at hx
      obtain ⟨i, hi, rfl⟩ := hx
      exact (hf i hi).2.2.2.2
    · have e : ((List.range n).map f).getD j Cal.none = f j := by simp [List.getD, hj]
      rw [e]
      obtain ⟨h1, h2, h3, h4, _⟩ := hf j hj
      exact ⟨h1, h2, h3, h4⟩

set_option maxRecDepth 100000 in
theorem tapeActs_lifted (os : Os) (started : os.Started) (H : Type) (enc : TypeId × Value → H) :
    ReturnsInHanded {} Try.checked os 3 .any (Rows.tapeActsSpec.pre6 enc Try.prog Try.f3 Rows.tapeActsRow.domain false) (Rows.tapeActsSpec.post enc Try.prog Try.f3 false true false false) := by
  refine returnsInHanded_of_change_sized (C := Try.checked) knob1 started (by kernel_rfl) Try.func3
    (ChangeSpec.witness6 (enc := enc) (C := Try.checked) false ⟨#[], #[.agg #[.int .i64 0, .int .i64 0, .slice none 0 0, .slice none 0 0], .slice none 0 0], []⟩ 8 (by kernel_rfl) (by kernel_rfl) (by kernel_rfl) (by kernel_rfl)) ?_
  intro W base args ds gs before hval0 hW hcnd hsz0 _
  have hval : ∀ (j : Nat) t v, Try.f3.params[j]? = some t → args[j]? = some v → Value.okWide Try.prog W .any base t v := hval0
  have hsz : (DataW.weightsEach Try.prog (Try.f3.params.toList ++ Rows.tapeActsSpec.plain.varTypes Try.prog) (ds ++ gs)).all (· ≤ reachBytes) = true := hsz0
  have hW' := hW
  obtain ⟨p, q, hA0, hV, rfl, hfz, hnd⟩ := hW
  have hA : DataW.TrodAll enc Try.prog W 0 (fun _ => true) true Try.f3.params.toList args.toList ds p := hA0
  rw [Try.params3] at hA hval hsz
  obtain ⟨v0, vs0, d0, ds0, p0, q0, hargs, rfl, rfl, h0, r0⟩ := trodAll_cons hA
  obtain ⟨v1, vs1, d1, ds1, p1, q1, hargs1, rfl, rfl, h1, r1⟩ := trodAll_cons r0
  obtain ⟨rfl, rfl, rfl⟩ := trodAll_nil r1
  obtain rfl : args = #[v0, v1] := by cases args; simp_all
  obtain ⟨rfl, rfl⟩ := trodVars_none hV
  have k0 := h0
  have lt0 : ∀ x ∈ p0, x.block < W.heap.size := by obtain ⟨m, hm⟩ := k0; exact DataW.trod_lt m _ _ _ hm
  obtain ⟨v00, v01, v02, v03, y00, y01, y02, y03, n0, rfl, hd0, _, t0, t1, t2, t3⟩ := Joins.open_agg4 Try.underlying24 (by kernel_rfl) (by kernel_rfl) (hval 0 24 v0 rfl rfl) h0
  obtain ⟨R0, c00, _, _⟩ := DataW.trod_int Try.underlying3 t0
  obtain ⟨Y0, c01, _, _⟩ := DataW.trod_int Try.underlying3 t1
  simp only [List.cons.injEq, and_true] at c00 c01
  subst c00 c01
  have hwt : ∀ z, z ∈ y02.1.weights Try.prog 22 ∨ z ∈ y03.1.weights Try.prog 22 → z ≤ reachBytes := fun z hz => by
    have h9 := List.all_eq_true.1 hsz z (DataW.weights_mem_each (j := 0) (t := 24) rfl rfl z (by
      rw [hd0]
      simp only [DataW.weights, Try.underlying24, List.map_cons, List.map_nil, DataW.weightsEach, List.mem_append, List.not_mem_nil, or_false]
      rcases hz with hz | hz
      · exact .inr (.inr (.inl hz))
      · exact .inr (.inr (.inr hz))))
    simpa using h9
  obtain ⟨aW, nW, cW, LW, rfl, hmW, hW2⟩ := rdI_open t2 (fun z hz => hwt z (.inl hz))
  obtain ⟨aR, nR, cR, LR, rfl, hmR, hR2⟩ := rdI_open t3 (fun z hz => hwt z (.inr hz))
  obtain ⟨a1, len1, cap1, rfl⟩ := okWide_slice Try.underlying25 (hval 1 25 v1 rfl rfl)
  have k1 := h1
  have lt1 : ∀ x ∈ p1, x.block < W.heap.size := by obtain ⟨m, hm⟩ := k1; exact DataW.trod_lt m _ _ _ hm
  obtain ⟨X, hX⟩ := cals_open h1
  clear hA0 hval0
  have walk : Calls Try.prog 3 #[.agg #[.int .i64 R0, .int .i64 Y0, .slice aW nW cW, .slice aR nR cR], .slice a1 len1 cap1] W fun e w' => e = .returned (.bool true) ∧ Below W.heap.size W w' := by
    by_cases hn : len1 ≤ 150
    · by_cases hs : nW + nR ≤ 60
      · exact tapeActs_walk W R0 Y0 aW aR nW cW nR cR LW LR hW2 hR2 a1 len1 cap1 X hX hn hs
      · exact tapeActs_many W R0 Y0 aW aR nW cW nR cR a1 len1 cap1 ⟨hmW, hmR⟩ (.inr ⟨hn, by omega⟩)
    · exact tapeActs_many W R0 Y0 aW aR nW cW nR cR a1 len1 cap1 ⟨hmW, hmR⟩ (.inl (by omega))
  refine walk.mono fun e W' ⟨he, bel⟩ => ?_
  subst he
  exact ⟨_, rfl, _, _, _, [], _, [], hW', trodAll_mk1 (shut_bool Try.underlying4 _), (trodAll_cons_mk (Below.trod laidOut1 (by kernel_rfl) (of_decide_eq_true (by kernel_rfl)) k0 bel lt0) (trodAll_cons_mk (Below.trod laidOut1 (by kernel_rfl) (of_decide_eq_true (by kernel_rfl)) k1 bel lt1) trodAll_mk0)), rfl, bel.frame _, fun h => by cases h⟩

/-- The statement. -/
theorem tapeActs_holds : Rows.TapeActsSaid :=
  OpenClaim.holds_of_wide 3 Try.f3 rfl rfl rfl rfl rfl rfl rfl ⟨rfl, rfl, rfl, rfl, rfl⟩ rfl rfl rfl rfl rfl (by kernel_rfl) Try.func3 (by kernel_rfl)
    (of_decide_eq_true (by kernel_rfl)) (by unfold Func.isWrapper; first | (rw [if_pos (by decide +kernel)]; kernel_rfl) | (rw [if_neg (by decide +kernel)]; exact ⟨rfl, rfl⟩))
    (fun os started H enc _ => tapeActs_lifted os started H enc)
#print axioms tapeActs_holds
end Go.Proofs.Ytpkfpdklolkgeaa
