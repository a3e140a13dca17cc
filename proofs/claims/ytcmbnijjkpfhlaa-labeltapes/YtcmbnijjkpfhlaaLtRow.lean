/- LabelTapes returns true at every input: the tape of any slot, labelled, whatever was on it, while power may fall, or a place can't be written: what stands on it then; and its label, read; the arguments read as they did. No condition. -/
import Derived.Test.YtcmbnijjkpfhlaaLtWalk
import Derived.Test.YtcmbnijjkpfhlaaLbOpen
import Derived.Lib.SmallJoins
namespace Go.Proofs.Ytcmbnijjkpfhlaa
open Go.ChangeShapes Go.WideShapes Go.ChangeAt Go.RowKit Go.Deep

set_option maxHeartbeats 2000000 in
set_option maxRecDepth 100000 in
/-- Too many calls, places, or letters: the example alone. -/
theorem labelTapes_many (w : World) (R0 Y0 : Int) (aW aR : Option Addr) (nW cW nR cR : Nat) (a : Option Addr) (n c : Nat) (hb : nW ≤ reachBytes ∧ nR ≤ reachBytes) (z At To : Int) (s : ByteArray) (g m : Int) (hn : 60 < n ∨ 60 < nR + nW ∨ 50 < s.size) :
    Calls Try.prog 5 #[.agg #[.int .i64 R0, .int .i64 Y0, .slice aW nW cW, .slice aR nR cR], .slice a n c, .agg #[.int .i64 z, .string s, .int .i64 g, .int .i64 m, .int .i64 At, .int .i64 To]] w fun e w' => e = .returned (.bool true) ∧ Below w.heap.size w w' := by
  obtain ⟨w1, h1⟩ : ∃ w1, w1 = ((w.alloc (plnObj R0 Y0 (.slice aW nW cW) (.slice aR nR cR))).alloc (sltObj z s g m At To)).alloc (.cells #[.string s, .int .i64 g, .int .i64 m] 23) := ⟨_, rfl⟩
  obtain ⟨gb, hgb⟩ : ∃ gb, gb = w.heap.size := ⟨_, rfl⟩
  have hob : w1.heap[gb]? = some (plnObj R0 Y0 (.slice aW nW cW) (.slice aR nR cR)) := by
    rw [h1, hgb]
    exact (heap_alloc_old _ _ (by simp; omega)).trans ((heap_alloc_old _ _ (by simp)).trans (heap_alloc_new w _))
  have hoy : w1.heap[gb + 2]? = some (.cells #[.string s, .int .i64 g, .int .i64 m] 23) := by
    rw [h1, hgb]
    have := heap_alloc_new ((w.alloc (plnObj R0 Y0 (.slice aW nW cW) (.slice aR nR cR))).alloc (sltObj z s g m At To)) (.cells #[.string s, .int .i64 g, .int .i64 m] 23)
    simpa using this
  have hb1 : Below w.heap.size w w1 := by rw [h1]; exact (((Below.refl _ _).alloc (Nat.le_refl _) _).alloc (by simp) _).alloc (by simp; omega) _
  have HL : Hid (Calls Try.prog 7 #[] w1 fun e w' => e = .returned (.bool true) ∧ Hid (w'.heap[gb]? = some (plnObj R0 Y0 (.slice aW nW cW) (.slice aR nR cR)) ∧ w'.heap[gb + 2]? = some (.cells #[.string s, .int .i64 g, .int .i64 m] 23) ∧ Below w.heap.size w w')) := by
    refine Lib.hid ((lives_any w1).mono ?_)
    rintro e w' ⟨rfl, hb⟩
    exact ⟨rfl, Lib.hid ⟨(hb.block gb (lt_of_block hob)).trans hob, (hb.block (gb + 2) (lt_of_block hoy)).trans hoy, hb1.trans (hb.mono hb1.size)⟩⟩
  have HL2 : Hid (∀ W, Below w.heap.size w W → Calls Try.prog 7 #[] W fun e w' => e = .returned (.bool true) ∧ Hid (Below w.heap.size w w')) := by
    refine Lib.hid fun W hW => (lives_any W).mono ?_
    rintro e w' ⟨rfl, hb⟩
    exact ⟨rfl, Lib.hid (hW.trans (hb.mono hW.size))⟩
  have HW1 := Lib.hid (And.intro h1 hgb)
  obtain ⟨q, hq⟩ : ∃ q, q = nR + nW := ⟨_, rfl⟩
  have hws : IntKind.i64.wrap ((nR : Int) + (nW : Int)) = (q : Int) := by unfold reachBytes at hb; rw [IntKind.wrap_i64] <;> omega
  rw [← hq] at hn
  obtain ⟨sz, hsz⟩ : ∃ sz, sz = s.size := ⟨_, rfl⟩
  have HSZ := Lib.hid hsz
  rw [← hsz] at hn
  clear h1 hgb hob hoy hb1 hq hb hsz
  by_cases k1 : 60 < n
  · have k1I : (60 : Int) < (n : Int) := by omega
    clear hn k1
    go_enter Try.func5, Try.ntmps5
    go_upto_region 2 with fail
    change Code.wp _ _ _ _ (((w.alloc (plnObj R0 Y0 (.slice aW nW cW) (.slice aR nR cR))).alloc (sltObj z s g m At To)).alloc (.cells #[.string s, .int .i64 g, .int .i64 m] 23))
    rw [← HW1.out.1]
    go_wp2_with fail
    refine HL.out.mono ?_
    rintro e w2 ⟨rfl, H2⟩
    rw [← HW1.out.2]
    obtain ⟨x0, x1, x2, x3⟩ := pln_cells H2.out.1
    obtain ⟨y0, y1, y2⟩ := lab_cells H2.out.2.1
    go_wp2_with fail
    refine (HL2.out _ H2.out.2.2).mono ?_
    rintro e w3 ⟨rfl, H3⟩
    go_wp2
    go_ret
    exact ⟨rfl, H3.out⟩
  by_cases k2 : 60 < q
  · have k1I : ¬ (60 : Int) < (n : Int) := by omega
    have k2I : (60 : Int) < (q : Int) := by omega
    clear hn k1 k2
    go_enter Try.func5, Try.ntmps5
    go_upto_region 2 with fail
    change Code.wp _ _ _ _ (((w.alloc (plnObj R0 Y0 (.slice aW nW cW) (.slice aR nR cR))).alloc (sltObj z s g m At To)).alloc (.cells #[.string s, .int .i64 g, .int .i64 m] 23))
    rw [← HW1.out.1]
    go_wp2_with fail
    refine HL.out.mono ?_
    rintro e w2 ⟨rfl, H2⟩
    rw [← HW1.out.2]
    obtain ⟨x0, x1, x2, x3⟩ := pln_cells H2.out.1
    obtain ⟨y0, y1, y2⟩ := lab_cells H2.out.2.1
    go_wp2_with fail
    refine (HL2.out _ H2.out.2.2).mono ?_
    rintro e w3 ⟨rfl, H3⟩
    go_wp2
    go_ret
    exact ⟨rfl, H3.out⟩
  · have k1I : ¬ (60 : Int) < (n : Int) := by omega
    have k2I : ¬ (60 : Int) < (q : Int) := by omega
    have k3I : (50 : Int) < (s.size : Int) := by have := HSZ.out; omega
    clear hn k1 k2
    go_enter Try.func5, Try.ntmps5
    go_upto_region 2 with fail
    change Code.wp _ _ _ _ (((w.alloc (plnObj R0 Y0 (.slice aW nW cW) (.slice aR nR cR))).alloc (sltObj z s g m At To)).alloc (.cells #[.string s, .int .i64 g, .int .i64 m] 23))
    rw [← HW1.out.1]
    go_wp2_with fail
    refine HL.out.mono ?_
    rintro e w2 ⟨rfl, H2⟩
    rw [← HW1.out.2]
    obtain ⟨x0, x1, x2, x3⟩ := pln_cells H2.out.1
    obtain ⟨y0, y1, y2⟩ := lab_cells H2.out.2.1
    go_wp2_with fail
    refine (HL2.out _ H2.out.2.2).mono ?_
    rintro e w3 ⟨rfl, H3⟩
    go_wp2
    go_ret
    exact ⟨rfl, H3.out⟩

/-- A slice of numbers that came in. -/
theorem rdI_open {H : Type} {enc : TypeId × Value → H} {W : World} {b0 : Nat} {held : Bool} {v : Value} {m : Nat} {x : DataW H × List MemPlace}
    (h : DataW.trod enc Try.prog W b0 (fun _ => true) held m 40 [v] = some x) (hsz : ∀ z ∈ x.1.weights Try.prog 40, z ≤ reachBytes) : ∃ a n c L, v = .slice a n c ∧ n ≤ reachBytes ∧ RdI W a n L := by
  rcases open_ints Try.underlying40 Try.underlying3 (by kernel_rfl) h with ⟨hcs, _⟩ | ⟨x, l, c', zs, hcs, _, hl, hm, hz, hx, hcell, hwz⟩
  · simp only [List.cons.injEq, and_true] at hcs
    subst hcs
    exact ⟨none, 0, 0, [], rfl, Nat.zero_le _, rfl, by simp, by omega⟩
  · simp only [List.cons.injEq, and_true] at hcs
    subst hcs
    have hz' : zs.length = c' := by simpa using hz
    have hreach : c' ≤ reachBytes := by
      have h1 := hsz (c' * Try.prog.bytesOf 3) (by
        rw [hx]
        simp only [DataW.weights, Try.underlying40, lits, List.length_map, List.length_take, List.length_drop]
        have h2 : min l zs.length + (zs.length - l) = c' := by omega
        rw [h2]
        simp)
      exact Nat.le_trans (Nat.le_mul_of_pos_right c' (of_decide_eq_true (by kernel_rfl))) h1
    refine ⟨some x, l, c', zs.take l, rfl, by omega, by simp; omega, fun z hz => hwz z (List.mem_of_mem_take hz), fun h0 => ?_⟩
    obtain ⟨b, o, rfl, hc⟩ := ints_at hcell (by omega)
    refine ⟨b, o, rfl, fun j hj => ?_⟩
    rw [hc j (by omega)]
    have hj' : j < zs.length := by omega
    simp [List.getD, hj, hj']

/-- A slice of calls that came in. -/
theorem cals_open {H : Type} {enc : TypeId × Value → H} {W : World} {b0 : Nat} {held : Bool} {a : Option Addr} {n c : Nat} {d : DataW H} {p : List MemPlace}
    (h : DataW.Trod enc Try.prog W b0 (fun _ => true) held 43 (.slice a n c) d p) : ∃ X, RdC W a n X := by
  obtain ⟨_, _, hk⟩ := structs_open Try.underlying43 Try.underlying63 (by kernel_rfl) (by kernel_rfl) _ rfl h
  rcases Nat.eq_zero_or_pos n with h0 | h0
  · subst h0
    exact ⟨[], rfl, by simp, by omega⟩
  · obtain ⟨b, o, rfl, hc⟩ := hk h0
    have cell : ∀ i, ∃ x : Cal, i < n → W.cell? ⟨b, o + i * 4, none⟩ = some (.int .u8 (x.K : Int)) ∧ W.cell? ⟨b, o + i * 4 + 1, none⟩ = some (.int .i64 x.I) ∧ W.cell? ⟨b, o + i * 4 + 2, none⟩ = some (.int .i64 x.Z) ∧ W.cell? ⟨b, o + i * 4 + 3, none⟩ = some (.slice x.a x.n x.c) ∧ x.fits W := by
      intro i
      by_cases hi : i < n
      · obtain ⟨v0, _, _, h0, t0⟩ := hc i hi 0 _ rfl
        obtain ⟨v1, _, _, h1, t1⟩ := hc i hi 1 _ rfl
        obtain ⟨v2, _, _, h2, t2⟩ := hc i hi 2 _ rfl
        obtain ⟨v3, _, ⟨d3, p3⟩, h3, t3⟩ := hc i hi 3 _ rfl
        obtain ⟨K, e0, _, w0⟩ := DataW.trod_int Try.underlying5 t0
        obtain ⟨N, e1, _, w1⟩ := DataW.trod_int Try.underlying3 t1
        obtain ⟨T, e2, _, w2⟩ := DataW.trod_int Try.underlying3 t2
        simp only [List.cons.injEq, and_true] at e0 e1 e2
        subst e0 e1 e2
        have b0 := bounds_u8 w0
        have b1 := bounds_i64 w1
        have hK : ((K.toNat : Nat) : Int) = K := Int.toNat_of_nonneg b0.1
        rcases open_ints Try.underlying25 Try.underlying5 (by kernel_rfl) t3 with ⟨hcs, _⟩ | ⟨x, l, c', zs, hcs, _, hl, hm, hz, _, hcell, hwz⟩
        · simp only [List.cons.injEq, and_true] at hcs
          subst hcs
          refine ⟨⟨K.toNat, N, T, none, 0, 0, []⟩, fun _ => ⟨?_, h1, h2, h3, ?_⟩⟩
          · simp only [hK]; exact h0
          · exact ⟨by simp only; omega, by simp only; omega, Nat.le_refl _, rfl, by simp, by simp⟩
        · simp only [List.cons.injEq, and_true] at hcs
          subst hcs
          refine ⟨⟨K.toNat, N, T, some x, l, c', (zs.take l).map Int.toNat⟩, fun _ => ⟨?_, h1, h2, h3, ?_⟩⟩
          · simp only [hK]; exact h0
          · exact ⟨by simp only; omega, by simp only; omega, hl, (nums_of (k := .u8) (fun z hz => (bounds_u8 hz).1) hl (by simpa using hz) hcell hwz).rd⟩
      · exact ⟨Cal.none, fun h => absurd h hi⟩
    obtain ⟨f, hf⟩ := Classical.axiomOfChoice cell
    refine ⟨(List.range n).map f, by simp, ?_, fun _ => ⟨b, o, rfl, fun j hj => ?_⟩⟩
    · intro x hx
      simp only [List.mem_map, List.mem_range] at hx
      obtain ⟨i, hi, rfl⟩ := hx
      exact (hf i hi).2.2.2.2
    · have e : ((List.range n).map f).getD j Cal.none = f j := by simp [List.getD, hj]
      rw [e]
      obtain ⟨h1, h2, h3, h4, _⟩ := hf j hj
      exact ⟨h1, h2, h3, h4⟩

theorem list4L {α : Type} {l : List α} (h : l.length = 4) : ∃ a b c d, l = [a, b, c, d] := by
  match l, h with
  | [a, b, c, d], _ => exact ⟨a, b, c, d, rfl⟩

theorem list6L {α : Type} {l : List α} (h : l.length = 6) : ∃ c0 c1 c2 c3 c4 c5, l = [c0, c1, c2, c3, c4, c5] := by
  match l, h with
  | [c0, c1, c2, c3, c4, c5], _ => exact ⟨c0, c1, c2, c3, c4, c5, rfl⟩

theorem cellsS : Try.prog.cellsOf 45 = 6 := by kernel_rfl

/-- A slot that came in. -/
theorem slot_open {H : Type} {enc : TypeId × Value → H} {W : World} {b0 : Nat} {held : Bool} {m : Nat} {cs : List Value} {D : DataW H} {Pl : List MemPlace}
    (h : DataW.trod enc Try.prog W b0 (fun _ => true) held m 45 cs = some (D, Pl)) : ∃ (z At To : Int) (x : Lab), Value.agg cs.toArray = .agg #[.int .i64 z, .string (strB x.p), .int .i64 x.g, .int .i64 x.m, .int .i64 At, .int .i64 To] ∧ x.fits ∧ At < 9223372036854775808 := by
  obtain ⟨q1, q2, q3⟩ := cellsL
  obtain ⟨ys, k, _, hD, hcl, hyl, hg⟩ := DataW.trod_struct Try.underlying45 h
  rw [cellsS] at hcl
  obtain ⟨c0, c1, c2, c3, c4, c5, rfl⟩ := list6L hcl
  obtain ⟨y0, y1, y2, y3, rfl⟩ := list4L hyl
  have f0 : DataW.trod enc Try.prog W b0 (fun _ => true) held k 3 [c0] = some y0 := by
    have h0 : DataW.trod enc Try.prog W b0 (fun _ => true) held k 3 (([c0, c1, c2, c3, c4, c5].drop 0).take (Try.prog.cellsOf 3)) = some y0 := hg 0 _ rfl
    rw [q2] at h0
    exact h0
  have f1 : DataW.trod enc Try.prog W b0 (fun _ => true) held k 23 [c1, c2, c3] = some y1 := by
    have h0 : DataW.trod enc Try.prog W b0 (fun _ => true) held k 23 (([c0, c1, c2, c3, c4, c5].drop 1).take (Try.prog.cellsOf 23)) = some y1 := hg 1 _ rfl
    rw [q3] at h0
    exact h0
  have f2 : DataW.trod enc Try.prog W b0 (fun _ => true) held k 3 [c4] = some y2 := by
    have h0 : DataW.trod enc Try.prog W b0 (fun _ => true) held k 3 (([c0, c1, c2, c3, c4, c5].drop 4).take (Try.prog.cellsOf 3)) = some y2 := hg 2 _ rfl
    rw [q2] at h0
    exact h0
  have f3 : DataW.trod enc Try.prog W b0 (fun _ => true) held k 3 [c5] = some y3 := by
    have h0 : DataW.trod enc Try.prog W b0 (fun _ => true) held k 3 (([c0, c1, c2, c3, c4, c5].drop 5).take (Try.prog.cellsOf 3)) = some y3 := hg 3 _ rfl
    rw [q2] at h0
    exact h0
  obtain ⟨Z, e0, _, _⟩ := DataW.trod_int Try.underlying3 f0
  obtain ⟨At, e4, _, w4⟩ := DataW.trod_int Try.underlying3 f2
  obtain ⟨To, e5, _, _⟩ := DataW.trod_int Try.underlying3 f3
  obtain ⟨y11, y12⟩ := y1
  obtain ⟨x, v0, v1, v2, r, hcs, _, h1, h2, h3, hfit, _⟩ := lab_open f1
  simp only [List.cons.injEq, and_true] at e0 e4 e5 hcs
  obtain ⟨rfl, rfl, rfl⟩ := hcs
  subst e0 e4 e5 h1 h2 h3
  have b4 := bounds_i64 w4
  exact ⟨Z, At, To, x, rfl, hfit, by omega⟩

set_option maxRecDepth 100000 in
theorem labelTapes_lifted (os : Os) (started : os.Started) (H : Type) (enc : TypeId × Value → H) :
    ReturnsInHanded {} Try.checked os 5 .any (Rows.labelTapesSpec.pre6 enc Try.prog Try.f5 Rows.labelTapesRow.domain false) (Rows.labelTapesSpec.post enc Try.prog Try.f5 false true false false) := by
  refine returnsInHanded_of_change_sized (C := Try.checked) knob1 started (by kernel_rfl) Try.func5
    (ChangeSpec.witness6 (enc := enc) (C := Try.checked) false ⟨#[], #[.agg #[.int .i64 0, .int .i64 0, .slice none 0 0, .slice none 0 0], .slice none 0 0, .agg #[.int .i64 0, .string ⟨#[]⟩, .int .i64 0, .int .i64 0, .int .i64 0, .int .i64 0]], []⟩ 8 (by kernel_rfl) (by kernel_rfl) (by kernel_rfl) (by kernel_rfl)) ?_
  intro W base args ds gs before hval0 hW hcnd hsz0 _
  have hval : ∀ (j : Nat) t v, Try.f5.params[j]? = some t → args[j]? = some v → Value.okWide Try.prog W .any base t v := hval0
  have hsz : (DataW.weightsEach Try.prog (Try.f5.params.toList ++ Rows.labelTapesSpec.plain.varTypes Try.prog) (ds ++ gs)).all (· ≤ reachBytes) = true := hsz0
  have hW' := hW
  obtain ⟨p, q, hA0, hV, rfl, hfz, hnd⟩ := hW
  have hA : DataW.TrodAll enc Try.prog W 0 (fun _ => true) true Try.f5.params.toList args.toList ds p := hA0
  rw [Try.params5] at hA hval hsz
  obtain ⟨v0, vs0, d0, ds0, p0, q0, hargs, rfl, rfl, h0, r0⟩ := trodAll_cons hA
  obtain ⟨v1, vs1, d1, ds1, p1, q1, hargs1, rfl, rfl, h1, r1⟩ := trodAll_cons r0
  obtain ⟨v2, vs2, d2, ds2, p2, q2, hargs2, rfl, rfl, h2, r2⟩ := trodAll_cons r1
  obtain ⟨rfl, rfl, rfl⟩ := trodAll_nil r2
  obtain rfl : args = #[v0, v1, v2] := by cases args; simp_all
  obtain ⟨rfl, rfl⟩ := trodVars_none hV
  have k0 := h0
  have lt0 : ∀ x ∈ p0, x.block < W.heap.size := by obtain ⟨m, hm⟩ := k0; exact DataW.trod_lt m _ _ _ hm
  have k2 := h2
  have lt2 : ∀ x ∈ p2, x.block < W.heap.size := by obtain ⟨m, hm⟩ := k2; exact DataW.trod_lt m _ _ _ hm
  obtain ⟨v00, v01, v02, v03, y00, y01, y02, y03, n0, rfl, hd0, _, t0, t1, t2, t3⟩ := Joins.open_agg4 Try.underlying42 (by kernel_rfl) (by kernel_rfl) (hval 0 42 v0 rfl rfl) h0
  obtain ⟨R0, c00, _, _⟩ := DataW.trod_int Try.underlying3 t0
  obtain ⟨Y0, c01, _, _⟩ := DataW.trod_int Try.underlying3 t1
  simp only [List.cons.injEq, and_true] at c00 c01
  subst c00 c01
  have hwt : ∀ z, z ∈ y02.1.weights Try.prog 40 ∨ z ∈ y03.1.weights Try.prog 40 → z ≤ reachBytes := fun z hz => by
    have h9 := List.all_eq_true.1 hsz z (DataW.weights_mem_each (j := 0) (t := 42) rfl rfl z (by
      rw [hd0]
      simp only [DataW.weights, Try.underlying42, List.map_cons, List.map_nil, DataW.weightsEach, List.mem_append, List.not_mem_nil, or_false]
      rcases hz with hz | hz
      · exact .inr (.inr (.inl hz))
      · exact .inr (.inr (.inr hz))))
    simpa using h9
  obtain ⟨aW, nW, cW, LW, rfl, hmW, hW2⟩ := rdI_open t2 (fun z hz => hwt z (.inl hz))
  obtain ⟨aR, nR, cR, LR, rfl, hmR, hR2⟩ := rdI_open t3 (fun z hz => hwt z (.inr hz))
  obtain ⟨a1, len1, cap1, rfl⟩ := okWide_slice Try.underlying43 (hval 1 43 v1 rfl rfl)
  have k1 := h1
  have lt1 : ∀ x ∈ p1, x.block < W.heap.size := by obtain ⟨m, hm⟩ := k1; exact DataW.trod_lt m _ _ _ hm
  obtain ⟨X, hX⟩ := cals_open h1
  obtain ⟨cs2, rfl, _⟩ := okWide_struct Try.underlying45 (hval 2 45 v2 rfl rfl)
  obtain ⟨m2, s2⟩ := h2
  obtain ⟨z, At, To, x, e2, hfit, hAt⟩ := slot_open s2
  simp only [Value.cells, Array.toArray_toList] at e2
  clear hA0 hval0
  have walk : Calls Try.prog 5 #[.agg #[.int .i64 R0, .int .i64 Y0, .slice aW nW cW, .slice aR nR cR], .slice a1 len1 cap1, .agg cs2] W fun e w' => e = .returned (.bool true) ∧ Below W.heap.size W w' := by
    rw [e2]
    by_cases hn : len1 ≤ 60
    · by_cases hs : nR + nW ≤ 60
      · by_cases hp : x.p.length ≤ 50
        · exact labelTapes_walk W R0 Y0 aW aR nW cW nR cR LW LR hW2 hR2 a1 len1 cap1 X hX hn hs z At To x hfit hp hAt
        · exact labelTapes_many W R0 Y0 aW aR nW cW nR cR a1 len1 cap1 ⟨hmW, hmR⟩ z At To _ _ _ (.inr (.inr (by rw [strB_size]; omega)))
      · exact labelTapes_many W R0 Y0 aW aR nW cW nR cR a1 len1 cap1 ⟨hmW, hmR⟩ z At To _ _ _ (.inr (.inl (by omega)))
    · exact labelTapes_many W R0 Y0 aW aR nW cW nR cR a1 len1 cap1 ⟨hmW, hmR⟩ z At To _ _ _ (.inl (by omega))
  refine walk.mono fun e W' ⟨he, bel⟩ => ?_
  subst he
  exact ⟨_, rfl, _, _, _, [], _, [], hW', trodAll_mk1 (shut_bool Try.underlying4 _), (trodAll_cons_mk (Below.trod laidOut1 (by kernel_rfl) (of_decide_eq_true (by kernel_rfl)) k0 bel lt0) (trodAll_cons_mk (Below.trod laidOut1 (by kernel_rfl) (of_decide_eq_true (by kernel_rfl)) k1 bel lt1) (trodAll_cons_mk (Below.trod laidOut1 (by kernel_rfl) (of_decide_eq_true (by kernel_rfl)) k2 bel lt2) trodAll_mk0))), rfl, bel.frame _, fun h => by cases h⟩

/-- The statement. -/
theorem labelTapes_holds : Rows.LabelTapesSaid :=
  OpenClaim.holds_of_wide 5 Try.f5 rfl rfl rfl rfl rfl rfl rfl ⟨rfl, rfl, rfl, rfl, rfl⟩ rfl rfl rfl rfl rfl (by kernel_rfl) Try.func5 (by kernel_rfl)
    (of_decide_eq_true (by kernel_rfl)) (by unfold Func.isWrapper; first | (rw [if_pos (by decide +kernel)]; kernel_rfl) | (rw [if_neg (by decide +kernel)]; exact ⟨rfl, rfl⟩))
    (fun os started H enc _ => labelTapes_lifted os started H enc)
#print axioms labelTapes_holds
end Go.Proofs.Ytcmbnijjkpfhlaa
