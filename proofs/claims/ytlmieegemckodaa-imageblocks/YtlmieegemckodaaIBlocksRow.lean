/- ImageBlocks returns true at every input: any writes make the image that the document makes of them, block by block; a clone stays as it was; its bytes are the document's, are read as it, and come to its digest; the arguments read as they did. No condition. -/
import Derived.Test.YtlmieegemckodaaIBlocks
import Derived.Test.YtlmieegemckodaaWOpenAll
namespace Go.Proofs.Ytlmieegemckodaa
open Go.ChangeShapes Go.WideShapes Go.ChangeAt Go.RowKit Go.Deep

set_option maxHeartbeats 1000000 in
set_option maxRecDepth 100000 in
/-- More than 300 writes, or more than 500 bytes: the example alone. -/
theorem imageBlocks_many (a : Option Addr) (n c : Nat) (I : Int) (C : Bool) (oa : Option Addr) (om oc : Nat) (w : World) (h : 300 < n ∨ (n ≤ 300 ∧ 500 < om)) :
    Calls Try.prog 3 #[.slice a n c, .agg #[.int .i64 I, .bool C, .slice oa om oc]] w fun e w' => e = .returned (.bool true) ∧ Below w.heap.size w w' := by
  obtain ⟨g3, hg3⟩ : ∃ g3, g3 = w.heap.size := ⟨_, rfl⟩
  obtain ⟨w0, hw0⟩ : ∃ w0, w0 = w.alloc (.cells #[.int .i64 I, .bool C, .slice oa om oc] 25) := ⟨_, rfl⟩
  have HB0 : Hid (Below w.heap.size w w0) := Lib.hid (by rw [hw0]; exact Below.alloc0 _ _)
  have HC0 : Hid (w0.heap[g3]? = some (.cells #[.int .i64 I, .bool C, .slice oa om oc] 25 (0, 0))) := Lib.hid (by rw [hw0, hg3]; exact heap_alloc_last _ _)
  have HK0 : Hid (∀ W, Below w0.heap.size w0 W → W.cell? ⟨g3, 2, none⟩ = some (.slice oa om oc)) := Lib.hid fun W hW => by
    have hb := (hW.block g3 (lt_of_block HC0.out)).trans HC0.out
    rw [cell_of_row W g3 2 _ _ _ hb]; rfl
  have HL2 : Hid (∀ W, Below w0.heap.size w0 W → Calls Try.prog 6 #[] W fun e w' => e = .returned (.bool true) ∧ Hid (Below w.heap.size w w')) := by
    refine Lib.hid fun W hW => (lives9_any W).mono ?_
    rintro e w' ⟨rfl, hb⟩
    have h1 := hW.trans (hb.mono hW.size)
    exact ⟨rfl, Lib.hid (HB0.out.trans (h1.mono HB0.out.size))⟩
  have hw0' : w.alloc (.cells #[.int .i64 I, .bool C, .slice oa om oc] 25) = w0 := hw0.symm
  have hg3' : w.heap.size = g3 := hg3.symm
  clear hw0 hg3
  rcases h with hn | ⟨hn, hm⟩
  · have hd1 : decide ((300 : Int) < (n : Int)) = true := by simp; omega
    clear hn
    go_enter Try.func3, Try.ntmps3
    go_wp2_with fail
    refine (lives9_any w0).mono ?_
    rintro e w1 ⟨rfl, hb1⟩
    have HB1 := Lib.hid hb1
    clear hb1 hw0' hg3'
    go_wp2_with fail
    refine (HL2.out _ HB1.out).mono ?_
    rintro e w3 ⟨rfl, H3⟩
    go_wp2
    go_ret
    exact ⟨rfl, H3.out⟩
  · have hd1 : decide ((300 : Int) < (n : Int)) = false := by simp; omega
    have hd2 : decide ((500 : Int) < (om : Int)) = true := by simp; omega
    clear hn hm
    go_enter Try.func3, Try.ntmps3
    go_wp2_with fail
    refine (lives9_any w0).mono ?_
    rintro e w1 ⟨rfl, hb1⟩
    have k2 := HK0.out w1 hb1
    have HB1 := Lib.hid hb1
    clear hb1 hw0' hg3'
    go_wp2_with fail
    refine (HL2.out _ HB1.out).mono ?_
    rintro e w3 ⟨rfl, H3⟩
    go_wp2
    go_ret
    exact ⟨rfl, H3.out⟩

set_option maxRecDepth 100000 in
theorem imageBlocks_lifted (os : Os) (started : os.Started) (H : Type) (enc : TypeId × Value → H) :
    ReturnsInHanded {} Try.checked os 3 .any (Rows.imageBlocksSpec.pre6 enc Try.prog Try.f3 Rows.imageBlocksRow.domain false) (Rows.imageBlocksSpec.post enc Try.prog Try.f3 false true false false) := by
  refine returnsInHanded_of_change_sized (C := Try.checked) knob1 started (by kernel_rfl) Try.func3
    (ChangeSpec.witness6 (enc := enc) (C := Try.checked) false ⟨#[], #[.slice none 0 0, .agg #[.int .i64 0, .bool false, .slice none 0 0]], []⟩ 8 (by kernel_rfl) (by kernel_rfl) (by kernel_rfl) (by kernel_rfl)) ?_
  intro W base args ds gs before hval0 hW hcnd hsz0 _
  have hval : ∀ (j : Nat) t v, Try.f3.params[j]? = some t → args[j]? = some v → Value.okWide Try.prog W .any base t v := hval0
  have hsz : (DataW.weightsEach Try.prog (Try.f3.params.toList ++ Rows.imageBlocksSpec.plain.varTypes Try.prog) (ds ++ gs)).all (· ≤ reachBytes) = true := hsz0
  have hW' := hW
  obtain ⟨p, q, hA0, hV, rfl, hfz, hnd⟩ := hW
  have hA : DataW.TrodAll enc Try.prog W 0 (fun _ => true) true Try.f3.params.toList args.toList ds p := hA0
  rw [Try.params3] at hA hval hsz
  obtain ⟨v0, vs0, d0, ds0, p0, q0, hargs, rfl, rfl, h0, r0⟩ := trodAll_cons hA
  obtain ⟨v1, vs1, d1, ds1, p1, q1, hargs1, rfl, rfl, h1, r1⟩ := trodAll_cons r0
  obtain ⟨rfl, rfl, rfl⟩ := trodAll_nil r1
  obtain rfl : args = #[v0, v1] := by cases args; simp_all
  obtain ⟨rfl, rfl⟩ := trodVars_none hV
  obtain ⟨a0, len0, cap0, rfl⟩ := okWide_slice Try.underlying22 (hval 0 22 v0 rfl rfl)
  obtain ⟨cs1, rfl, _⟩ := okWide_struct Try.underlying25 (hval 1 25 v1 rfl rfl)
  have k0 := h0
  have lt0 : ∀ x ∈ p0, x.block < W.heap.size := by obtain ⟨m, hm⟩ := k0; exact DataW.trod_lt m _ _ _ hm
  have k1 := h1
  have lt1 : ∀ x ∈ p1, x.block < W.heap.size := by obtain ⟨m, hm⟩ := k1; exact DataW.trod_lt m _ _ _ hm
  obtain ⟨m0, X0, hX0⟩ := writes_open h0 (fun z hz => by
    have h9 := List.all_eq_true.1 hsz z (DataW.weights_mem_each (j := 0) (t := 22) rfl rfl z hz)
    simpa using h9)
  obtain ⟨r, hr, hf⟩ : ∃ r : Wr, wrV r = cs1.toList ∧ r.fits W := by
    obtain ⟨fuel, hf⟩ := h1
    exact write_open hf
  obtain rfl : cs1 = #[.int .i64 r.i, .bool r.clr, .slice r.a r.m r.c] := by
    cases cs1
    exact congrArg Array.mk hr.symm
  clear hA0 hval0
  have walk : Calls Try.prog 3 #[.slice a0 len0 cap0, .agg #[.int .i64 r.i, .bool r.clr, .slice r.a r.m r.c]] W fun e w' => e = .returned (.bool true) ∧ Below W.heap.size W w' := by
    by_cases hn : len0 ≤ 300
    · by_cases hm : r.m ≤ 500
      · exact imageBlocks_walk a0 len0 cap0 X0 r.i r.clr r.a r.m r.c r.x W hX0 hf.1 hf.2.2 hn hm
      · exact imageBlocks_many a0 len0 cap0 r.i r.clr r.a r.m r.c W (.inr ⟨hn, by omega⟩)
    · exact imageBlocks_many a0 len0 cap0 r.i r.clr r.a r.m r.c W (.inl (by omega))
  refine walk.mono fun e W' ⟨he, bel⟩ => ?_
  subst he
  exact ⟨_, rfl, _, _, _, [], _, [], hW', trodAll_mk1 (shut_bool Try.underlying4 _), (trodAll_cons_mk (Below.trod laidOut1 (by kernel_rfl) (of_decide_eq_true (by kernel_rfl)) k0 bel lt0) (trodAll_cons_mk (Below.trod laidOut1 (by kernel_rfl) (of_decide_eq_true (by kernel_rfl)) k1 bel lt1) trodAll_mk0)), rfl, bel.frame _, fun h => by cases h⟩

/-- The statement. -/
theorem imageBlocks_holds : Rows.ImageBlocksSaid :=
  OpenClaim.holds_of_wide 3 Try.f3 rfl rfl rfl rfl rfl rfl rfl ⟨rfl, rfl, rfl, rfl, rfl⟩ rfl rfl rfl rfl rfl (by kernel_rfl) Try.func3 (by kernel_rfl)
    (of_decide_eq_true (by kernel_rfl)) (by unfold Func.isWrapper; first | (rw [if_pos (by decide +kernel)]; kernel_rfl) | (rw [if_neg (by decide +kernel)]; exact ⟨rfl, rfl⟩))
    (fun os started H enc _ => imageBlocks_lifted os started H enc)
#print axioms imageBlocks_holds
end Go.Proofs.Ytlmieegemckodaa
