/- PowerActs returns true at every input: any calls, one behind the other; the argument reads as it did. No condition. -/
import Derived.Test.YtplboipmepmgkaaPowActs
import Derived.Test.YtplboipmepmgkaaStructs
import Derived.Test.YtplboipmepmgkaaPowNilRow
namespace Go.Proofs.Ytplboipmepmgkaa
open Go.ChangeShapes Go.WideShapes Go.ChangeAt Go.RowKit Go.Deep

/-- More than 200 calls: the example alone. -/
theorem powerActs_many (w : World) (a : Option Addr) (n c : Nat) (hn : 200 < n) :
    Calls Try.prog 3 #[.slice a n c] w fun e w' => e = .returned (.bool true) ∧ Below w.heap.size w w' := by
  have hL := Lib.hid (lives_any w)
  obtain ⟨w1, h1⟩ : ∃ w1, w1 = w.alloc (powObj ⟨false, none, 2⟩) := ⟨_, rfl⟩
  have HB1 : Hid (Below w.heap.size w w1) := by rw [h1]; exact Lib.hid ((Below.refl _ _).alloc (Nat.le_refl _) _)
  rw [← h1] at hL
  clear h1
  have hL2 := Lib.hid (lives_any w1)
  obtain ⟨w2, h2⟩ : ∃ w2, w2 = w1.alloc (powObj ⟨false, none, 2⟩) := ⟨_, rfl⟩
  have HB2 : Hid (Below w.heap.size w w2) := by rw [h2]; exact Lib.hid (HB1.out.alloc HB1.out.size _)
  rw [← h2] at hL2
  clear h2
  go_enter Try.func3, Try.ntmps3
  go_wp2_with fail
  refine hL.out.mono ?_
  rintro e w' ⟨rfl, rfl⟩
  go_wp2_with fail
  refine hL2.out.mono ?_
  rintro e w' ⟨rfl, rfl⟩
  go_wp2
  go_ret
  exact ⟨rfl, HB2.out⟩

/-- A slice of calls that came in. -/
theorem acts_open {H : Type} {enc : TypeId × Value → H} {W : World} {b0 : Nat} {held : Bool} {a : Option Addr} {n c : Nat} {d : DataW H} {p : List MemPlace}
    (h : DataW.Trod enc Try.prog W b0 (fun _ => true) held 22 (.slice a n c) d p) : ∃ L, RdA W a n L := by
  obtain ⟨_, _, hk⟩ := structs_open Try.underlying22 Try.underlying27 (by kernel_rfl) (by kernel_rfl) _ rfl h
  rcases Nat.eq_zero_or_pos n with h0 | h0
  · subst h0
    exact ⟨[], rfl, by simp, by omega⟩
  · obtain ⟨b, o, rfl, hc⟩ := hk h0
    have cell : ∀ i, i < n → ∃ K N T : Int, W.cell? ⟨b, o + i * 3, none⟩ = some (.int .u8 K) ∧ W.cell? ⟨b, o + i * 3 + 1, none⟩ = some (.int .i64 N) ∧ W.cell? ⟨b, o + i * 3 + 2, none⟩ = some (.int .i64 T) ∧ (Lit.int .u8 K).wf = true ∧ (Lit.int .i64 N).wf = true := by
      intro i hi
      obtain ⟨v0, _, _, h0, t0⟩ := hc i hi 0 _ rfl
      obtain ⟨v1, _, _, h1, t1⟩ := hc i hi 1 _ rfl
      obtain ⟨v2, _, _, h2, t2⟩ := hc i hi 2 _ rfl
      obtain ⟨K, e0, _, w0⟩ := DataW.trod_int Try.underlying5 t0
      obtain ⟨N, e1, _, w1⟩ := DataW.trod_int Try.underlying3 t1
      obtain ⟨T, e2, _, w2⟩ := DataW.trod_int Try.underlying3 t2
      simp only [List.cons.injEq, and_true] at e0 e1 e2
      subst e0 e1 e2
      exact ⟨K, N, T, h0, h1, h2, w0, w1⟩
    refine ⟨(List.range n).map fun i => ((numIn (W.cell? ⟨b, o + i * 3, none⟩)).toNat, numIn (W.cell? ⟨b, o + i * 3 + 1, none⟩), numIn (W.cell? ⟨b, o + i * 3 + 2, none⟩)), by simp, ?_, fun _ => ⟨b, o, rfl, fun j hj => ?_⟩⟩
    · intro x hx
      simp only [List.mem_map, List.mem_range] at hx
      obtain ⟨i, hi, rfl⟩ := hx
      obtain ⟨K, N, T, e0, e1, e2, w0, w1⟩ := cell i hi
      rw [e0, e1]
      have b0 := bounds_u8 w0
      have b1 := bounds_i64 w1
      simp only [numIn]
      omega
    · obtain ⟨K, N, T, e0, e1, e2, w0, w1⟩ := cell j hj
      have b0 := bounds_u8 w0
      simp only [List.getD, List.getElem?_map, List.getElem?_range hj, Option.map_some, Option.getD_some]
      rw [e0, e1, e2]
      simp only [numIn]
      rw [Int.toNat_of_nonneg b0.1]
      simp

set_option maxRecDepth 100000 in
theorem powerActs_lifted (os : Os) (started : os.Started) (H : Type) (enc : TypeId × Value → H) :
    ReturnsInHanded {} Try.checked os 3 .any (Rows.powerActsSpec.pre6 enc Try.prog Try.f3 Rows.powerActsRow.domain false) (Rows.powerActsSpec.post enc Try.prog Try.f3 false true false false) := by
  refine returnsInHanded_of_change (C := Try.checked) knob1 started (by kernel_rfl) Try.func3
    (ChangeSpec.witness6 (enc := enc) (C := Try.checked) false ⟨#[], #[.slice none 0 0], []⟩ 8 (by kernel_rfl) (by kernel_rfl) (by kernel_rfl) (by kernel_rfl)) ?_
  intro W base args ds gs before hval0 hW hcnd _
  have hval : ∀ (j : Nat) t v, Try.f3.params[j]? = some t → args[j]? = some v → Value.okWide Try.prog W .any base t v := hval0
  have hW' := hW
  obtain ⟨p, q, hA0, hV, rfl, hfz, hnd⟩ := hW
  have hA : DataW.TrodAll enc Try.prog W 0 (fun _ => true) true Try.f3.params.toList args.toList ds p := hA0
  rw [Try.params3] at hA hval
  obtain ⟨v0, vs0, d0, ds0, p0, q0, hargs, rfl, rfl, h0, r0⟩ := trodAll_cons hA
  obtain ⟨rfl, rfl, rfl⟩ := trodAll_nil r0
  obtain rfl : args = #[v0] := by cases args; simp_all
  obtain ⟨rfl, rfl⟩ := trodVars_none hV
  obtain ⟨a0, len0, cap0, rfl⟩ := okWide_slice Try.underlying22 (hval 0 22 v0 rfl rfl)
  have k0 := h0
  have lt0 : ∀ x ∈ p0, x.block < W.heap.size := by obtain ⟨m, hm⟩ := k0; exact DataW.trod_lt m _ _ _ hm
  obtain ⟨L, hL⟩ := acts_open h0
  clear hA0 hval0
  have walk : Calls Try.prog 3 #[.slice a0 len0 cap0] W fun e w' => e = .returned (.bool true) ∧ Below W.heap.size W w' := by
    by_cases hn : len0 ≤ 200
    · exact powerActs_walk W a0 len0 cap0 L hL hn
    · exact powerActs_many W a0 len0 cap0 (by omega)
  refine walk.mono fun e W' ⟨he, bel⟩ => ?_
  subst he
  exact ⟨_, rfl, _, _, _, [], _, [], hW', trodAll_mk1 (shut_bool Try.underlying4 _), (trodAll_cons_mk (Below.trod laidOut1 (by kernel_rfl) (of_decide_eq_true (by kernel_rfl)) k0 bel lt0) trodAll_mk0), rfl, bel.frame _, fun h => by cases h⟩

/-- The statement. -/
theorem powerActs_holds : Rows.PowerActsSaid :=
  OpenClaim.holds_of_wide 3 Try.f3 rfl rfl rfl rfl rfl rfl rfl ⟨rfl, rfl, rfl, rfl, rfl⟩ rfl rfl rfl rfl rfl (by kernel_rfl) Try.func3 (by kernel_rfl)
    (of_decide_eq_true (by kernel_rfl)) (by unfold Func.isWrapper; first | (rw [if_pos (by decide +kernel)]; kernel_rfl) | (rw [if_neg (by decide +kernel)]; exact ⟨rfl, rfl⟩))
    (fun os started H enc _ => powerActs_lifted os started H enc)
#print axioms powerActs_holds
end Go.Proofs.Ytplboipmepmgkaa
