/- RootCrash returns true at every input: Commits, one behind the other, whenever power falls; the arguments read as they did. No condition. -/
import Derived.Test.YtpdpnlgiaehegaaRCrash
import Derived.Test.YtpdpnlgiaehegaaMemOpen
import Derived.Test.YtpdpnlgiaehegaaStructs
namespace Go.Proofs.Ytpdpnlgiaehegaa
open Go.ChangeShapes Go.WideShapes Go.ChangeAt Go.RowKit Go.Deep

set_option maxRecDepth 100000 in
/-- More than 40 Commits: the example alone. -/
theorem rootCrash_many (w : World) (nn : Int) (a : Option Addr) (n c : Nat) (hn : 40 < n) :
    Calls Try.prog 4 #[.int .i64 nn, .slice a n c] w fun e w' => e = .returned (.bool true) ∧ Below w.heap.size w w' := by
  have HL := Lib.hid (lives_any w)
  go_enter Try.func4, Try.ntmps4
  go_wp2_with fail
  refine HL.out.mono ?_
  rintro e w1 ⟨rfl, hb1⟩
  have HL2 := Lib.hid (lives_any w1)
  have HB1 := Lib.hid hb1
  clear hb1 HL
  go_wp2_with fail
  refine HL2.out.mono ?_
  rintro e w2 ⟨rfl, hb2⟩
  have HB2 := Lib.hid hb2
  clear hb2 HL2
  go_wp2
  go_ret
  exact ⟨rfl, HB1.out.trans (HB2.out.mono HB1.out.size)⟩

/-- A slice of Commits that came in. -/
theorem cms_open {H : Type} {enc : TypeId × Value → H} {W : World} {b0 : Nat} {held : Bool} {a : Option Addr} {n c : Nat} {d : DataW H} {p : List MemPlace}
    (h : DataW.Trod enc Try.prog W b0 (fun _ => true) held 43 (.slice a n c) d p) : ∃ X, RdC W a n X := by
  obtain ⟨_, _, hk⟩ := structs_open Try.underlying43 Try.underlying45 (by kernel_rfl) (by kernel_rfl) _ rfl h
  rcases Nat.eq_zero_or_pos n with h0 | h0
  · subst h0
    exact ⟨[], rfl, by simp, by omega⟩
  · obtain ⟨b, o, rfl, hc⟩ := hk h0
    have cell : ∀ i, ∃ x : Cm, i < n → W.cell? ⟨b, o + i * 3, none⟩ = some (.slice x.a x.n x.c) ∧ W.cell? ⟨b, o + i * 3 + 1, none⟩ = some (.int .i64 x.I) ∧ W.cell? ⟨b, o + i * 3 + 2, none⟩ = some (.int .i64 x.Z) ∧ x.fits W := by
      intro i
      by_cases hi : i < n
      · obtain ⟨v3, _, ⟨d3, p3⟩, h3, t3⟩ := hc i hi 0 _ rfl
        obtain ⟨v1, _, _, h1, t1⟩ := hc i hi 1 _ rfl
        obtain ⟨v2, _, _, h2, t2⟩ := hc i hi 2 _ rfl
        obtain ⟨N, e1, _, w1⟩ := DataW.trod_int Try.underlying3 t1
        obtain ⟨T, e2, _, w2⟩ := DataW.trod_int Try.underlying3 t2
        simp only [List.cons.injEq, and_true] at e1 e2
        subst e1 e2
        have b1 := bounds_i64 w1
        rcases open_ints Try.underlying32 Try.underlying5 (by kernel_rfl) t3 with ⟨hcs, _⟩ | ⟨x, l, c', zs, hcs, _, hl, hm, hz, _, hcell, hwz⟩
        · simp only [List.cons.injEq, and_true] at hcs
          subst hcs
          refine ⟨⟨none, 0, 0, [], N, T⟩, fun _ => ⟨h3, h1, h2, ?_⟩⟩
          exact ⟨by simp only; omega, Nat.le_refl _, rfl, by simp, by simp⟩
        · simp only [List.cons.injEq, and_true] at hcs
          subst hcs
          refine ⟨⟨some x, l, c', (zs.take l).map Int.toNat, N, T⟩, fun _ => ⟨h3, h1, h2, ?_⟩⟩
          exact ⟨by simp only; omega, hl, (nums_of (k := .u8) (fun z hz => (bounds_u8 hz).1) hl (by simpa using hz) hcell hwz).rd⟩
      · exact ⟨Cm.none, fun h => absurd h hi⟩
    obtain ⟨f, hf⟩ := Classical.axiomOfChoice cell
    refine ⟨(List.range n).map f, by simp, ?_, fun _ => ⟨b, o, rfl, fun j hj => ?_⟩⟩
    · intro x hx
      simp only [List.mem_map, List.mem_range] at hx
      obtain ⟨i, hi, rfl⟩ := hx
      exact (hf i hi).2.2.2
    · have e : ((List.range n).map f).getD j Cm.none = f j := by simp [List.getD, hj]
      rw [e]
      obtain ⟨h1, h2, h3, _⟩ := hf j hj
      exact ⟨h1, h2, h3⟩

set_option maxRecDepth 100000 in
theorem rootCrash_lifted (os : Os) (started : os.Started) (H : Type) (enc : TypeId × Value → H) :
    ReturnsInHanded {} Try.checked os 4 .any (Rows.rootCrashSpec.pre6 enc Try.prog Try.f4 Rows.rootCrashRow.domain false) (Rows.rootCrashSpec.post enc Try.prog Try.f4 false true false false) := by
  refine returnsInHanded_of_change (C := Try.checked) knob1 started (by kernel_rfl) Try.func4
    (ChangeSpec.witness6 (enc := enc) (C := Try.checked) false ⟨#[], #[.int .i64 0, .slice none 0 0], []⟩ 8 (by kernel_rfl) (by kernel_rfl) (by kernel_rfl) (by kernel_rfl)) ?_
  intro W base args ds gs before hval0 hW hcnd _
  have hval : ∀ (j : Nat) t v, Try.f4.params[j]? = some t → args[j]? = some v → Value.okWide Try.prog W .any base t v := hval0
  have hW' := hW
  obtain ⟨p, q, hA0, hV, rfl, hfz, hnd⟩ := hW
  have hA : DataW.TrodAll enc Try.prog W 0 (fun _ => true) true Try.f4.params.toList args.toList ds p := hA0
  rw [Try.params4] at hA hval
  obtain ⟨v0, vs0, d0, ds0, p0, q0, hargs, rfl, rfl, h0, r0⟩ := trodAll_cons hA
  obtain ⟨v1, vs1, d1, ds1, p1, q1, hargs1, rfl, rfl, h1, r1⟩ := trodAll_cons r0
  obtain ⟨rfl, rfl, rfl⟩ := trodAll_nil r1
  obtain rfl : args = #[v0, v1] := by cases args; simp_all
  obtain ⟨rfl, rfl⟩ := trodVars_none hV
  obtain ⟨z0, rfl, rfl, rfl, hz0⟩ := open_int Try.underlying3 (hval 0 3 v0 rfl rfl) h0
  obtain ⟨a1, len1, cap1, rfl⟩ := okWide_slice Try.underlying43 (hval 1 43 v1 rfl rfl)
  have k1 := h1
  have lt1 : ∀ x ∈ p1, x.block < W.heap.size := by obtain ⟨m, hm⟩ := k1; exact DataW.trod_lt m _ _ _ hm
  obtain ⟨X, hX⟩ := cms_open h1
  clear hA0 hval0
  have walk : Calls Try.prog 4 #[.int .i64 z0, .slice a1 len1 cap1] W fun e w' => e = .returned (.bool true) ∧ Below W.heap.size W w' := by
    by_cases hn : len1 ≤ 40
    · exact rootCrash_walk W z0 a1 len1 cap1 X hX hn
    · exact rootCrash_many W z0 a1 len1 cap1 (by omega)
  refine walk.mono fun e W' ⟨he, bel⟩ => ?_
  subst he
  exact ⟨_, rfl, _, _, _, [], _, [], hW', trodAll_mk1 (shut_bool Try.underlying4 _), (trodAll_cons_mk (shut_int Try.underlying3 hz0) (trodAll_cons_mk (Below.trod laidOut1 (by kernel_rfl) (of_decide_eq_true (by kernel_rfl)) k1 bel lt1) trodAll_mk0)), rfl, bel.frame _, fun h => by cases h⟩

/-- The statement. -/
theorem rootCrash_holds : Rows.RootCrashSaid :=
  OpenClaim.holds_of_wide 4 Try.f4 rfl rfl rfl rfl rfl rfl rfl ⟨rfl, rfl, rfl, rfl, rfl⟩ rfl rfl rfl rfl rfl (by kernel_rfl) Try.func4 (by kernel_rfl)
    (of_decide_eq_true (by kernel_rfl)) (by unfold Func.isWrapper; first | (rw [if_pos (by decide +kernel)]; kernel_rfl) | (rw [if_neg (by decide +kernel)]; exact ⟨rfl, rfl⟩))
    (fun os started H enc _ => rootCrash_lifted os started H enc)
#print axioms rootCrash_holds
end Go.Proofs.Ytpdpnlgiaehegaa
