/- LibraryActs returns true at every input: any calls, of the library, and of the tape in its drive, one behind the other; the argument reads as it did. No condition. -/
import Derived.Test.YtcofjhiienifmaaLActs
import Derived.Test.YtcofjhiienifmaaMemOpen
import Derived.Test.YtcofjhiienifmaaStructs
import Derived.Lib.SmallJoins
import Derived.SizedLaws
namespace Go.Proofs.Ytcofjhiienifmaa
open Go.ChangeShapes Go.WideShapes Go.ChangeAt Go.RowKit Go.Deep

set_option maxHeartbeats 1000000 in
set_option maxRecDepth 100000 in
/-- More than 150 calls: the example alone. -/
theorem libraryActs_many (w : World) (a : Option Addr) (n c : Nat) (hn : 150 < n) :
    Calls Try.prog 3 #[.slice a n c] w fun e w' => e = .returned (.bool true) ∧ Below w.heap.size w w' := by
  have HL := Lib.hid (lives_any w)
  have HL2 : Hid (∀ W, Below w.heap.size w W → Calls Try.prog 5 #[] W fun e w' => e = .returned (.bool true) ∧ Hid (Below w.heap.size w w')) := by
    refine Lib.hid fun W hW => (lives_any W).mono ?_
    rintro e w' ⟨rfl, hb⟩
    exact ⟨rfl, Lib.hid (hW.trans (hb.mono hW.size))⟩
  go_enter Try.func3, Try.ntmps3
  go_wp2_with fail
  refine HL.out.mono ?_
  rintro e w2 ⟨rfl, B2⟩
  have H2 := Lib.hid B2
  clear B2
  go_wp2_with fail
  refine (HL2.out _ H2.out).mono ?_
  rintro e w3 ⟨rfl, H3⟩
  go_wp2
  go_ret
  exact ⟨rfl, H3.out⟩

/-- A slice of numbers that came in. -/
theorem rdI_open {H : Type} {enc : TypeId × Value → H} {W : World} {b0 : Nat} {held : Bool} {v : Value} {m : Nat} {x : DataW H × List MemPlace}
    (h : DataW.trod enc Try.prog W b0 (fun _ => true) held m 34 [v] = some x) (hsz : ∀ z ∈ x.1.weights Try.prog 34, z ≤ reachBytes) : ∃ a n c L, v = .slice a n c ∧ n ≤ reachBytes ∧ RdI W a n L := by
  rcases open_ints Try.underlying34 Try.underlying3 (by kernel_rfl) h with ⟨hcs, _⟩ | ⟨x, l, c', zs, hcs, _, hl, hm, hz, hx, hcell, hwz⟩
  · simp only [List.cons.injEq, and_true] at hcs
    subst hcs
    exact ⟨none, 0, 0, [], rfl, Nat.zero_le _, rfl, by simp, by omega⟩
  · simp only [List.cons.injEq, and_true] at hcs
    subst hcs
    have hz' : zs.length = c' := by simpa using hz
    have hreach : c' ≤ reachBytes := by
      have h1 := hsz (c' * Try.prog.bytesOf 3) (by
        rw [hx]
        simp only [DataW.weights, Try.underlying34, lits, List.length_map, List.length_take, List.length_drop]
        have h2 : min l zs.length + (zs.length - l) = c' := by omega
        rw [h2]
        simp)
      exact Nat.le_trans (Nat.le_mul_of_pos_right c' (of_decide_eq_true (by kernel_rfl))) h1
    refine ⟨some x, l, c', zs.take l, rfl, by omega, by simp; omega, fun z hz => hwz z (List.mem_of_mem_take hz), fun h0 => ?_⟩
    obtain ⟨b, o, rfl, hc⟩ := ints_at hcell (by omega)
    refine ⟨b, o, rfl, fun j hj => ?_⟩
    rw [hc j (by omega)]
    have hj' : j < zs.length := by omega
    simp [List.getD, hj, hj']

/-- A slice of bytes that came in. -/
theorem rdB_open {H : Type} {enc : TypeId × Value → H} {W : World} {b0 : Nat} {held : Bool} {v : Value} {m : Nat} {x : DataW H × List MemPlace}
    (h : DataW.trod enc Try.prog W b0 (fun _ => true) held m 37 [v] = some x) : ∃ a n c l, v = .slice a n c ∧ Rd W a n l := by
  rcases open_ints Try.underlying37 Try.underlying5 (by kernel_rfl) h with ⟨hcs, _⟩ | ⟨x, l, c', zs, hcs, _, hl, hm, hz, _, hcell, hwz⟩
  · simp only [List.cons.injEq, and_true] at hcs
    subst hcs
    exact ⟨none, 0, 0, [], rfl, rfl, by simp, by simp⟩
  · simp only [List.cons.injEq, and_true] at hcs
    subst hcs
    exact ⟨some x, l, c', (zs.take l).map Int.toNat, rfl, (nums_of (k := .u8) (fun z hz => (bounds_u8 hz).1) hl (by simpa using hz) hcell hwz).rd⟩

theorem list4 {α : Type} {l : List α} (h : l.length = 4) : ∃ a b c d, l = [a, b, c, d] := by
  match l, h with
  | [a, b, c, d], _ => exact ⟨a, b, c, d, rfl⟩

theorem list10 {α : Type} {l : List α} (h : l.length = 10) : ∃ c0 c1 c2 c3 c4 c5 c6 c7 c8 c9, l = [c0, c1, c2, c3, c4, c5, c6, c7, c8, c9] := by
  match l, h with
  | [c0, c1, c2, c3, c4, c5, c6, c7, c8, c9], _ => exact ⟨c0, c1, c2, c3, c4, c5, c6, c7, c8, c9, rfl⟩

theorem cells1 : Try.prog.cellsOf 5 = 1 ∧ Try.prog.cellsOf 3 = 1 ∧ Try.prog.cellsOf 34 = 1 ∧ Try.prog.cellsOf 37 = 1 ∧ Try.prog.cellsOf 36 = 4 ∧ Try.prog.cellsOf 39 = 4 ∧ Try.prog.cellsOf 41 = 10 := by
  refine ⟨?_, ?_, ?_, ?_, ?_, ?_, ?_⟩ <;> kernel_rfl

theorem weightsAll_mem {H : Type} {P : Program} {e : TypeId} : ∀ {l : List (DataW H)} {d : DataW H}, d ∈ l → ∀ n ∈ d.weights P e, n ∈ DataW.weightsAll P e l
  | [], _, h, _, _ => by cases h
  | a :: r, d, h, n, hn => by
    simp only [DataW.weightsAll, List.mem_append]
    rcases List.mem_cons.1 h with rfl | h
    · exact .inl hn
    · exact .inr (weightsAll_mem h n hn)

/-- One call that came in. -/
theorem act7_open {H : Type} {enc : TypeId × Value → H} {W : World} {b0 : Nat} {held : Bool} {m : Nat} {cs : List Value} {D : DataW H} {Pl : List MemPlace}
    (h : DataW.trod enc Try.prog W b0 (fun _ => true) held m 41 cs = some (D, Pl)) (hsz : ∀ z ∈ D.weights Try.prog 41, z ≤ reachBytes) : ∃ x : Cl, clV x = cs ∧ x.fits W := by
  obtain ⟨q1, q2, q3, q4, q5, q6, q7⟩ := cells1
  obtain ⟨ys, k, _, hD, hcl, hyl, hg⟩ := DataW.trod_struct Try.underlying41 h
  rw [q7] at hcl
  obtain ⟨c0, c1, c2, c3, c4, c5, c6, c7, c8, c9, rfl⟩ := list10 hcl
  obtain ⟨y0, y1, y2, y3, rfl⟩ := list4 hyl
  have f0 : DataW.trod enc Try.prog W b0 (fun _ => true) held k 5 [c0] = some y0 := by
    have h0 : DataW.trod enc Try.prog W b0 (fun _ => true) held k 5 (([c0, c1, c2, c3, c4, c5, c6, c7, c8, c9].drop 0).take (Try.prog.cellsOf 5)) = some y0 := hg 0 _ rfl
    rw [q1] at h0
    exact h0
  have f1 : DataW.trod enc Try.prog W b0 (fun _ => true) held k 3 [c1] = some y1 := by
    have h0 : DataW.trod enc Try.prog W b0 (fun _ => true) held k 3 (([c0, c1, c2, c3, c4, c5, c6, c7, c8, c9].drop 1).take (Try.prog.cellsOf 3)) = some y1 := hg 1 _ rfl
    rw [q2] at h0
    exact h0
  have f2 : DataW.trod enc Try.prog W b0 (fun _ => true) held k 36 [c2, c3, c4, c5] = some y2 := by
    have h0 : DataW.trod enc Try.prog W b0 (fun _ => true) held k 36 (([c0, c1, c2, c3, c4, c5, c6, c7, c8, c9].drop 2).take (Try.prog.cellsOf 36)) = some y2 := hg 2 _ rfl
    rw [q5] at h0
    exact h0
  have f3 : DataW.trod enc Try.prog W b0 (fun _ => true) held k 39 [c6, c7, c8, c9] = some y3 := by
    have h0 : DataW.trod enc Try.prog W b0 (fun _ => true) held k 39 (([c0, c1, c2, c3, c4, c5, c6, c7, c8, c9].drop 6).take (Try.prog.cellsOf 39)) = some y3 := hg 3 _ rfl
    rw [q6] at h0
    exact h0
  injection hD with hD _
  subst hD
  obtain ⟨zs, k2, _, hD2, _, hzl, hg2⟩ := DataW.trod_struct Try.underlying36 f2
  obtain ⟨z0, z1, z2, z3, rfl⟩ := list4 hzl
  have p0 : DataW.trod enc Try.prog W b0 (fun _ => true) held k2 3 [c2] = some z0 := by
    have h0 : DataW.trod enc Try.prog W b0 (fun _ => true) held k2 3 (([c2, c3, c4, c5].drop 0).take (Try.prog.cellsOf 3)) = some z0 := hg2 0 _ rfl
    rw [q2] at h0
    exact h0
  have p1 : DataW.trod enc Try.prog W b0 (fun _ => true) held k2 3 [c3] = some z1 := by
    have h0 : DataW.trod enc Try.prog W b0 (fun _ => true) held k2 3 (([c2, c3, c4, c5].drop 1).take (Try.prog.cellsOf 3)) = some z1 := hg2 1 _ rfl
    rw [q2] at h0
    exact h0
  have p2 : DataW.trod enc Try.prog W b0 (fun _ => true) held k2 34 [c4] = some z2 := by
    have h0 : DataW.trod enc Try.prog W b0 (fun _ => true) held k2 34 (([c2, c3, c4, c5].drop 2).take (Try.prog.cellsOf 34)) = some z2 := hg2 2 _ rfl
    rw [q3] at h0
    exact h0
  have p3 : DataW.trod enc Try.prog W b0 (fun _ => true) held k2 34 [c5] = some z3 := by
    have h0 : DataW.trod enc Try.prog W b0 (fun _ => true) held k2 34 (([c2, c3, c4, c5].drop 3).take (Try.prog.cellsOf 34)) = some z3 := hg2 3 _ rfl
    rw [q3] at h0
    exact h0
  obtain ⟨us, k3, _, hD3, _, hul, hg3⟩ := DataW.trod_struct Try.underlying39 f3
  obtain ⟨u0, u1, u2, u3, rfl⟩ := list4 hul
  have r0 : DataW.trod enc Try.prog W b0 (fun _ => true) held k3 5 [c6] = some u0 := by
    have h0 : DataW.trod enc Try.prog W b0 (fun _ => true) held k3 5 (([c6, c7, c8, c9].drop 0).take (Try.prog.cellsOf 5)) = some u0 := hg3 0 _ rfl
    rw [q1] at h0
    exact h0
  have r1 : DataW.trod enc Try.prog W b0 (fun _ => true) held k3 3 [c7] = some u1 := by
    have h0 : DataW.trod enc Try.prog W b0 (fun _ => true) held k3 3 (([c6, c7, c8, c9].drop 1).take (Try.prog.cellsOf 3)) = some u1 := hg3 1 _ rfl
    rw [q2] at h0
    exact h0
  have r2 : DataW.trod enc Try.prog W b0 (fun _ => true) held k3 3 [c8] = some u2 := by
    have h0 : DataW.trod enc Try.prog W b0 (fun _ => true) held k3 3 (([c6, c7, c8, c9].drop 2).take (Try.prog.cellsOf 3)) = some u2 := hg3 2 _ rfl
    rw [q2] at h0
    exact h0
  have r3 : DataW.trod enc Try.prog W b0 (fun _ => true) held k3 37 [c9] = some u3 := by
    have h0 : DataW.trod enc Try.prog W b0 (fun _ => true) held k3 37 (([c6, c7, c8, c9].drop 3).take (Try.prog.cellsOf 37)) = some u3 := hg3 3 _ rfl
    rw [q4] at h0
    exact h0
  obtain ⟨K, e0, _, w0⟩ := DataW.trod_int Try.underlying5 f0
  obtain ⟨N, e1, _, _⟩ := DataW.trod_int Try.underlying3 f1
  obtain ⟨R, e2, _, _⟩ := DataW.trod_int Try.underlying3 p0
  obtain ⟨Y, e3, _, _⟩ := DataW.trod_int Try.underlying3 p1
  obtain ⟨k', e6, _, w6⟩ := DataW.trod_int Try.underlying5 r0
  obtain ⟨I, e7, _, w7⟩ := DataW.trod_int Try.underlying3 r1
  obtain ⟨Z, e8, _, _⟩ := DataW.trod_int Try.underlying3 r2
  simp only [List.cons.injEq, and_true] at e0 e1 e2 e3 e6 e7 e8
  subst e0 e1 e2 e3 e6 e7 e8
  have hwt : ∀ z, z ∈ z2.1.weights Try.prog 34 ∨ z ∈ z3.1.weights Try.prog 34 → z ≤ reachBytes := fun z hz => by
    refine hsz z ?_
    rw [hD2]
    simp only [DataW.weights, Try.underlying41, Try.underlying36, List.map_cons, List.map_nil, DataW.weightsEach, List.mem_append, List.not_mem_nil, or_false]
    rcases hz with hz | hz
    · exact .inr (.inr (.inl (.inr (.inr (.inl hz)))))
    · exact .inr (.inr (.inl (.inr (.inr (.inr hz)))))
  obtain ⟨aW, nW, cW, LW, rfl, hmW, hW⟩ := rdI_open p2 (fun z hz => hwt z (.inl hz))
  obtain ⟨aR, nR, cR, LR, rfl, hmR, hR⟩ := rdI_open p3 (fun z hz => hwt z (.inr hz))
  obtain ⟨a, n, c, l, rfl, hB⟩ := rdB_open r3
  have b0 := bounds_u8 w0
  have b6 := bounds_u8 w6
  have b7 := bounds_i64 w7
  have hK : ((K.toNat : Nat) : Int) = K := Int.toNat_of_nonneg b0.1
  have hk : ((k'.toNat : Nat) : Int) = k' := Int.toNat_of_nonneg b6.1
  refine ⟨⟨K.toNat, N, R, Y, aW, nW, cW, LW, aR, nR, cR, LR, k'.toNat, I, Z, a, n, c, l⟩, ?_, ⟨hW, hR, hmW, hmR, by simp only; omega, hB⟩⟩
  simp only [clV, hK, hk]

/-- A slice of calls that came in. -/
theorem acts7_open {H : Type} {enc : TypeId × Value → H} {W : World} {b0 : Nat} {held : Bool} {a : Option Addr} {n c : Nat} {d : DataW H} {p : List MemPlace}
    (h : DataW.Trod enc Try.prog W b0 (fun _ => true) held 22 (.slice a n c) d p) (hsz : ∀ z ∈ d.weights Try.prog 22, z ≤ reachBytes) : ∃ X, RdL W a n X := by
  obtain ⟨q1, q2, q3, q4, q5, q6, q7⟩ := cells1
  obtain ⟨fuel, hf⟩ := h
  rcases open_slice Try.underlying22 hf with ⟨hcs, _⟩ | ⟨x, len, cap, m, k, D, Pl, hcs, _, hl, hm, hmm, hd, hi⟩
  · simp [Value.cells] at hcs
    obtain ⟨rfl, rfl, rfl⟩ := hcs
    exact ⟨[], rfl, by simp, by omega⟩
  · simp [Value.cells] at hcs
    obtain ⟨rfl, rfl, rfl⟩ := hcs
    simp only [if_true] at hmm
    subst hmm
    have cell : ∀ i, ∃ y : Cl, i < n → (∀ j u, (clV y)[j]? = some u → W.cell? (x.add (i * 10 + j)) = some u) ∧ y.fits W := by
      intro i
      by_cases hin : i < n
      · obtain ⟨cs, hc, htr⟩ := hi i (by omega)
        obtain ⟨_, hcl, hat⟩ := World.cells?_some hc
        rw [q7] at hcl hat
        obtain ⟨y, hy, hfit⟩ := act7_open htr (fun z hz => hsz z (by
          injection hd with hd _
          rw [hd]
          simp only [DataW.weights, Try.underlying22, List.mem_cons, List.mem_append]
          exact .inr (.inl (weightsAll_mem (List.mem_map.2 ⟨i, List.mem_range.2 hin, rfl⟩) z hz))))
        refine ⟨y, fun _ => ⟨fun j u hu => ?_, hfit⟩⟩
        rw [hy] at hu
        have hj : j < 10 := by
          rcases Nat.lt_or_ge j 10 with h | h
          · exact h
          · rw [List.getElem?_eq_none (by omega)] at hu; cases hu
        have hcell := hat j hj
        rw [Go.Deep.add_add] at hcell
        exact hcell.trans hu
      · exact ⟨Cl.none, fun h => absurd h hin⟩
    obtain ⟨f, hfx⟩ := Classical.axiomOfChoice cell
    refine ⟨(List.range n).map f, by simp, ?_, fun h0 => ?_⟩
    · intro y hy
      simp only [List.mem_map, List.mem_range] at hy
      obtain ⟨i, hi', rfl⟩ := hy
      exact (hfx i hi').2
    · obtain ⟨b, o, sp⟩ := x
      have hv := (hfx 0 h0).1 0 _ rfl
      have hsp : sp = none := by simpa [Addr.add] using World.cell?_spot hv
      subst hsp
      refine ⟨b, o, rfl, fun j hj i u hu => ?_⟩
      have e : ((List.range n).map f).getD j Cl.none = f j := by simp [List.getD, hj]
      rw [e] at hu
      have := (hfx j hj).1 i u hu
      rw [Go.WideShapes.add_plain] at this
      rw [Nat.add_assoc]
      exact this

set_option maxRecDepth 100000 in
theorem libraryActs_lifted (os : Os) (started : os.Started) (H : Type) (enc : TypeId × Value → H) :
    ReturnsInHanded {} Try.checked os 3 .any (Rows.libraryActsSpec.pre6 enc Try.prog Try.f3 Rows.libraryActsRow.domain false) (Rows.libraryActsSpec.post enc Try.prog Try.f3 false true false false) := by
  refine returnsInHanded_of_change_sized (C := Try.checked) knob1 started (by kernel_rfl) Try.func3
    (ChangeSpec.witness6 (enc := enc) (C := Try.checked) false ⟨#[], #[.slice none 0 0], []⟩ 8 (by kernel_rfl) (by kernel_rfl) (by kernel_rfl) (by kernel_rfl)) ?_
  intro W base args ds gs before hval0 hW hcnd hsz0 _
  have hval : ∀ (j : Nat) t v, Try.f3.params[j]? = some t → args[j]? = some v → Value.okWide Try.prog W .any base t v := hval0
  have hsz : (DataW.weightsEach Try.prog (Try.f3.params.toList ++ Rows.libraryActsSpec.plain.varTypes Try.prog) (ds ++ gs)).all (· ≤ reachBytes) = true := hsz0
  have hW' := hW
  obtain ⟨p, q, hA0, hV, rfl, hfz, hnd⟩ := hW
  have hA : DataW.TrodAll enc Try.prog W 0 (fun _ => true) true Try.f3.params.toList args.toList ds p := hA0
  rw [Try.params3] at hA hval hsz
  obtain ⟨v1, vs1, d1, ds1, p1, q1, hargs1, rfl, rfl, h1, r1⟩ := trodAll_cons hA
  obtain ⟨rfl, rfl, rfl⟩ := trodAll_nil r1
  obtain rfl : args = #[v1] := by cases args; simp_all
  obtain ⟨rfl, rfl⟩ := trodVars_none hV
  obtain ⟨a1, len1, cap1, rfl⟩ := okWide_slice Try.underlying22 (hval 0 22 v1 rfl rfl)
  have k1 := h1
  have lt1 : ∀ x ∈ p1, x.block < W.heap.size := by obtain ⟨m, hm⟩ := k1; exact DataW.trod_lt m _ _ _ hm
  obtain ⟨X, hX⟩ := acts7_open h1 (fun z hz => by
    have h9 := List.all_eq_true.1 hsz z (DataW.weights_mem_each (j := 0) (t := 22) rfl rfl z hz)
    simpa using h9)
  clear hA0 hval0
  have walk : Calls Try.prog 3 #[.slice a1 len1 cap1] W fun e w' => e = .returned (.bool true) ∧ Below W.heap.size W w' := by
    by_cases hn : len1 ≤ 150
    · exact libraryActs_walk W a1 len1 cap1 X hX hn
    · exact libraryActs_many W a1 len1 cap1 (by omega)
  refine walk.mono fun e W' ⟨he, bel⟩ => ?_
  subst he
  exact ⟨_, rfl, _, _, _, [], _, [], hW', trodAll_mk1 (shut_bool Try.underlying4 _), (trodAll_cons_mk (Below.trod laidOut1 (by kernel_rfl) (of_decide_eq_true (by kernel_rfl)) k1 bel lt1) trodAll_mk0), rfl, bel.frame _, fun h => by cases h⟩

/-- The statement. -/
theorem libraryActs_holds : Rows.LibraryActsSaid :=
  OpenClaim.holds_of_wide 3 Try.f3 rfl rfl rfl rfl rfl rfl rfl ⟨rfl, rfl, rfl, rfl, rfl⟩ rfl rfl rfl rfl rfl (by kernel_rfl) Try.func3 (by kernel_rfl)
    (of_decide_eq_true (by kernel_rfl)) (by unfold Func.isWrapper; first | (rw [if_pos (by decide +kernel)]; kernel_rfl) | (rw [if_neg (by decide +kernel)]; exact ⟨rfl, rfl⟩))
    (fun os started H enc _ => libraryActs_lifted os started H enc)
#print axioms libraryActs_holds
end Go.Proofs.Ytcofjhiienifmaa
