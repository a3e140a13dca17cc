/- The contract of root's Open. -/
import Derived.Test.YtpdpnlgiaehegaaRIntact
namespace Go.Proofs.Ytpdpnlgiaehegaa
open Go.RowKit
set_option linter.unusedSimpArgs false

/-- The greater generation of two. -/
def rStep (X : Nat × List Nat) (R : Option (Nat × List Nat)) : Nat × List Nat := if R.isSome = true ∧ X.1 < rGen R then (rGen R, rB R) else X

/-- What the first j root sectors tell. -/
def rFold (L : List Nat) (k : Nat) : Nat → Nat × List Nat
  | 0 => (0, [])
  | j + 1 => rStep (rFold L k j) (rInt L k j (dCut L j 64))

theorem rFold_none (L : List Nat) (k j : Nat) (h : (rFold L k j).1 = 0) : (rFold L k j).2 = [] := by
  induction j with
  | zero => rfl
  | succ j ih =>
    rw [rFold, rStep] at h ⊢
    split at h
    · next hc => simp only at h; omega
    · next hc => rw [if_neg hc]; exact ih h

theorem Own.aside {w w' : World} {base g : Nat} {v : Value} {l : List Nat} (h : Own w base v l) (hw : w.grownBy w' (some g)) (hg : g < base) : Own w' base v l :=
  ⟨h.1, h.2.kept (row := some g) hw (by
    cases hv : v.ownBlock with
    | none => exact .inl rfl
    | some b => exact .inr (by intro e; injection e with e; have := (h.2.lt b hv).1; omega))⟩

theorem len_nil (w : World) : Calls Try.prog 18 #[.pointer none] w fun e w' => e = .returned (.int .i64 0) ∧ w' = w := by
  go_enter Try.func18, Try.ntmps18
  go_wp2
  go_ret
  exact ⟨rfl, rfl⟩

theorem ropen_nil (w : World) : Calls Try.prog 9 #[.pointer none] w fun e w' => e = .returned (.tuple #[.pointer none, .slice none 0 0, .int .i64 1]) ∧ w' = w := by
  go_enter Try.func9, Try.ntmps9
  go_wp2_with fail
  refine (len_nil w).mono ?_
  rintro e w1 ⟨rfl, rfl⟩
  go_wp2
  go_ret3
  exact ⟨rfl, rfl⟩

theorem ropen_small (w : World) (gd gp gb k : Nat) (s : Pw) (L : List Nat) (h : Dsk w gd gp gb s L k) (hk : k < 4) :
    Calls Try.prog 9 #[.pointer (some ⟨gd, 0, none⟩)] w fun e w' => e = .returned (.tuple #[.pointer none, .slice none 0 0, .int .i64 1]) ∧ w' = w := by
  have HL := Lib.hid (len_any w gd gp gb k s L h)
  have hk' : (k : Int) < 4 := by omega
  clear h
  go_enter Try.func9, Try.ntmps9
  go_wp2_with fail
  refine HL.out.mono ?_
  rintro e w1 ⟨rfl, rfl⟩
  go_wp2
  go_ret3
  exact ⟨rfl, rfl⟩

theorem root_new (w : World) (gd : Nat) : (w.alloc (rootObj gd 0)).heap[w.heap.size]? = some (rootObj gd 0) := heap_alloc_new w _

set_option maxRecDepth 100000 in
theorem ropen_down (w : World) (gd gp gb k : Nat) (s : Pw) (L : List Nat) (h : Dsk w gd gp gb s L k) (hk : 4 ≤ k) (ho : s.on = false) :
    Calls Try.prog 9 #[.pointer (some ⟨gd, 0, none⟩)] w fun e w' => e = .returned (.tuple #[.pointer none, .slice none 0 0, .int .i64 11]) ∧ Below w.heap.size w w' := by
  have HL := Lib.hid (len_any w gd gp gb k s L h)
  have hk' : ¬ (k : Int) < 4 := by omega
  have HD := Lib.hid h
  clear h
  go_enter Try.func9, Try.ntmps9
  go_wp2_with fail
  refine HL.out.mono ?_
  rintro e w1 ⟨rfl, rfl⟩
  go_wp2
  go_loopg [6, 19] 1 (fun _ d i wr => i = .int .i64 0 ∧ d = .slice none 0 0 ∧ wr.heap[w1.heap.size]? = some (rootObj gd 0) ∧ Below w1.heap.size w1 wr)
  case atStart => exact ⟨rfl, rfl, root_new w1 gd, Below.alloc0 _ _⟩
  case round =>
    obtain ⟨rfl, rfl, hr, hb⟩ := hrel
    have hc := (root_cells hr).1
    have HG : Hid (Calls Try.prog 19 #[.pointer (some ⟨gd, 0, none⟩), .int .i64 0] wr fun e w' => e = .returned (.tuple #[.slice none 0 0, .int .i64 11]) ∧ w' = wr) :=
      Lib.hid (get_of wr gd 0 _ ((getAll_down wr gd gp gb k s L 0 64 (HD.out.later hb) (by omega) (by omega) ho).mono (by rintro e w' ⟨rfl, rfl⟩; exact ⟨_, _, rfl, rfl, rfl⟩)))
    have HB := Lib.hid hb
    clear hb hr
    go_wp2_with fail
    refine HG.out.mono ?_
    rintro e w2 ⟨rfl, rfl⟩
    go_wp2
    go_ret3
    exact ⟨rfl, HB.out⟩

set_option maxRecDepth 100000 in
set_option maxHeartbeats 400000 in
theorem ropen_any (w : World) (gd gp gb k : Nat) (s : Pw) (L : List Nat) (h : Dsk w gd gp gb s L k) (hk : 4 ≤ k) (hk1 : k ≤ 1000) (ho : s.on = true) :
    Calls Try.prog 9 #[.pointer (some ⟨gd, 0, none⟩)] w fun e w' => ∃ v, e = .returned (.tuple #[.pointer (some ⟨w.heap.size, 0, none⟩), v, .int .i64 ((if (rFold L k 2).1 = 0 then 6 else 0 : Nat) : Int)]) ∧
      Own w' (w.heap.size + 1) v (rFold L k 2).2 ∧ w'.heap[w.heap.size]? = some (rootObj gd (rFold L k 2).1) ∧ Below w.heap.size w w' := by
  have HL := Lib.hid (len_any w gd gp gb k s L h)
  obtain ⟨E, hE⟩ : ∃ E : Nat, E = if (rFold L k 2).1 = 0 then 6 else 0 := ⟨_, rfl⟩
  rw [← hE]
  have HE := Lib.hid hE
  clear hE
  have hk' : ¬ (k : Int) < 4 := by omega
  have HD := Lib.hid h
  clear h
  go_enter Try.func9, Try.ntmps9
  go_wp2_with fail
  refine HL.out.mono ?_
  rintro e w1 ⟨rfl, rfl⟩
  go_wp2
  go_loopg [6, 19] 2 (fun q d i wr => ∃ j : Nat, q = 2 - j ∧ j ≤ 2 ∧ i = .int .i64 (j : Int) ∧ Own wr (w1.heap.size + 1) d (rFold L k j).2 ∧ wr.heap[w1.heap.size]? = some (rootObj gd (rFold L k j).1) ∧ Below w1.heap.size w1 wr)
  case atStart => exact ⟨0, rfl, by omega, rfl, Own.nil _ _, root_new w1 gd, Below.alloc0 _ _⟩
  case round =>
    obtain ⟨j, hq, hj, rfl, how, hr, hb⟩ := hrel
    have HQ := Lib.hid hq
    have HF := Lib.hid (rFold_none L k j)
    have HST : Hid (rFold L k (j + 1) = rStep (rFold L k j) (rInt L k j (dCut L j 64))) := Lib.hid rfl
    obtain ⟨X, hX⟩ : ∃ X, X = rFold L k j := ⟨_, rfl⟩
    rw [← hX] at how hr HF HST
    obtain ⟨G, B⟩ := X
    simp only at how hr HF
    have HX := Lib.hid hX
    clear hq hX
    obtain ⟨c0, c1⟩ := root_cells hr
    have HB := Lib.hid hb
    have HR := Lib.hid hr
    have HO := Lib.hid how
    have hlt := lt_of_block hr
    clear hb hr how
    by_cases hlt2 : j < 2
    · obtain ⟨S, hS⟩ : ∃ S, S = dCut L j 64 := ⟨_, rfl⟩
      have hSl : S.length = 64 := by rw [hS]; unfold dCut; have := HD.out.len; simp; omega
      have HG : Hid (Calls Try.prog 19 #[.pointer (some ⟨gd, 0, none⟩), .int .i64 (j : Int)] wr fun e w' => ∃ a c, e = .returned (.tuple #[.slice a 64 c, .int .i64 0]) ∧ Rd w' a 64 S ∧ 64 ≤ c ∧ Below wr.heap.size wr w') := by
        refine Lib.hid (get_of wr gd j _ ((getAll_yes wr gd gp gb k s L j 64 (HD.out.later HB.out) (by omega) (by omega) ho (by omega)).mono ?_))
        rintro e w' ⟨v, rfl, hv, hbv⟩
        rw [← hS] at hv
        obtain ⟨a, c, rfl, hrd, hc⟩ := hv.sl
        rw [hSl] at hrd hc ⊢
        exact ⟨_, _, rfl, a, c, rfl, hrd, hc, hbv⟩
      rw [← hS] at HST
      clear hS
      go_wp2_with fail
      refine HG.out.mono ?_
      rintro e w2 ⟨a, c, rfl, hrd, hc, hb2⟩
      have hr2 : w2.heap[w1.heap.size]? = some (rootObj gd G) := (hb2.block _ hlt).trans HR.out
      have HI := Lib.hid (intact_any w2 w1.heap.size gd gp gb k G j s L hr2 ((HD.out.later HB.out).later hb2) hk hk1 ho hlt2 a c S hrd hc)
      obtain ⟨R, hR⟩ : ∃ R, R = rInt L k j S := ⟨_, rfl⟩
      rw [← hR] at HI HST
      have HR2 := Lib.hid hr2
      have HB2 := Lib.hid hb2
      clear hR hrd hc hb2 hr2
      go_wp2_with fail
      refine HI.out.mono ?_
      rintro e w3 ⟨v3, rfl, ho3, hb3⟩
      have hr3 : w3.heap[w1.heap.size]? = some (rootObj gd G) := (hb3.block _ (Nat.lt_of_lt_of_le hlt HB2.out.size)).trans HR2.out
      obtain ⟨d0, d1⟩ := root_cells hr3
      have f1 := root_soft hr3 1
      have HO3 := Lib.hid ho3
      have HB3 := Lib.hid (HB2.out.trans (hb3.mono HB2.out.size))
      have HR3 := Lib.hid hr3
      clear ho3 hb3 hr3
      cases R with
      | none =>
        simp only [rGen, rB, Option.isSome_none]
        go_wp2
        go_roundg (2 - (j + 1))
        case measure => have := HQ.out; omega
        case rel =>
          refine ⟨j + 1, rfl, by omega, by go_num, ?_, ?_, ?_⟩
          · rw [HST.out]; exact HO.out.kept HB3.out
          · rw [HST.out]; exact HR3.out
          · exact HB.out.trans (HB3.out.mono HB.out.size)
      | some x =>
        obtain ⟨g, b⟩ := x
        simp only [rGen, rB, Option.isSome_some]
        simp only [rStep, rGen, rB, Option.isSome_some, true_and] at HST HO3
        by_cases hgt : G < g
        · have hgt' : (G : Int) < (g : Int) := by omega
          go_wp2
          go_roundg (2 - (j + 1))
          case measure => have := HQ.out; omega
          case rel =>
            rw [root_set HR3.out]
            refine ⟨j + 1, rfl, by omega, by go_num, ?_, ?_, ?_⟩
            · rw [HST.out, if_pos hgt]; exact (HO3.out.mono (by have := HB2.out.size; omega)).aside (put_grown _ _ _) (Nat.lt_succ_self _)
            · rw [HST.out, if_pos hgt]; exact put_same HR3.out
            · exact (HB.out.trans (HB3.out.mono HB.out.size)).trans (put_below _ (Nat.le_refl _))
        · have hgt' : ¬ (G : Int) < (g : Int) := by omega
          go_wp2
          go_roundg (2 - (j + 1))
          case measure => have := HQ.out; omega
          case rel =>
            refine ⟨j + 1, rfl, by omega, by go_num, ?_, ?_, ?_⟩
            · rw [HST.out, if_neg hgt]; exact HO.out.kept HB3.out
            · rw [HST.out, if_neg hgt]; exact HR3.out
            · exact HB.out.trans (HB3.out.mono HB.out.size)
    · have hge : ¬ (j : Int) < 2 := by omega
      have e2 : j = 2 := by omega
      rw [e2] at HX
      clear e2 HST
      by_cases hG : G = 0
      · subst hG
        go_wp2
        go_ret3
        have hE := HE.out
        rw [← HX.out] at hE ⊢
        rw [if_pos rfl] at hE
        subst hE
        refine ⟨_, rfl, ?_, HR.out, HB.out⟩
        rw [HF.out (by simp)]
        exact Own.nil _ _
      · have hG' : ((G : Int) == 0) = false := by simp; omega
        go_wp2
        go_ret3
        have hE := HE.out
        rw [← HX.out] at hE ⊢
        rw [if_neg (show ¬ (G, B).1 = 0 from hG)] at hE
        subst hE
        exact ⟨_, rfl, HO.out, HR.out, HB.out⟩

end Go.Proofs.Ytpdpnlgiaehegaa
