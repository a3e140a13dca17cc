/- The contracts of the document's own read and all. -/
import Derived.Test.YtdfdfopebkgofaaDModelPut
namespace Go.Proofs.Ytdfdfopebkgofaa
open Go.RowKit
set_option linter.unusedSimpArgs false

theorem mread_no (w : World) (gm gr k : Nat) (s : Pw) (L : List Nat) (i z : Int) (h : Mod w gm gr s L k) (hi : z < 0 ∨ i < 0 ∨ (k : Int) < i ∨ 64 * ((k : Int) - i) < z) :
    Calls Try.prog 12 #[.pointer (some ⟨gm, 0, none⟩), .int .i64 i, .int .i64 z] w fun e w' => e = .returned (.tuple #[.slice none 0 0, .int .i64 1]) ∧ w' = w := by
  obtain ⟨t, ht, _⟩ := h.obj
  have c0 := (mcells ht).1
  have hk := h.ksmall
  have hdiv : ((64 * k : Nat) : Int) / 64 = (k : Int) := by omega
  by_cases h1 : i < 0
  · clear hi h ht hdiv
    go_enter Try.func12, Try.ntmps12
    go_wp2
    go_ret2
    exact ⟨rfl, rfl⟩
  · obtain ⟨j, rfl⟩ : ∃ j : Nat, i = (j : Int) := ⟨i.toNat, by omega⟩
    obtain ⟨K, hK⟩ : ∃ K : Nat, K = 64 * k := ⟨_, rfl⟩
    rw [← hK] at c0 hdiv
    by_cases h2 : k < j
    · clear hi h ht hK h1
      go_enter Try.func12, Try.ntmps12
      go_wp2
      go_ret2
      exact ⟨rfl, rfl⟩
    · have hd2 : decide (k < j) = false := by simp; omega
      by_cases h3 : z < 0
      · clear hi h ht hK h1 h2
        go_enter Try.func12, Try.ntmps12
        go_wp2
        go_ret2
        exact ⟨rfl, rfl⟩
      · have hw1 : IntKind.i64.wrap (64 * (j : Int)) = 64 * (j : Int) := by rw [IntKind.wrap_i64] <;> omega
        have hw2 : IntKind.i64.wrap ((K : Int) - 64 * (j : Int)) = (K : Int) - 64 * (j : Int) := by rw [IntKind.wrap_i64] <;> omega
        have h4 : (K : Int) - 64 * (j : Int) < z := by omega
        have hd3 : decide (z < 0) = false := by simp; omega
        have hd4 : decide ((K : Int) - 64 * (j : Int) < z) = true := by simp; omega
        clear hi h ht hK h1 h2 h3 h4
        go_enter Try.func12, Try.ntmps12
        go_wp2
        go_ret2
        exact ⟨rfl, rfl⟩

theorem mread_down (w : World) (gm gr k : Nat) (s : Pw) (L : List Nat) (i n : Nat) (h : Mod w gm gr s L k) (hi : i ≤ k) (hn : n ≤ 64 * (k - i)) (ho : s.on = false) :
    Calls Try.prog 12 #[.pointer (some ⟨gm, 0, none⟩), .int .i64 (i : Int), .int .i64 (n : Int)] w fun e w' => e = .returned (.tuple #[.slice none 0 0, .int .i64 11]) ∧ w' = w := by
  obtain ⟨t, ht, _⟩ := h.obj
  rw [ho] at ht
  obtain ⟨c0, c1, _, _⟩ := mcells ht
  have hk := h.ksmall
  have hdiv : ((64 * k : Nat) : Int) / 64 = (k : Int) := by omega
  obtain ⟨K, hK⟩ : ∃ K : Nat, K = 64 * k := ⟨_, rfl⟩
  obtain ⟨R, hR⟩ : ∃ R : Nat, R = 64 * (k - i) := ⟨_, rfl⟩
  rw [← hK] at c0 hdiv
  have hd2 : decide (k < i) = false := by simp; omega
  obtain ⟨I, hI⟩ : ∃ I : Nat, I = 64 * i := ⟨_, rfl⟩
  have hw1 : IntKind.i64.wrap (64 * (i : Int)) = (I : Int) := by rw [IntKind.wrap_i64] <;> omega
  have hw2 : IntKind.i64.wrap ((K : Int) - (I : Int)) = (R : Int) := by rw [IntKind.wrap_i64] <;> omega
  have hd4 : decide (R < n) = false := by simp; omega
  clear hi h ht hK hR hI hn
  go_enter Try.func12, Try.ntmps12
  go_wp2
  go_ret2
  exact ⟨rfl, rfl⟩

theorem mread_yes (w : World) (gm gr k : Nat) (s : Pw) (L : List Nat) (i n : Nat) (h : Mod w gm gr s L k) (hi : i ≤ k) (hn : n ≤ 64 * (k - i)) (ho : s.on = true) :
    Calls Try.prog 12 #[.pointer (some ⟨gm, 0, none⟩), .int .i64 (i : Int), .int .i64 (n : Int)] w fun e w' => ∃ a c, e = .returned (.tuple #[.slice a n c, .int .i64 0]) ∧ w' = w ∧ Rd w a n (dCut L i n) := by
  obtain ⟨t, ht, _⟩ := h.obj
  rw [ho] at ht
  obtain ⟨c0, c1, _, _⟩ := mcells ht
  have hk := h.ksmall
  have hdiv : ((64 * k : Nat) : Int) / 64 = (k : Int) := by omega
  obtain ⟨K, hK⟩ : ∃ K : Nat, K = 64 * k := ⟨_, rfl⟩
  obtain ⟨R, hR⟩ : ∃ R : Nat, R = 64 * (k - i) := ⟨_, rfl⟩
  rw [← hK] at c0 hdiv
  have hd2 : decide (k < i) = false := by simp; omega
  obtain ⟨I, hI⟩ : ∃ I : Nat, I = 64 * i := ⟨_, rfl⟩
  have hw1 : IntKind.i64.wrap (64 * (i : Int)) = (I : Int) := by rw [IntKind.wrap_i64] <;> omega
  have hw2 : IntKind.i64.wrap ((K : Int) - (I : Int)) = (R : Int) := by rw [IntKind.wrap_i64] <;> omega
  have hw3 : IntKind.i64.wrap ((I : Int) + (n : Int)) = ((I + n : Nat) : Int) := by rw [IntKind.wrap_i64] <;> omega
  have hd4 : decide (R < n) = false := by simp; omega
  have hsl : ∀ W : World, (Instr.slice 32 (.slice (some ⟨gr, 0, none⟩) K K) (some (.int .i64 (I : Int))) (some (.int .i64 ((I + n : Nat) : Int))) none).run Try.prog W = .ok (.slice (cutA (some ⟨gr, 0, none⟩) K I) (I + n - I) (K - I)) W := fun W => slice_two _ _ _ _ _ .i64 .i64 (by omega) (by omega) W
  rw [show I + n - I = n by omega] at hsl
  have hrd := h.rd
  rw [← hK] at hrd
  have hrd2 : Rd w (cutA (some ⟨gr, 0, none⟩) K I) n (dCut L i n) := by
    unfold dCut
    rw [← hI]
    exact (hrd.cut (by omega) (Nat.le_refl _)).first (by omega)
  obtain ⟨A, hA⟩ : ∃ A, A = cutA (some ⟨gr, 0, none⟩) K I := ⟨_, rfl⟩
  obtain ⟨J, hJ⟩ : ∃ J : Nat, J = I + n := ⟨_, rfl⟩
  obtain ⟨D, hD⟩ : ∃ D : Nat, D = K - I := ⟨_, rfl⟩
  rw [← hA, ← hJ, ← hD] at hsl
  rw [← hJ] at hw3
  rw [← hA] at hrd2
  have HRD := Lib.hid hrd2
  clear hi h ht hK hR hI hn hA hJ hD hrd hrd2
  go_enter Try.func12, Try.ntmps12
  go_wp2
  go_ret2
  exact ⟨A, D, rfl, rfl, HRD.out⟩

theorem mall_no (w : World) (gm gr k : Nat) (s : Pw) (L : List Nat) (i : Int) (a : Option Addr) (n c : Nat) (h : Mod w gm gr s L k) (hi : i < 0 ∨ (k : Int) < i ∨ 64 * ((k : Int) - i) < n) :
    Calls Try.prog 14 #[.pointer (some ⟨gm, 0, none⟩), .int .i64 i, .slice a n c] w fun e w' => e = .returned (.int .i64 1) ∧ w' = w := by
  obtain ⟨t, ht, _⟩ := h.obj
  have c0 := (mcells ht).1
  have hk := h.ksmall
  have hdiv : ((64 * k : Nat) : Int) / 64 = (k : Int) := by omega
  by_cases h1 : i < 0
  · clear hi h ht hdiv
    go_enter Try.func14, Try.ntmps14
    go_wp2
    go_ret
    exact ⟨rfl, rfl⟩
  · obtain ⟨j, rfl⟩ : ∃ j : Nat, i = (j : Int) := ⟨i.toNat, by omega⟩
    obtain ⟨K, hK⟩ : ∃ K : Nat, K = 64 * k := ⟨_, rfl⟩
    rw [← hK] at c0 hdiv
    by_cases h2 : k < j
    · clear hi h ht hK h1
      go_enter Try.func14, Try.ntmps14
      go_wp2
      go_ret
      exact ⟨rfl, rfl⟩
    · have hd2 : decide (k < j) = false := by simp; omega
      obtain ⟨R, hR⟩ : ∃ R : Nat, R = 64 * (k - j) := ⟨_, rfl⟩
      obtain ⟨I, hI⟩ : ∃ I : Nat, I = 64 * j := ⟨_, rfl⟩
      have hw1 : IntKind.i64.wrap (64 * (j : Int)) = (I : Int) := by rw [IntKind.wrap_i64] <;> omega
      have hw2 : IntKind.i64.wrap ((K : Int) - (I : Int)) = (R : Int) := by rw [IntKind.wrap_i64] <;> omega
      have hd4 : decide (R < n) = true := by simp; omega
      clear hi h ht hK h1 h2 hR hI
      go_enter Try.func14, Try.ntmps14
      go_wp2
      go_ret
      exact ⟨rfl, rfl⟩

set_option maxRecDepth 100000 in
theorem mall_yes (w : World) (gm gr k : Nat) (s : Pw) (L : List Nat) (i : Nat) (a : Option Addr) (n c N : Nat) (b : List Nat) (h : Mod w gm gr s L k) (hok : s.within N) (hN : N + n < 4611686018427387904) (hi : i ≤ k) (hn : n ≤ 64 * (k - i)) (hr : Rd w a n b) (hnc : n ≤ c) (hoff : 0 < n → Off a [gm, gr]) :
    Calls Try.prog 14 #[.pointer (some ⟨gm, 0, none⟩), .int .i64 (i : Int), .slice a n c] w fun e w' => e = .returned (.int .i64 ((dAll s L i b).2.2 : Int)) ∧ Mod w' gm gr (dAll s L i b).1 (dAll s L i b).2.1 k ∧ Save [gm, gr] w w' := by
  obtain ⟨t, ht, _⟩ := h.obj
  obtain ⟨c0, c1, _, _⟩ := mcells ht
  have hk := h.ksmall
  have hdiv : ((64 * k : Nat) : Int) / 64 = (k : Int) := by omega
  obtain ⟨K, hK⟩ : ∃ K : Nat, K = 64 * k := ⟨_, rfl⟩
  obtain ⟨R, hR⟩ : ∃ R : Nat, R = 64 * (k - i) := ⟨_, rfl⟩
  rw [← hK] at c0 hdiv
  have hd2 : decide (k < i) = false := by simp; omega
  obtain ⟨I, hI⟩ : ∃ I : Nat, I = 64 * i := ⟨_, rfl⟩
  have hw1 : IntKind.i64.wrap (64 * (i : Int)) = (I : Int) := by rw [IntKind.wrap_i64] <;> omega
  have hw2 : IntKind.i64.wrap ((K : Int) - (I : Int)) = (R : Int) := by rw [IntKind.wrap_i64] <;> omega
  have hdR : decide (R < n) = false := by simp; omega
  have hd0 : decide ((i : Int) < 0) = false := by simp
  obtain ⟨D, hD⟩ : ∃ D, D = dAll s L i b := ⟨_, rfl⟩
  rw [← hD]
  have H0 := Lib.hid (And.intro h (And.intro hok (And.intro hN (And.intro hi (And.intro hn (And.intro hr (And.intro hnc hoff)))))))
  have HD := Lib.hid hD
  clear h hok hN hi hn hr hnc hoff hD hR ht hK hI
  go_enter Try.func14, Try.ntmps14
  go_wp2
  clear hdR hd2 hd0 hw1 hw2 hdiv c0 c1
  go_loopg [7] n (fun gn v7 wr => ∃ (q Q : Nat) (s' : Pw) (L' : List Nat), gn = n - Q ∧ v7 = .int .i64 (Q : Int) ∧ Hid (Q ≤ n + 63 ∧ Mod wr gm gr s' L' k ∧ Save [gm, gr] w wr ∧ s'.within (N + Q) ∧ D = dAll s' L' (i + q) (b.drop Q)) ∧ Hid (Q = 64 * q))
  case atStart =>
    obtain ⟨h, hok, hN, hi, hn, hr, hnc, hoff⟩ := H0.out
    exact ⟨0, 0, s, L, by simp, by simp, Lib.hid ⟨by omega, h, Save.refl _ _, by simpa using hok, by simpa using HD.out⟩, Lib.hid rfl⟩
  case round =>
    obtain ⟨q, Q, s', L', hgn, rfl, HI, HQ⟩ := hrel
    have HGN := Lib.hid hgn
    have hQ := HQ.out
    clear hgn
    by_cases hlt : Q < n
    · obtain ⟨h, hok, hN, hi, hn, hr, hnc, hoff⟩ := H0.out
      obtain ⟨_, hd, hsv, hwi, hDD⟩ := HI.out
      obtain ⟨m, hm⟩ : ∃ m, m = n - Q := ⟨_, rfl⟩
      obtain ⟨u, hu⟩ : ∃ u, u = min m 64 := ⟨_, rfl⟩
      have hrd : Rd wr (cutA a c Q) m (b.drop Q) := by
        rw [hm]
        exact (hr.cut (by omega) hnc).save hsv (fun b' o' e => ((hoff (by omega)).cut c Q) _ e)
      have hmin : min ((Q : Int) + 64) (n : Int) = ((Q + u : Nat) : Int) := by omega
      have hqd : (Q : Int) / 64 = (q : Int) := by omega
      have hwa : IntKind.i64.wrap ((i : Int) + (q : Int)) = ((i + q : Nat) : Int) := by rw [IntKind.wrap_i64] <;> omega
      have hwb : IntKind.i64.wrap ((Q : Int) + 64) = (Q : Int) + 64 := by rw [IntKind.wrap_i64] <;> omega
      have htake : (b.drop Q).take u = (b.drop Q).take 64 := by
        rw [hu]
        rcases Nat.le_total m 64 with h | h
        · rw [Nat.min_eq_left h, List.take_of_length_le (by rw [hrd.1]; exact Nat.le_refl _), List.take_of_length_le (by rw [hrd.1]; exact h)]
        · rw [Nat.min_eq_right h]
      have hput := mput_yes wr gm gr k s' L' (i + q) (cutA a c Q) u (c - Q) ((b.drop Q).take u) hd (hwi.ok (by omega)) (by omega) (by omega) (hrd.first (by omega))
      rw [htake] at hput
      have hwi' : (dPut s' L' (i + q) ((b.drop Q).take 64)).1.within (N + Q + 1) := hwi.write
      have hDe : (dPut s' L' (i + q) ((b.drop Q).take 64)).2.2 ≠ 0 → D = dPut s' L' (i + q) ((b.drop Q).take 64) := fun he => hDD.trans (dAll_err _ _ _ _ (by rw [hrd.1]; omega) he)
      have hDg : (dPut s' L' (i + q) ((b.drop Q).take 64)).2.2 = 0 → D = dAll (dPut s' L' (i + q) ((b.drop Q).take 64)).1 (dPut s' L' (i + q) ((b.drop Q).take 64)).2.1 (i + q + 1) ((b.drop Q).drop 64) := fun he => hDD.trans (dAll_go _ _ _ _ (by rw [hrd.1]; omega) he)
      obtain ⟨P, hP⟩ : ∃ P, P = dPut s' L' (i + q) ((b.drop Q).take 64) := ⟨_, rfl⟩
      rw [← hP] at hput hDe hDg hwi'
      clear hP
      obtain ⟨s2, L2, E⟩ := P
      simp only at hput hDe hDg hwi'
      have hsl : ∀ W : World, (Instr.slice 32 (.slice a n c) (some (.int .i64 (Q : Int))) (some (.int .i64 ((Q + u : Nat) : Int))) none).run Try.prog W = .ok (.slice (cutA a c Q) (Q + u - Q) (c - Q)) W := fun W => slice_two _ _ _ _ _ .i64 .i64 (by omega) (by omega) W
      rw [show Q + u - Q = u by omega] at hsl
      obtain ⟨J, hJ⟩ : ∃ J : Nat, J = Q + u := ⟨_, rfl⟩
      obtain ⟨X, hX⟩ : ∃ X : Nat, X = i + q := ⟨_, rfl⟩
      obtain ⟨A, hA⟩ : ∃ A, A = cutA a c Q := ⟨_, rfl⟩
      obtain ⟨C, hC⟩ : ∃ C, C = c - Q := ⟨_, rfl⟩
      rw [← hJ] at hsl hmin
      rw [← hA, ← hC] at hsl hput
      rw [← hX] at hput hwa hDg
      have HPUT := Lib.hid hput
      have HX := Lib.hid (And.intro hwi' (And.intro hDe (And.intro hDg (And.intro hX (And.intro hQ hn)))))
      have hnn : n ≤ 4194304 := by omega
      clear hput hwi' hDe hDg htake hd hsv hwi hDD h hok hN hi hn hr hnc hoff hm hu hrd hJ hX hA hC hQ
      by_cases hE : E = 0
      · subst hE
        go_wp2_with fail
        refine HPUT.out.mono ?_
        rintro e w2 ⟨rfl, hd2, hsv2⟩
        have H2 := Lib.hid (And.intro hd2 hsv2)
        clear hd2 hsv2
        go_wp2
        go_roundg (n - (Q + 64))
        case measure => have := HGN.out; omega
        case rel =>
          obtain ⟨hQn, hd, hsv, hwi, hDD⟩ := HI.out
          obtain ⟨hwi', hDe, hDg, hX, hQ, hn⟩ := HX.out
          refine ⟨q + 1, Q + 64, s2, L2, by omega, by go_num, Lib.hid ⟨by omega, H2.out.1, hsv.trans H2.out.2, hwi'.mono (by omega), ?_⟩, Lib.hid (by omega)⟩
          have e := hDg trivial
          rw [List.drop_drop, hX] at e
          exact e
      · have hne : ((E : Int) != 0) = true := by simp; exact hE
        have HE := Lib.hid hE
        clear hE
        go_wp2_with fail
        refine HPUT.out.mono ?_
        rintro e w2 ⟨rfl, hd2, hsv2⟩
        have H2 := Lib.hid (And.intro hd2 hsv2)
        clear hd2 hsv2
        go_wp2
        go_ret
        have hD2 := HX.out.2.1 HE.out
        rw [hD2]
        exact ⟨rfl, H2.out.1, HI.out.2.2.1.trans H2.out.2⟩
    · have HE : Hid (D = (s', L', 0)) := by
        rw [HI.out.2.2.2.2]
        exact Lib.hid (dAll_nil _ _ _ _ (by rw [List.length_drop, H0.out.2.2.2.2.2.1.1]; omega))
      have hdq : decide (Q < n) = false := by simpa using hlt
      clear hQ hlt
      go_wp2
      go_ret
      have hE := HE.out
      rw [hE]
      exact ⟨rfl, HI.out.2.1, HI.out.2.2.1⟩

end Go.Proofs.Ytdfdfopebkgofaa
