/- The contract of a disk's PutAll. -/
import Derived.Test.YtpdpnlgiaehegaaDiskMore
namespace Go.Proofs.Ytpdpnlgiaehegaa
open Go.RowKit
set_option linter.unusedSimpArgs false

/-- Bytes put, sector by sector: power behind it, the bytes, the error. -/
def dAll (s : Pw) (L : List Nat) (i : Nat) (b : List Nat) : Pw × List Nat × Nat :=
  if 0 < b.length then
    if (dPut s L i (b.take 64)).2.2 = 0 then dAll (dPut s L i (b.take 64)).1 (dPut s L i (b.take 64)).2.1 (i + 1) (b.drop 64) else dPut s L i (b.take 64)
  else (s, L, 0)
termination_by b.length
decreasing_by simp; omega

theorem dAll_nil (s : Pw) (L : List Nat) (i : Nat) (b : List Nat) (h : b.length = 0) : dAll s L i b = (s, L, 0) := by
  rw [dAll, if_neg (by omega)]

theorem dAll_err (s : Pw) (L : List Nat) (i : Nat) (b : List Nat) (h : 0 < b.length) (he : (dPut s L i (b.take 64)).2.2 ≠ 0) : dAll s L i b = dPut s L i (b.take 64) := by
  rw [dAll, if_pos h, if_neg he]

theorem dAll_go (s : Pw) (L : List Nat) (i : Nat) (b : List Nat) (h : 0 < b.length) (he : (dPut s L i (b.take 64)).2.2 = 0) : dAll s L i b = dAll (dPut s L i (b.take 64)).1 (dPut s L i (b.take 64)).2.1 (i + 1) (b.drop 64) := by
  rw [dAll, if_pos h, if_pos he]

/-- What a write does to power's bounds. -/
def Pw.within (s : Pw) (N : Nat) : Prop := (∀ k t, s.plan = some (k, t) → k < 9223372036854775808) ∧ s.count ≤ N

theorem Pw.within.ok {s : Pw} {N : Nat} (h : s.within N) (hN : N < 4611686018427387904) : s.ok := ⟨h.1, Nat.lt_of_le_of_lt h.2 hN⟩

theorem Pw.within.write {s : Pw} {N : Nat} (h : s.within N) : (s.write 64).1.within (N + 1) := by
  obtain ⟨o, p, c⟩ := s
  obtain ⟨h1, h2⟩ := h
  unfold Pw.write
  rw [if_neg (by omega)]
  split
  · exact ⟨h1, by simp only at h2 ⊢; omega⟩
  · split
    · exact ⟨by simp, by simp only at h2 ⊢; omega⟩
    · exact ⟨by simp, by simp only at h2 ⊢; omega⟩
    · rename_i k t hk
      refine ⟨?_, by simp only at h2 ⊢; omega⟩
      intro k' t' e
      simp only at hk e
      injection e with e
      injection e with e1 e2
      have := h1 (k + 1) t hk
      omega

theorem Pw.within.mono {s : Pw} {N M : Nat} (h : s.within N) (hN : N ≤ M) : s.within M := ⟨h.1, Nat.le_trans h.2 hN⟩

theorem putAll_no (w : World) (gd gp gb k : Nat) (s : Pw) (L : List Nat) (i : Int) (a : Option Addr) (n c : Nat) (h : Dsk w gd gp gb s L k) (hi : i < 0 ∨ (k : Int) < i ∨ 64 * ((k : Int) - i) < n) :
    Calls Try.prog 23 #[.pointer (some ⟨gd, 0, none⟩), .int .i64 i, .slice a n c] w fun e w' => e = .returned (.int .i64 1) ∧ w' = w := by
  by_cases h1 : i < 0 ∨ (k : Int) < i
  · have HR := Lib.hid (room_no w gd gp gb k s L i h h1)
    have hd : decide ((-1 : Int) < (n : Int)) = true := by simp; omega
    clear h h1 hi
    go_enter Try.func23, Try.ntmps23
    go_wp2_with fail
    refine HR.out.mono ?_
    rintro e w1 ⟨rfl, rfl⟩
    go_wp2
    go_ret
    exact ⟨rfl, rfl⟩
  · obtain ⟨j, rfl⟩ : ∃ j : Nat, i = (j : Int) := ⟨i.toNat, by omega⟩
    have hj : j ≤ k := by omega
    have HR := Lib.hid (room_yes w gd gp gb k s L j h hj)
    obtain ⟨R, hR⟩ : ∃ R : Nat, R = 64 * (k - j) := ⟨_, rfl⟩
    rw [← hR] at HR
    have hor : R < n := by omega
    clear h h1 hi hR hj
    go_enter Try.func23, Try.ntmps23
    go_wp2_with fail
    refine HR.out.mono ?_
    rintro e w1 ⟨rfl, rfl⟩
    go_wp2
    go_ret
    exact ⟨rfl, rfl⟩

theorem add_block (ad : Addr) (q : Nat) : (ad.add q).block = ad.block := by unfold Addr.add; split <;> rfl

theorem cutA_block {a : Option Addr} {c q : Nat} {ad : Addr} (h : cutA a c q = some ad) : ∃ ad', a = some ad' ∧ ad'.block = ad.block := by
  unfold cutA at h
  split at h
  · exact ⟨ad, h, rfl⟩
  · cases a with
    | none => simp at h
    | some ad' =>
      simp only [Option.map_some] at h
      injection h with h
      exact ⟨ad', rfl, by rw [← h, add_block]⟩

/-- The bytes at 'a' lie in neither of the blocks. -/
def Off (a : Option Addr) (X : List Nat) : Prop := ∀ ad, a = some ad → ad.block ∉ X

theorem Off.cut {a : Option Addr} {X : List Nat} (h : Off a X) (c q : Nat) : Off (cutA a c q) X := fun _ e => (cutA_block e).elim fun ad' e' => e'.2 ▸ h ad' e'.1

set_option maxRecDepth 100000 in
theorem putAll_yes (w : World) (gd gp gb k : Nat) (s : Pw) (L : List Nat) (i : Nat) (a : Option Addr) (n c N : Nat) (b : List Nat) (h : Dsk w gd gp gb s L k) (hok : s.within N) (hN : N + n < 4611686018427387904) (hi : i ≤ k) (hn : n ≤ 64 * (k - i)) (hr : Rd w a n b) (hnc : n ≤ c) (hoff : 0 < n → Off a [gp, gb]) :
    Calls Try.prog 23 #[.pointer (some ⟨gd, 0, none⟩), .int .i64 (i : Int), .slice a n c] w fun e w' => e = .returned (.int .i64 ((dAll s L i b).2.2 : Int)) ∧ Dsk w' gd gp gb (dAll s L i b).1 (dAll s L i b).2.1 k ∧ Save [gp, gb] w w' ∧ (dAll s L i b).1.within (N + n) := by
  have HR := Lib.hid (room_yes w gd gp gb k s L i h hi)
  obtain ⟨R, hR⟩ : ∃ R : Nat, R = 64 * (k - i) := ⟨_, rfl⟩
  rw [← hR] at HR
  have hdR : decide (R < n) = false := by simp; omega
  have hks := h.ksmall
  obtain ⟨D, hD⟩ : ∃ D, D = dAll s L i b := ⟨_, rfl⟩
  rw [← hD]
  have H0 := Lib.hid (And.intro h (And.intro hok (And.intro hN (And.intro hi (And.intro hn (And.intro hr (And.intro hnc hoff)))))))
  have HD := Lib.hid hD
  clear h hok hN hi hn hr hnc hoff hD hR
  go_enter Try.func23, Try.ntmps23
  go_wp2_with fail
  refine HR.out.mono ?_
  rintro e w1 ⟨rfl, rfl⟩
  go_wp2
  clear hdR
  go_loopg [1, 2] n (fun gm v1 v2 wr => ∃ (m j : Nat) (aa : Option Addr) (cc : Nat) (bb : List Nat) (s' : Pw) (L' : List Nat), gm = m ∧ v1 = .int .i64 (j : Int) ∧ v2 = .slice aa m cc ∧ m ≤ n ∧ Hid (Dsk wr gd gp gb s' L' k ∧ Save [gp, gb] w1 wr ∧ s'.within (N + (n - m)) ∧ j ≤ k ∧ m ≤ 64 * (k - j) ∧ Rd wr aa m bb ∧ m ≤ cc ∧ (0 < m → Off aa [gp, gb]) ∧ D = dAll s' L' j bb))
  case atStart =>
    obtain ⟨h, hok, hN, hi, hn, hr, hnc, hoff⟩ := H0.out
    exact ⟨n, i, a, c, b, s, L, rfl, rfl, rfl, Nat.le_refl _, Lib.hid ⟨h, Save.refl _ _, by simpa using hok, hi, hn, hr, hnc, hoff, HD.out⟩⟩
  case round =>
    obtain ⟨m, j, aa, cc, bb, s', L', hgm, rfl, rfl, hmn, HI⟩ := hrel
    have HGM := Lib.hid hgm
    clear hgm
    rcases Nat.eq_zero_or_pos m with h0 | h0
    · subst h0
      have HE : Hid (D = (s', L', 0)) := by
        rw [HI.out.2.2.2.2.2.2.2.2]
        exact Lib.hid (dAll_nil _ _ _ _ HI.out.2.2.2.2.2.1.1)
      go_wp2
      go_ret
      have hE := HE.out
      rw [hE]
      exact ⟨rfl, HI.out.1, HI.out.2.1, HI.out.2.2.1.mono (by omega)⟩
    · obtain ⟨hd, hsv, hwi, hjk, hm, hrd, hmc, hof, hDD⟩ := HI.out
      have hks := hd.ksmall
      obtain ⟨q, hq⟩ : ∃ q, q = min m 64 := ⟨_, rfl⟩
      have hmin : min (m : Int) 64 = (q : Int) := by omega
      have htake : bb.take q = bb.take 64 := by
        rw [hq]
        rcases Nat.le_total m 64 with h | h
        · rw [Nat.min_eq_left h, List.take_of_length_le (by rw [hrd.1]; exact Nat.le_refl _), List.take_of_length_le (by rw [hrd.1]; exact h)]
        · rw [Nat.min_eq_right h]
      have hdrop : bb.drop q = bb.drop 64 := by
        rw [hq]
        rcases Nat.le_total m 64 with h | h
        · rw [Nat.min_eq_left h, List.drop_eq_nil_of_le (by rw [hrd.1]; exact Nat.le_refl _), List.drop_eq_nil_of_le (by rw [hrd.1]; exact h)]
        · rw [Nat.min_eq_right h]
      have hN := H0.out.2.2.1
      have hput := put_yes wr gd gp gb k s' L' j aa q cc (bb.take q) hd (hwi.ok (by omega)) (by omega) (by omega) (hrd.first (by omega))
      rw [htake] at hput
      have hwi' : (dPut s' L' j (bb.take 64)).1.within (N + (n - m) + 1) := hwi.write
      have hDe : (dPut s' L' j (bb.take 64)).2.2 ≠ 0 → D = dPut s' L' j (bb.take 64) := fun he => hDD.trans (dAll_err _ _ _ _ (by rw [hrd.1]; exact h0) he)
      have hDg : (dPut s' L' j (bb.take 64)).2.2 = 0 → D = dAll (dPut s' L' j (bb.take 64)).1 (dPut s' L' j (bb.take 64)).2.1 (j + 1) (bb.drop 64) := fun he => hDD.trans (dAll_go _ _ _ _ (by rw [hrd.1]; exact h0) he)
      rw [← hdrop] at hDg
      obtain ⟨P, hP⟩ : ∃ P, P = dPut s' L' j (bb.take 64) := ⟨_, rfl⟩
      rw [← hP] at hput hDe hDg hwi'
      clear hP
      obtain ⟨s2, L2, E⟩ := P
      simp only at hput hDe hDg hwi'
      have hsl1 : ∀ W : World, (Instr.slice 32 (.slice aa m cc) none (some (.int .i64 (q : Int))) none).run Try.prog W = .ok (.slice aa q cc) W := fun W => slice_to aa m cc q .i64 (by omega) W
      have hsl2 : ∀ W : World, (Instr.slice 32 (.slice aa m cc) (some (.int .i64 (q : Int))) none none).run Try.prog W = .ok (.slice (cutA aa cc q) (m - q) (cc - q)) W := fun W => slice_from aa m cc q .i64 (by omega) W
      have hw1 : IntKind.i64.wrap ((j : Int) + 1) = ((j + 1 : Nat) : Int) := by rw [IntKind.wrap_i64] <;> omega
      have HPUT := Lib.hid hput
      have HX := Lib.hid (And.intro hwi' (And.intro hDe (And.intro hDg (And.intro hq (And.intro htake hdrop)))))
      clear hput hwi' hDe hDg htake hdrop hq hwi hd hsv hjk hm hrd hmc hof hDD hks hN
      by_cases hE : E = 0
      · subst hE
        obtain ⟨m', hm'⟩ : ∃ m', m' = m - q := ⟨_, rfl⟩
        obtain ⟨c', hc'⟩ : ∃ c', c' = cc - q := ⟨_, rfl⟩
        rw [← hm', ← hc'] at hsl2
        have HM := Lib.hid (And.intro hm' hc')
        clear hm' hc'
        go_wp2_with fail
        refine HPUT.out.mono ?_
        rintro e w2 ⟨rfl, hd2, hsv2⟩
        have H2 := Lib.hid (And.intro hd2 hsv2)
        clear hd2 hsv2
        go_wp2
        go_roundg m'
        case measure => have := HGM.out; have := HM.out.1; have := HX.out.2.2.2.1; omega
        case rel =>
          obtain ⟨hd, hsv, hwi, hjk, hm, hrd, hmc, hof, hDD⟩ := HI.out
          obtain ⟨hwi', hDe, hDg, hq, htake, hdrop⟩ := HX.out
          obtain ⟨hm', hc'⟩ := HM.out
          have hrd2 := (hrd.cut (k := q) (by omega) hmc).save H2.out.2 (fun b o e => ((hof h0).cut cc q) _ e)
          rw [← hm'] at hrd2
          exact ⟨m', j + 1, cutA aa cc q, c', bb.drop q, s2, L2, rfl, by go_num, rfl, by omega, Lib.hid ⟨H2.out.1, hsv.trans H2.out.2, hwi'.mono (by omega), by omega, by omega, hrd2, by omega, fun _ => (hof h0).cut cc q, hDg trivial⟩⟩
      · have hne : ((E : Int) != 0) = true := by simp; exact hE
        have HE := Lib.hid hE
        clear hE
        go_wp2_with fail
        refine HPUT.out.mono ?_
        rintro e w2 ⟨rfl, hd2, hsv2⟩
        have H2 := Lib.hid (And.intro hd2 hsv2)
        clear hd2 hsv2
        go_wp2
        go_ret
        have hD2 := HX.out.2.1 HE.out
        rw [hD2]
        exact ⟨rfl, H2.out.1, HI.out.2.1.trans H2.out.2, HX.out.1.mono (by omega)⟩
end Go.Proofs.Ytpdpnlgiaehegaa
