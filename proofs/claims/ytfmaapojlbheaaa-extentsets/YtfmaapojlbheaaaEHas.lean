/- The contracts of slices.BinarySearchFunc as package extent calls it, of a set's Has and Len, over any world. -/
import Derived.Test.YtfmaapojlbheaaaECount
import Derived.Deep.RegionHeld3
namespace Go.Proofs.Ytfmaapojlbheaaa
open Go.RowKit

theorem hasCmp_any (x y z : Int) (W : World) : Calls Try.prog 26 #[.agg #[.int .i64 x, .int .i64 y], .int .i64 z] W fun e w' => e = .returned (.int .i64 (cmpI x z)) ∧ w' = W.alloc (.cells #[.int .i64 x, .int .i64 y] 37) := by
  have hcon := fun W' => compare_any x z W'
  change ∀ W', Calls Try.prog 27 _ _ (fun e w' => e = .returned (.int .i64 (cmpI x z)) ∧ w' = _) at hcon
  generalize cmpI x z = r at hcon ⊢
  have HC := Lib.hid hcon
  clear hcon
  go_enter Try.func26, Try.ntmps26
  go_wp2_with fail
  refine (HC.out _).mono ?_
  rintro e w' ⟨rfl, rfl⟩
  go_wp2
  go_ret
  exact ⟨rfl, rfl⟩

theorem cmpI_neg {x y : Int} (h : x < y) : cmpI x y = -1 := by simp [cmpI, h]
theorem cmpI_zero (x : Int) : cmpI x x = 0 := by simp [cmpI]
theorem cmpI_pos {x y : Int} (h : y < x) : cmpI x y = 1 := by
  unfold cmpI
  rw [if_neg (by omega), if_pos h]

theorem Canon.get {a : Int} {M : List Rn} (h : Canon a M) : ∀ k, k < M.length → a < (M.getD k default).f ∧ (M.getD k default).f < (M.getD k default).t ∧ ∀ l, k < l → l < M.length → (M.getD k default).t < (M.getD l default).f := by
  induction M generalizing a with
  | nil => intro k hk; simp at hk
  | cons r M ih =>
    obtain ⟨h1, h2, h3⟩ := h
    intro k hk
    cases k with
    | zero =>
      refine ⟨h1, h2, fun l hl hlt => ?_⟩
      cases l with
      | zero => omega
      | succ l => exact (ih h3 l (by simpa using hlt)).1
    | succ k =>
      obtain ⟨g1, g2, g3⟩ := ih h3 k (by simpa using hk)
      refine ⟨by have : r.t < (M.getD k default).f := g1; simp only [List.getD_cons_succ]; omega, g2, fun l hl hlt => ?_⟩
      cases l with
      | zero => omega
      | succ l => exact g3 l (by omega) (by simpa using hlt)

theorem inR_get {M : List Rn} {x : Int} : inR M x ↔ ∃ k, k < M.length ∧ (M.getD k default).f ≤ x ∧ x < (M.getD k default).t := by
  constructor
  · rintro ⟨r, hr, h1, h2⟩
    obtain ⟨k, hk, rfl⟩ := List.getElem_of_mem hr
    have : M.getD k default = M[k] := by simp [List.getD, hk]
    exact ⟨k, hk, by rw [this]; exact h1, by rw [this]; exact h2⟩
  · rintro ⟨k, hk, h1, h2⟩
    exact ⟨_, getD_mem hk, h1, h2⟩

/-- Where a number is looked for: all runs ahead begin below it, none behind does. -/
def Cut (M : List Rn) (x : Int) (i : Nat) : Prop := i ≤ M.length ∧ (∀ k, k < i → (M.getD k default).f < x) ∧ ∀ k, i ≤ k → k < M.length → x ≤ (M.getD k default).f

theorem Cut.found {a : Int} {M : List Rn} (h : Canon a M) {x : Int} {i : Nat} (hi : i < M.length) (he : (M.getD i default).f = x) : inR M x :=
  inR_get.2 ⟨i, hi, by omega, by have := (h.get i hi).2.1; omega⟩

theorem Cut.has {a : Int} {M : List Rn} (h : Canon a M) {x : Int} {i : Nat} (hc : Cut M x i) (hn : i < M.length → (M.getD i default).f ≠ x) : inR M x ↔ 0 < i ∧ x < (M.getD (i - 1) default).t := by
  obtain ⟨c1, c2, c3⟩ := hc
  rw [inR_get]
  constructor
  · rintro ⟨k, hk, h1, h2⟩
    have hki : k < i := by
      rcases Nat.lt_or_ge k i with h3 | h3
      · exact h3
      · have h4 := c3 k h3 hk
        have h5 := c3 i (Nat.le_refl _) (by omega)
        rcases Nat.lt_or_ge i k with h6 | h6
        · have h7 := (h.get i (by omega)).2.2 k h6 hk
          have h8 := (h.get i (by omega)).2.1
          omega
        · have : k = i := by omega
          subst this
          exact absurd (by omega) (hn hk)
    refine ⟨by omega, ?_⟩
    rcases Nat.lt_or_ge k (i - 1) with h3 | h3
    · have h4 := (h.get k hk).2.2 (i - 1) h3 (by omega)
      have h5 := c2 (i - 1) (by omega)
      omega
    · have : k = i - 1 := by omega
      subst this
      exact h2
  · rintro ⟨h1, h2⟩
    exact ⟨i - 1, by omega, by have := c2 (i - 1) (by omega); omega, h2⟩

set_option maxHeartbeats 1000000 in
set_option maxRecDepth 100000 in
theorem bsearch_any (a : Option Addr) (n c : Nat) (M : List Rn) (x lo : Int) (w : World) (h : RdR w a n M) (hn : n ≤ 1000000) (hc : Canon lo M) :
    Calls Try.prog 25 #[.slice a n c, .int .i64 x, .func (.func 26) #[] #[]] w fun e w' => ∃ (i : Nat) (fd : Bool), e = .returned (.tuple #[.int .i64 (i : Int), .bool fd]) ∧ Cut M x i ∧ (fd = true ↔ i < n ∧ (M.getD i default).f = x) ∧ Below w.heap.size w w' := by
  have eg : ∀ args w, (callFunc 26 args).run Try.prog w = .ok (.enter 26 args) w := enters_of Try.func26 (by kernel_rfl) rfl
  have HR := Lib.hid h
  have HC := Lib.hid hc.get
  clear h hc
  go_enter Try.func25, Try.ntmps25
  go_wp2
  go_loopg [9, 10] n (fun k s9 s10 wr => ∃ i j : Nat, s9 = .int .i64 (i : Int) ∧ s10 = .int .i64 (j : Int) ∧ i ≤ j ∧ j ≤ n ∧ j - i ≤ k ∧ Hid (Below w.heap.size w wr) ∧ Hid ((∀ t, t < i → (M.getD t default).f < x) ∧ ∀ t, j ≤ t → t < n → x ≤ (M.getD t default).f))
  case atStart => exact ⟨0, n, rfl, rfl, Nat.zero_le _, Nat.le_refl _, by omega, Lib.hid (Below.refl _ _), Lib.hid ⟨fun t ht => by omega, fun t h1 h2 => by omega⟩⟩
  case round =>
    obtain ⟨i, j, rfl, rfl, hij, hjn, hg, HB, HI⟩ := hrel
    by_cases hlt : i < j
    · obtain ⟨b, o, r, rfl, hre, hbl, e0, e1⟩ := (HR.out.later HB.out).at_ (Below.refl _ _) (j := (i + j) / 2) (by omega)
      have HRe := Lib.hid hre
      obtain ⟨p, q⟩ := r
      simp only at e0 e1
      clear hre
      have hml : (i + j) / 2 < M.length := by have := HR.out.1; omega
      by_cases hpx : p < x
      · go_wp2_with fail
        refine (hasCmp_any p q x _).mono ?_
        rintro e w2 ⟨rfl, hw2⟩
        rw [cmpI_neg hpx]
        have HB2 : Hid (Below w.heap.size w w2) := Lib.hid (by rw [hw2]; exact HB.out.alloc HB.out.size _)
        clear hw2
        go_wp2
        go_roundg (j - ((i + j) / 2 + 1))
        case measure => omega
        case rel =>
          refine ⟨(i + j) / 2 + 1, j, by rw [show ((i : Int) + (j : Int)) / 2 + 1 = (((i + j) / 2 + 1 : Nat) : Int) by omega], rfl, by omega, hjn, Nat.le_refl _, HB2, Lib.hid ⟨fun t ht => ?_, HI.out.2⟩⟩
          have h1 : (M.getD ((i + j) / 2) default).f = p := by rw [← HRe.out]
          rcases Nat.lt_or_ge t ((i + j) / 2) with h2 | h2
          · have h3 := (HC.out t (by omega)).2.2 _ h2 hml
            have h4 := (HC.out t (by omega)).2.1
            omega
          · have : t = (i + j) / 2 := by omega
            subst this
            omega
      · have hge : ∃ z, cmpI p x = z ∧ 0 ≤ z := by
          rcases Int.lt_or_eq_of_le (show x ≤ p by omega) with h | h
          · exact ⟨1, cmpI_pos h, by omega⟩
          · subst h; exact ⟨0, cmpI_zero _, by omega⟩
        obtain ⟨z, hz, hz0⟩ := hge
        have HZ := Lib.hid hz
        clear hz
        go_wp2_with fail
        refine (hasCmp_any p q x _).mono ?_
        rintro e w2 ⟨rfl, hw2⟩
        rw [HZ.out]
        have HB2 : Hid (Below w.heap.size w w2) := Lib.hid (by rw [hw2]; exact HB.out.alloc HB.out.size _)
        clear hw2
        go_wp2
        go_roundg ((i + j) / 2 - i)
        case measure => omega
        case rel =>
          refine ⟨i, (i + j) / 2, rfl, by rw [show ((i : Int) + (j : Int)) / 2 = (((i + j) / 2 : Nat) : Int) by omega], by omega, by omega, Nat.le_refl _, HB2, Lib.hid ⟨HI.out.1, fun t ht htn => ?_⟩⟩
          have h1 : (M.getD ((i + j) / 2) default).f = p := by rw [← HRe.out]
          rcases Nat.lt_or_ge ((i + j) / 2) t with h2 | h2
          · have h3 := (HC.out _ hml).2.2 t h2 (by have := HR.out.1; omega)
            have h4 := (HC.out _ hml).2.1
            omega
          · have : t = (i + j) / 2 := by omega
            subst this
            omega
    · obtain rfl : j = i := by omega
      have hcut : Cut M x j := ⟨by have := HR.out.1; omega, HI.out.1, fun t h1 h2 => HI.out.2 t h1 (by have := HR.out.1; omega)⟩
      have HCut := Lib.hid hcut
      clear hcut
      by_cases hjl : j < n
      · obtain ⟨b, o, r, rfl, hre, hbl, e0, e1⟩ := (HR.out.later HB.out).at_ (Below.refl _ _) hjl
        have HRe := Lib.hid hre
        obtain ⟨p, q⟩ := r
        simp only at e0 e1
        clear hre
        by_cases hpx : p = x
        · subst hpx
          go_wp2_with fail
          refine (hasCmp_any p q p _).mono ?_
          rintro e w2 ⟨rfl, hw2⟩
          rw [cmpI_zero]
          have HB2 : Hid (Below w.heap.size w w2) := Lib.hid (by rw [hw2]; exact HB.out.alloc HB.out.size _)
          clear hw2
          go_wp2
          go_ret2
          exact ⟨j, true, rfl, HCut.out, ⟨fun _ => ⟨hjl, by rw [← HRe.out]⟩, fun _ => rfl⟩, HB2.out⟩
        · have hge : ∃ z, cmpI p x = z ∧ (z == 0) = false := by
            rcases Int.lt_or_gt_of_ne hpx with h | h
            · exact ⟨-1, cmpI_neg h, rfl⟩
            · exact ⟨1, cmpI_pos h, rfl⟩
          obtain ⟨z, hz, hz0⟩ := hge
          have HZ := Lib.hid hz
          clear hz
          go_wp2_with fail
          refine (hasCmp_any p q x _).mono ?_
          rintro e w2 ⟨rfl, hw2⟩
          rw [HZ.out]
          have HB2 : Hid (Below w.heap.size w w2) := Lib.hid (by rw [hw2]; exact HB.out.alloc HB.out.size _)
          clear hw2
          go_wp2
          go_ret2
          exact ⟨j, false, rfl, HCut.out, ⟨fun h => (by cases h), fun h => absurd (by have := h.2; rw [← HRe.out] at this; exact this) hpx⟩, HB2.out⟩
      · go_wp2
        go_ret2
        exact ⟨j, false, rfl, HCut.out, ⟨fun h => (by cases h), fun h => absurd h.1 hjl⟩, HB.out⟩

set_option maxHeartbeats 1000000 in
set_option maxRecDepth 100000 in
theorem has_any (a : Option Addr) (n c : Nat) (M : List Rn) (x : Int) (P : Bool) (w : World) (h : RdR w a n M) (hn : n ≤ 1000000) (hs : IsSet M) (hP : P = true ↔ inR M x) :
    Calls Try.prog 10 #[.slice a n c, .int .i64 x] w fun e w' => e = .returned (.bool P) ∧ Below w.heap.size w w' := by
  obtain ⟨lo, hlo⟩ := hs
  have HBs := Lib.hid (bsearch_any a n c M x lo w h hn hlo)
  have HR := Lib.hid h
  have HC := Lib.hid hlo
  have HP := Lib.hid hP
  clear h hlo hP
  go_enter Try.func10, Try.ntmps10
  go_wp2_with fail
  refine HBs.out.mono ?_
  rintro e w1 ⟨i, fd, rfl, hcut, hfd, hb⟩
  have HCut := Lib.hid hcut
  have HB := Lib.hid hb
  have hil : i ≤ n := by have := hcut.1; have := HR.out.1; omega
  cases fd with
  | true =>
    have hp : P = true := HP.out.2 (Cut.found HC.out (by have := hfd.1 rfl; have := HR.out.1; omega) (hfd.1 rfl).2)
    subst hp
    clear hcut hfd hb HBs
    go_wp2
    go_ret
    exact ⟨rfl, HB.out⟩
  | false =>
    have hno : i < M.length → (M.getD i default).f ≠ x := fun h1 h2 => by
      have := hfd.2 ⟨by have := HR.out.1; omega, h2⟩
      cases this
    have hiff := hcut.has HC.out hno
    rcases Nat.eq_zero_or_pos i with h0 | h0
    · have hp : P = false := by
        cases hPe : P with
        | false => rfl
        | true => have := hiff.1 (HP.out.1 hPe); omega
      subst hp
      subst h0
      clear hcut hfd hb HBs hno hiff
      go_wp2
      go_ret
      exact ⟨rfl, HB.out⟩
    · obtain ⟨i', rfl⟩ : ∃ i', i = i' + 1 := ⟨i - 1, by omega⟩
      obtain ⟨b, o, r, rfl, hre, hbl, e0, e1⟩ := HR.out.at_ hb (j := i') (by omega)
      rw [Nat.add_sub_cancel, ← hre] at hiff
      obtain ⟨p, q⟩ := r
      simp only at e0 e1 hiff
      have hp : P = decide (x < q) := by
        cases hPe : P with
        | true => have := hiff.1 (HP.out.1 hPe); simp; omega
        | false =>
          refine (decide_eq_false fun hx => ?_).symm
          have := HP.out.2 (hiff.2 ⟨by omega, hx⟩)
          rw [hPe] at this
          cases this
      have HPe := Lib.hid hp
      clear hcut hfd hb HBs hno hiff hre hp
      by_cases hxq : x < q
      · go_wp2
        go_ret
        exact ⟨by rw [HPe.out]; simp [hxq], HB.out⟩
      · have hxq' : q ≤ x := by omega
        clear hxq
        go_wp2
        go_ret
        exact ⟨by rw [HPe.out]; simp, HB.out⟩

/-- How many numbers some runs have, one run behind the other. -/
def sumLen : List Rn → Int
  | [] => 0
  | r :: L => (if r.f < r.t then r.t - r.f else 0) + sumLen L

theorem sumLen_snoc (L : List Rn) (r : Rn) : sumLen (L ++ [r]) = sumLen L + (if r.f < r.t then r.t - r.f else 0) := by
  induction L with
  | nil => simp [sumLen]
  | cons q L ih => simp only [List.cons_append, sumLen, ih]; omega

theorem sumLen_le (L : List Rn) (h : ∀ r ∈ L, r.ok) : 0 ≤ sumLen L ∧ sumLen L ≤ 2199023255552 * (L.length : Int) := by
  induction L with
  | nil => simp [sumLen]
  | cons q L ih =>
    obtain ⟨h1, h2⟩ := ih fun r hr => h r (by simp [hr])
    obtain ⟨k1, k2, k3, k4⟩ := h q (by simp)
    simp only [sumLen, List.length_cons]
    split <;> omega

set_option maxHeartbeats 1000000 in
set_option maxRecDepth 100000 in
theorem setLen_any (a : Option Addr) (n c : Nat) (M : List Rn) (w : World) (h : RdR w a n M) (hn : n ≤ 1000000) (hok : ∀ r ∈ M, r.ok) :
    Calls Try.prog 13 #[.slice a n c] w fun e w' => e = .returned (.int .i64 (sumLen M)) ∧ Below w.heap.size w w' := by
  have HR := Lib.hid h
  have HOk := Lib.hid hok
  clear h hok
  go_enter Try.func13, Try.ntmps13
  go_wp2
  go_loopg [3, 8] n (fun k s i wr => ∃ (j : Nat) (t : Int), k = n - j ∧ j ≤ n ∧ i = .int .i64 (j : Int) ∧ s = .int .i64 t ∧ Hid (t = sumLen (M.take j)) ∧ Hid (Below w.heap.size w wr))
  case atStart => exact ⟨0, 0, rfl, Nat.zero_le _, rfl, rfl, Lib.hid (by simp [sumLen]), Lib.hid (Below.refl _ _)⟩
  case round =>
    obtain ⟨j, t, hk, hj, rfl, rfl, HT, HB⟩ := hrel
    have HK := Lib.hid hk
    clear hk
    by_cases hlt : j < n
    · obtain ⟨b, o, r, rfl, hre, hbl, e0, e1⟩ := (HR.out.later HB.out).at_ (Below.refl _ _) hlt
      have hjl : j < M.length := by have := HR.out.1; omega
      have hrk : r.ok := by rw [hre]; exact HOk.out _ (getD_mem hjl)
      have hst := takeR_succ hjl hre
      have hsum := sumLen_snoc (M.take j) r
      rw [← hst] at hsum
      have hle := sumLen_le (M.take j) fun q hq => HOk.out q (List.mem_of_mem_take hq)
      have hll : ((M.take j).length : Int) ≤ 1000000 := by rw [List.length_take]; omega
      have HRK := Lib.hid hrk
      obtain ⟨x, y⟩ := r
      simp only at e0 e1 hsum
      by_cases hxy : x < y
      · rw [if_pos hxy, ← HT.out] at hsum
        obtain ⟨q, hq⟩ : ∃ q, q = y - x := ⟨_, rfl⟩
        rw [← hq] at hsum
        obtain ⟨t2, ht2⟩ : ∃ t2, t2 = t + q := ⟨_, rfl⟩
        have hwr : wrap64 (t + q) = t2 := by
          have h1 := HT.out
          obtain ⟨k1, k2, k3, k4⟩ := hrk
          simp only at k1 k2 k3 k4
          rw [ht2]
          unfold wrap64
          omega
        rw [← ht2] at hsum
        have HS := Lib.hid hsum
        have HQ := Lib.hid hq
        have HW := Lib.hid hwr
        clear hrk hst hle hll hq ht2 hre hjl hsum hwr
        go_wp2_with fail
        refine (runLen_yes x y q _ hxy HRK.out HQ.out).mono ?_
        rintro e w2 ⟨rfl, hw2⟩
        have HB2 : Hid (Below w.heap.size w w2) := Lib.hid (by rw [hw2]; exact (HB.out.alloc HB.out.size _).alloc (by have := HB.out.size; simp; omega) _)
        clear hw2
        have hwr := HW.out
        go_wp2
        go_roundg (n - (j + 1))
        case measure => have := HK.out; omega
        case rel => exact ⟨j + 1, t2, rfl, by omega, by go_num, by first | rfl | rw [HW.out], Lib.hid HS.out.symm, HB2⟩
      · have hyx : y ≤ x := by omega
        rw [if_neg hxy, ← HT.out, Int.add_zero] at hsum
        have HS := Lib.hid hsum
        have hwr : wrap64 (t + 0) = t := by
          have h1 := HT.out
          rw [Int.add_zero]
          unfold wrap64
          omega
        have HW := Lib.hid hwr
        have hwr2 : wrap64 t = t := by rw [Int.add_zero] at hwr; exact hwr
        have HW2 := Lib.hid hwr2
        clear hrk hst hle hll hre hjl hsum hwr hwr2 hxy
        go_wp2_with fail
        refine (runLen_no x y _ hyx).mono ?_
        rintro e w2 ⟨rfl, hw2⟩
        have HB2 : Hid (Below w.heap.size w w2) := Lib.hid (by rw [hw2]; exact (HB.out.alloc HB.out.size _).alloc (by have := HB.out.size; simp; omega) _)
        clear hw2
        go_wp2
        go_roundg (n - (j + 1))
        case measure => have := HK.out; omega
        case rel => exact ⟨j + 1, t, rfl, by omega, by go_num, by first | rfl | rw [HW.out] | rw [HW2.out], Lib.hid HS.out.symm, HB2⟩
    · obtain rfl : j = n := by omega
      go_wp2
      go_ret
      refine ⟨?_, HB.out⟩
      have h1 := HT.out
      rw [List.take_of_length_le (by have := HR.out.1; omega)] at h1
      rw [h1]
      rfl

end Go.Proofs.Ytfmaapojlbheaaa
