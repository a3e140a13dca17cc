/- The bytes of an image are read as that image: plainly. -/
import Derived.Test.YtaijjogjohbheaaGreatIRead

namespace Go.Proofs.YtaijjogjohbheaaGreat
open Go.RowKit
set_option maxRecDepth 100000

theorem rdSet_putR {m : Nat} (hm : m ≤ 1099511627776) {M : List Rn} (rest : List Nat) (hM : Pos M) (hl : M.length ≤ m) (hb : ∀ r ∈ M, r.t ≤ m) : rdSet 0 ((setNums M).flatMap vEnc ++ rest) m = (0, M, 0, rest) := by
  unfold setNums
  rw [List.flatMap_cons, List.append_assoc, rdSet_ok (rNum_put' M.length _ m (by omega) hl)]
  have := rdRuns_put m hm rest M 0 [] hb (by have h : Canon (-1) M := hM; simpa using h) (by simp)
  simpa using this

theorem flat32 {F : List (List Nat)} (hF : okF F) (pre : List Int) (h : ∀ x ∈ pre, fAt F x ≠ []) : (pre.flatMap (fAt F)).length = 32 * pre.length := by
  induction pre with
  | nil => rfl
  | cons x r ih =>
    rw [List.flatMap_cons, List.length_append, ih fun y hy => h y (by simp [hy]), List.length_cons]
    rcases hF.at_ x with h0 | h0
    · exact absurd h0 (h x (by simp))
    · rw [h0.1]; omega

theorem fill_back {F : List (List Nat)} (hF : okF F) : ∀ (pre : List Int) (G : List (List Nat)), G.length = 256 → (∀ x ∈ pre, fAt F x ≠ []) → pre.Nodup →
    (fillN pre (pre.flatMap (fAt F)) G).length = 256 ∧ ∀ i : Int, fAt (fillN pre (pre.flatMap (fAt F)) G) i = if i ∈ pre then fAt F i else fAt G i
  | [], G, hG, _, _ => ⟨hG, fun i => by simp [fillN]⟩
  | x :: r, G, hG, h, hn => by
    have hx := fAt_in hF.1 (h x (by simp))
    have hB : okB (fAt F x) := by
      rcases hF.at_ x with h0 | h0
      · exact absurd h0 (h x (by simp))
      · exact h0
    have e1 : ((x :: r).flatMap (fAt F)).take 32 = fAt F x := by
      rw [List.flatMap_cons, List.take_append_of_le_length (by rw [hB.1]; omega), List.take_of_length_le (by rw [hB.1]; omega)]
    have e2 : ((x :: r).flatMap (fAt F)).drop 32 = r.flatMap (fAt F) := by
      rw [List.flatMap_cons, List.drop_append_of_le_length (by rw [hB.1]; omega), List.drop_of_length_le (by rw [hB.1]; omega), List.nil_append]
    rw [fillN, e1, e2]
    obtain ⟨k1, k2⟩ := fill_back hF r (G.set x.toNat (fAt F x)) (by rw [List.length_set]; exact hG) (fun y hy => h y (by simp [hy])) (List.nodup_cons.1 hn).2
    refine ⟨k1, fun i => ?_⟩
    rw [k2 i, fAt_set G x.toNat _ (by omega) i, show ((x.toNat : Nat) : Int) = x by omega]
    by_cases h1 : i ∈ r
    · rw [if_pos h1, if_pos (by simp [h1])]
    · rw [if_neg h1]
      by_cases h2 : i = x
      · rw [if_pos h2, if_pos (by simp [h2]), h2]
      · rw [if_neg h2, if_neg (by simp [h1, h2])]

theorem encs2_len (L : List Nat) (h : ∀ y ∈ L, y < 16384) : (L.flatMap vEnc).length ≤ 2 * L.length := by
  induction L with
  | nil => simp
  | cons x r ih =>
    have h1 := vEnc_len 1 x (h x (by simp))
    have h2 := ih fun y hy => h y (by simp [hy])
    rw [List.flatMap_cons, List.length_append, List.length_cons]
    omega

theorem bytesF_len9 {F : List (List Nat)} {M : List Rn} (hF : okF F) (h : SetF F M) : (bytesF F M).length ≤ 9216 := by
  have h1 := h.len hF.1
  have h2 := encs2_len (setNums M) (by
    intro y hy
    simp only [setNums, List.mem_cons] at hy
    rcases hy with rfl | hy
    · omega
    · have := numsGo_le M 0 (by omega) (h.ends hF.1) y hy
      omega)
  have h4 : (setNums M).length = 1 + 2 * M.length := by simp [setNums, numsGo_length]; omega
  have h5 := flat_len hF (numsR M)
  have h6 := numsR_lt h hF.1
  unfold bytesF
  rw [List.length_append]
  omega

theorem rByt_put (B : List Nat) (hB : B.length ≤ 9216) : rByt 0 (tEnc B) 9216 = (B, 0, []) := by
  have h1 := rNum_put' B.length B 9216 (by omega) hB
  unfold rByt tEnc
  rw [h1]
  simp

/-- An image's own bytes are read as it. -/
theorem imgRd_put {F : List (List Nat)} {M : List Rn} (hF : okF F) (h : SetF F M) : imgRd (tEnc (bytesF F M)) = (0, F) := by
  have hn : ∀ x ∈ numsR M, fAt F x ≠ [] := fun x hx => (h.mem x).1 (mem_numsR.1 hx)
  have hd : (numsR M).Nodup := (numsR_sorted (h.pos hF.1)).imp (fun {a b} hab => by omega)
  have hs : rdSet 0 (bytesF F M) 256 = (0, M, 0, (numsR M).flatMap (fAt F)) := rdSet_putR (by omega) _ (h.pos hF.1) (by have := h.len hF.1; omega) (fun r hr => by have := h.ends hF.1 r hr; omega)
  rw [imgRd_ok (rByt_put _ (bytesF_len9 hF h)) hs (flat32 hF _ hn)]
  obtain ⟨k1, k2⟩ := fill_back hF (numsR M) holes List.length_replicate hn hd
  rw [F_ext k1 hF.1 fun i => ?_]
  rw [k2 i, fAt_holes]
  by_cases h1 : i ∈ numsR M
  · rw [if_pos h1]
  · rw [if_neg h1]
    apply Classical.byContradiction
    intro h2
    exact h1 (mem_numsR.2 ((h.mem i).2 fun e => h2 e.symm))

end Go.Proofs.YtaijjogjohbheaaGreat

/- A store's bytes, and what it is: plain lists. -/
namespace Go.Proofs.YtaijjogjohbheaaGreat
open Go.RowKit
set_option maxRecDepth 100000
set_option linter.unusedSimpArgs false

theorem up_ex (lo : Int) (P : Nat → Bool) : ∀ i, ∃ L, Up lo P i L
  | 0 => ⟨[], up_start lo P⟩
  | i + 1 => by
    obtain ⟨L, h⟩ := up_ex lo P i
    by_cases hp : P i = true
    · by_cases ha : i = 0 ∨ P (i - 1) = false
      · exact ⟨_, h.fresh hp ha⟩
      · obtain ⟨L0, r, rfl, ht⟩ := h.last (by omega) (by
          cases hq : P (i - 1) with
          | true => rfl
          | false => exact absurd (.inr hq) ha)
        obtain ⟨f, t⟩ := r
        exact ⟨_, h.grow hp ht⟩
    · exact ⟨_, h.skip (by simpa using hp)⟩

theorem setF_ex {F : List (List Nat)} (hF : F.length = 256) : ∃ M, SetF F M := by
  obtain ⟨M, h⟩ := up_ex 0 (hasF F) 256
  exact ⟨M, SetF.of_up hF h⟩

open Classical in
/-- An image's bytes. -/
noncomputable def iEnc (F : List (List Nat)) : List Nat := if h : ∃ M, SetF F M then tEnc (bytesF F h.choose) else []

theorem iEnc_eq {F : List (List Nat)} {M : List Rn} (h : SetF F M) : iEnc F = tEnc (bytesF F M) := by
  have hx : ∃ M, SetF F M := ⟨M, h⟩
  unfold iEnc
  rw [dif_pos hx, hx.choose_spec.unique h]

theorem tEnc_len9 {F : List (List Nat)} {M : List Rn} (hF : okF F) (h : SetF F M) : (tEnc (bytesF F M)).length ≤ 9300 := by
  have h1 := bytesF_len9 hF h
  have h2 := vEnc_len 1 (bytesF F M).length (by omega)
  unfold tEnc
  rw [List.length_append]
  omega

theorem iEnc_len {F : List (List Nat)} (hF : okF F) : (iEnc F).length ≤ 9300 := by
  obtain ⟨M, h⟩ := setF_ex hF.1
  rw [iEnc_eq h]
  exact tEnc_len9 hF h

theorem iEnc_byte {F : List (List Nat)} (hF : okF F) : ∀ y ∈ iEnc F, y < 256 := by
  obtain ⟨M, h⟩ := setF_ex hF.1
  rw [iEnc_eq h]
  intro y hy
  unfold tEnc bytesF at hy
  simp only [List.mem_append, List.mem_flatMap] at hy
  rcases hy with hy | ⟨x, _, hy⟩ | ⟨x, _, hy⟩
  · exact vEnc_byte _ y hy
  · exact vEnc_byte _ y hy
  · rcases hF.at_ x with h0 | h0
    · rw [h0] at hy; cases hy
    · exact h0.2 y hy

theorem rByt_putR (B r : List Nat) (hB : B.length ≤ 9216) : rByt 0 (tEnc B ++ r) 9216 = (B, 0, r) := by
  have h1 := rNum_put' B.length (B ++ r) 9216 (by omega) hB
  unfold rByt tEnc
  rw [List.append_assoc, h1]
  simp

/-- An image's own bytes are read as it, whatever stands behind them. -/
theorem iEnc_read {F : List (List Nat)} (hF : okF F) (r : List Nat) : imgRd (iEnc F ++ r) = (0, F) ∧ (rByt 0 (iEnc F ++ r) 9216).2.1 = 0 ∧ (rByt 0 (iEnc F ++ r) 9216).2.2 = r := by
  obtain ⟨M, h⟩ := setF_ex hF.1
  have h1 := rByt_putR (bytesF F M) r (bytesF_len9 hF h)
  have h2 : rByt 0 (tEnc (bytesF F M)) 9216 = (bytesF F M, 0, []) := rByt_put _ (bytesF_len9 hF h)
  rw [iEnc_eq h, h1]
  refine ⟨?_, rfl, rfl⟩
  have h3 := imgRd_put hF h
  unfold imgRd at h3 ⊢
  rw [h1]
  rw [h2] at h3
  exact h3

/-- The snapshots of a list, with numbers from i on. -/
def snapsF (i : Nat) : List (Option (List (List Nat))) → List (Nat × List (List Nat))
  | [] => []
  | none :: r => snapsF (i + 1) r
  | some F :: r => (i, F) :: snapsF (i + 1) r

/-- Each snapshot's bytes, one behind the other. -/
noncomputable def xEnc (X : List (Nat × List (List Nat))) : List Nat := X.flatMap fun p => vEnc p.1 ++ iEnc p.2

/-- A store's bytes. -/
noncomputable def sEnc (F : List (List Nat)) (last : Nat) (X : List (Nat × List (List Nat))) : List Nat := iEnc F ++ (vEnc last ++ (vEnc X.length ++ xEnc X))

/-- What a store may be. -/
structure OkS (F : List (List Nat)) (last : Nat) (X : List (Nat × List (List Nat))) : Prop where
  img : okF F
  ims : ∀ p ∈ X, okF p.2 ∧ 1 ≤ p.1 ∧ p.1 ≤ last
  inc : X.Pairwise fun p q => p.1 < q.1
  few : X.length ≤ 32
  last : last ≤ 10000

theorem xEnc_append (X Y : List (Nat × List (List Nat))) : xEnc (X ++ Y) = xEnc X ++ xEnc Y := by simp [xEnc]

theorem xEnc_one (p : Nat × List (List Nat)) : xEnc [p] = vEnc p.1 ++ iEnc p.2 := by simp [xEnc]

theorem xEnc_cons (p : Nat × List (List Nat)) (X : List (Nat × List (List Nat))) : xEnc (p :: X) = vEnc p.1 ++ (iEnc p.2 ++ xEnc X) := by simp [xEnc]

theorem xEnc_len {X : List (Nat × List (List Nat))} {last : Nat} (h : ∀ p ∈ X, okF p.2 ∧ 1 ≤ p.1 ∧ p.1 ≤ last) (hl : last ≤ 10000) : (xEnc X).length ≤ 9400 * X.length := by
  induction X with
  | nil => simp [xEnc]
  | cons p X ih =>
    have h1 := ih fun q hq => h q (by simp [hq])
    have h2 := iEnc_len (h p (by simp)).1
    have h3 := vEnc_len 1 p.1 (by have := (h p (by simp)).2.2; omega)
    rw [xEnc_cons, List.length_append, List.length_append, List.length_cons]
    omega

theorem xEnc_byte {X : List (Nat × List (List Nat))} {last : Nat} (h : ∀ p ∈ X, okF p.2 ∧ 1 ≤ p.1 ∧ p.1 ≤ last) : ∀ y ∈ xEnc X, y < 256 := by
  intro y hy
  simp only [xEnc, List.mem_flatMap, List.mem_append] at hy
  obtain ⟨p, hp, hy | hy⟩ := hy
  · exact vEnc_byte _ y hy
  · exact iEnc_byte (h p hp).1 y hy

theorem OkS.len {F : List (List Nat)} {last : Nat} {X : List (Nat × List (List Nat))} (h : OkS F last X) : (sEnc F last X).length ≤ 400000 := by
  have h1 := iEnc_len h.img
  have h2 := vEnc_len 1 last (by have := h.last; omega)
  have h3 := vEnc_len 1 X.length (by have := h.few; omega)
  have h4 := xEnc_len h.ims h.last
  have h5 := h.few
  unfold sEnc
  simp only [List.length_append]
  omega

theorem OkS.byte {F : List (List Nat)} {last : Nat} {X : List (Nat × List (List Nat))} (h : OkS F last X) : ∀ y ∈ sEnc F last X, y < 256 := by
  intro y hy
  unfold sEnc at hy
  simp only [List.mem_append] at hy
  rcases hy with hy | hy | hy | hy
  · exact iEnc_byte h.img y hy
  · exact vEnc_byte _ y hy
  · exact vEnc_byte _ y hy
  · exact xEnc_byte h.ims y hy

theorem snapsF_append (i : Nat) (A B : List (Option (List (List Nat)))) : snapsF i (A ++ B) = snapsF i A ++ snapsF (i + A.length) B := by
  induction A generalizing i with
  | nil => simp [snapsF]
  | cons x A ih =>
    have e : i + 1 + A.length = i + (A.length + 1) := by omega
    cases x with
    | none => simp only [List.cons_append, snapsF, ih, List.length_cons, e]
    | some F => simp only [List.cons_append, snapsF, ih, List.length_cons, e]

theorem snapsF_ids (i : Nat) (A : List (Option (List (List Nat)))) : ∀ p ∈ snapsF i A, i ≤ p.1 ∧ p.1 < i + A.length := by
  induction A generalizing i with
  | nil => simp [snapsF]
  | cons x A ih =>
    intro p hp
    cases x with
    | none =>
      have := ih (i + 1) p (by simpa [snapsF] using hp)
      simp only [List.length_cons]
      omega
    | some F =>
      simp only [snapsF, List.mem_cons] at hp
      rcases hp with rfl | hp
      · simp
      · have := ih (i + 1) p hp
        simp only [List.length_cons]
        omega

theorem snapsF_inc (i : Nat) (A : List (Option (List (List Nat)))) : (snapsF i A).Pairwise fun p q => p.1 < q.1 := by
  induction A generalizing i with
  | nil => simp [snapsF]
  | cons x A ih =>
    cases x with
    | none => simpa [snapsF] using ih (i + 1)
    | some F =>
      simp only [snapsF, List.pairwise_cons]
      exact ⟨fun q hq => by have := snapsF_ids (i + 1) A q hq; omega, ih (i + 1)⟩

theorem mem_snapsF (i : Nat) (A : List (Option (List (List Nat)))) (j : Nat) (F : List (List Nat)) : (i + j, F) ∈ snapsF i A ↔ A.getD j none = some F := by
  induction A generalizing i j with
  | nil => simp [snapsF]
  | cons x A ih =>
    cases j with
    | zero =>
      cases x with
      | none =>
        simp only [snapsF, List.getD_cons_zero, Nat.add_zero]
        constructor
        · intro h; have := (snapsF_ids _ _ _ h).1; simp only at this; omega
        · intro h; cases h
      | some G =>
        simp only [snapsF, List.getD_cons_zero, Nat.add_zero, List.mem_cons, Prod.mk.injEq, true_and, Option.some.injEq]
        constructor
        · rintro (h | h)
          · exact h.symm
          · have := (snapsF_ids _ _ _ h).1; simp only at this; omega
        · intro h; exact .inl h.symm
    | succ j =>
      have e : i + (j + 1) = i + 1 + j := by omega
      cases x with
      | none => rw [List.getD_cons_succ, e]; exact ih (i + 1) j
      | some G =>
        simp only [snapsF, List.getD_cons_succ, e, List.mem_cons, Prod.mk.injEq, ih]
        constructor
        · rintro (h | h)
          · omega
          · exact h
        · intro h; exact .inr h

theorem snapsF_set_none (i : Nat) (A : List (Option (List (List Nat)))) (j : Nat) (hj : j < A.length) : snapsF i (A.set j none) = (snapsF i A).filter fun p => p.1 != i + j := by
  induction A generalizing i j with
  | nil => simp at hj
  | cons x A ih =>
    have hall : ∀ p ∈ snapsF (i + 1) A, (p.1 != i) = true := fun p hp => by have := (snapsF_ids _ _ p hp).1; simp; omega
    cases j with
    | zero =>
      cases x with
      | none => simp only [List.set_cons_zero, snapsF, Nat.add_zero]; exact (List.filter_eq_self.2 hall).symm
      | some F =>
        simp only [List.set_cons_zero, snapsF, Nat.add_zero, List.filter_cons]
        rw [if_neg (by simp)]
        exact (List.filter_eq_self.2 hall).symm
    | succ j =>
      have e : i + (j + 1) = i + 1 + j := by omega
      have hj' : j < A.length := by simpa using hj
      cases x with
      | none => simp only [List.set_cons_succ, snapsF, e, ih _ _ hj']
      | some F =>
        simp only [List.set_cons_succ, snapsF, e, ih _ _ hj', List.filter_cons]
        rw [if_pos (by simp; omega)]

/-- A snapshot taken out, where it stands. -/
theorem filter_erase {X : List (Nat × List (List Nat))} (h : X.Pairwise fun p q => p.1 < q.1) {i : Nat} (hi : i < X.length) : (X.filter fun p => p.1 != (X.getD i default).1) = X.eraseIdx i := by
  induction X generalizing i with
  | nil => simp at hi
  | cons x X ih =>
    rw [List.pairwise_cons] at h
    cases i with
    | zero =>
      simp only [List.getD_cons_zero, List.filter_cons, List.eraseIdx_cons_zero]
      rw [if_neg (by simp)]
      exact List.filter_eq_self.2 fun p hp => by have := h.1 p hp; simp; omega
    | succ i =>
      have hi' : i < X.length := by simpa using hi
      have hm : X.getD i default ∈ X := by
        have : X.getD i default = X[i] := by simp [List.getD, hi']
        rw [this]; exact List.getElem_mem hi'
      simp only [List.getD_cons_succ, List.filter_cons, List.eraseIdx_cons_succ]
      rw [if_pos (bne_iff_ne.2 (by have := h.1 _ hm; omega)), ih h.2 hi']

end Go.Proofs.YtaijjogjohbheaaGreat
