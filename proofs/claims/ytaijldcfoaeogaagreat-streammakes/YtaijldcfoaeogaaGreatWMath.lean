/- A stream's reading, record by record; one in which a byte is another one, or that is cut, is refused. Plain mathematics. -/
import Derived.Test.YtaijldcfoaeogaaGreatGRcParseDToRcInv
import Derived.Test.YtaijldcfoaeogaaGreatGVTailToDOne
namespace Go.Proofs.YtaijldcfoaeogaaGreat
open Go.RowKit
set_option maxRecDepth 100000
set_option linter.unusedSimpArgs false

/-- The records of a stream's bytes b, of which l are left, behind those of acc; the error. -/
def whl (b : List Nat) : Nat → List Nat → List Rec → List Rec × Nat
  | 0, _, _ => ([], 2)
  | f + 1, l, acc =>
    if (rdRec 0 l).2 ≠ 0 then ([], (rdRec 0 l).2)
    else if (acc = [] ∧ (rdRec 0 l).1.k ≠ 1) ∨ (acc ≠ [] ∧ (rdRec 0 l).1.k = 1) then ([], 3)
    else if (rdRec 0 l).1.k ≠ 4 then whl b f (rByt 0 l 200).2.2 (acc ++ [(rdRec 0 l).1])
    else if (rdRec 0 l).1.c ≠ acc.length ∨ (rdRec 0 l).1.n ≠ b.length - l.length ∨ (rdRec 0 l).1.s ≠ dSum (b.take (b.length - l.length)) then ([], 4)
    else if (rByt 0 l 200).2.2 ≠ [] then ([], 5)
    else (acc, 0)

/-- A record that is read is what the bytes begin with. -/
theorem rdRec_inv {l : List Nat} (hb : ∀ z ∈ l, z < 256) (h : (rdRec 0 l).2 = 0) : (rdRec 0 l).1.ok = true ∧ l = (rdRec 0 l).1.bytes ++ (rByt 0 l 200).2.2 := by
  have hE : (rByt 0 l 200).2.1 = 0 := by
    by_cases hE : (rByt 0 l 200).2.1 = 0
    · exact hE
    · unfold rdRec at h
      rw [if_pos hE] at h
      exact absurd h hE
  obtain ⟨⟨n, E, r⟩, hn⟩ : ∃ X, rNum 0 l 200 = X := ⟨_, rfl⟩
  have hE1 : E = 0 := by
    by_cases h0 : E = 0
    · exact h0
    · rw [rByt_err hn h0] at hE
      exact absurd hE h0
  subst hE1
  have hnl : ¬ r.length < n := by
    intro hlt
    rw [rByt_cut hn hlt] at hE
    simp at hE
  have hy := rByt_ok hn hnl
  have hi := rNum_inv (l := l) (m := 200) hb (by rw [hn])
  rw [hn] at hi
  simp only at hi
  have hrb : ∀ z ∈ r, z < 256 := fun z hz => hb z (by rw [hi.1]; simp [hz])
  have hx : rdRec 0 l = rdSeal (r.take n) := by unfold rdRec; rw [hy]; simp
  have htl : (r.take n).length = n := by simp; omega
  rw [hx] at h ⊢
  rw [hy]
  simp only
  unfold rdSeal at h ⊢
  by_cases hs : Sealed (r.take n)
  · rw [if_pos hs] at h ⊢
    by_cases hp : (pars ((r.take n).take ((r.take n).length - 4))).isSome = true
    · rw [if_pos hp] at h ⊢
      simp only
      rw [pars_isSome, Bool.and_eq_true] at hp
      have htb : ∀ z ∈ (r.take n).take ((r.take n).length - 4), z < 256 := fun z hz => hrb z (List.mem_of_mem_take (List.mem_of_mem_take hz))
      have hc := cand_inv htb hp.1 hp.2
      refine ⟨hp.2, ?_⟩
      obtain ⟨P, hP⟩ : ∃ P, P = (r.take n).take ((r.take n).length - 4) := ⟨_, rfl⟩
      rw [← hP] at hc htb ⊢
      have hZ : P ++ sumB (cSum P) = r.take n := by
        rw [hP, hs.2, sumB_numB (by have := hs.1; simp at this ⊢; omega) (fun z hz => hrb z (List.mem_of_mem_take (List.mem_of_mem_drop hz)))]
        exact List.take_append_drop _ _
      have hB : (cand P).1.bytes = vEnc n ++ r.take n := by
        unfold Rec.bytes tEnc
        rw [← hc, hZ, htl]
      rw [hB, List.append_assoc, List.take_append_drop]
      exact hi.1
    · rw [if_neg hp] at h; simp at h
  · rw [if_neg hs] at h; simp at h

/-- A record that stands at the beginning is read, whatever follows. -/
theorem rdRec_app {x : Rec} (hx : x.ok = true) (r : List Nat) : rdRec 0 (x.bytes ++ r) = (x, 0) ∧ (rByt 0 (x.bytes ++ r) 200).2.2 = r := by
  have h0 := rdRec_bytes hx
  obtain ⟨l1, l2⟩ := Rec.plain_len hx
  obtain ⟨Z, hZ⟩ : ∃ Z, Z = x.plain ++ sumB (cSum x.plain) := ⟨_, rfl⟩
  have hZl : Z.length = x.plain.length + 4 := by rw [hZ]; simp [sumB]
  have hb : x.bytes = vEnc Z.length ++ Z := by rw [hZ]; rfl
  have e1 : ∀ r, rByt 0 (x.bytes ++ r) 200 = (Z, 0, r) := by
    intro r
    have h1 := rNum_enc (x := Z.length) (most := 200) (Z ++ r) (by omega) (by omega)
    rw [hb, List.append_assoc, rByt_ok h1 (by simp)]
    simp
  have e2 := e1 []
  rw [List.append_nil] at e2
  refine ⟨?_, by rw [e1]⟩
  have h3 : rdRec 0 (x.bytes ++ r) = rdRec 0 x.bytes := by
    unfold rdRec
    rw [e1, e2]
  rw [h3, h0]

/-- A stream that is not refused: records that are no Tail, and a Tail, that is that of what precedes it. -/
theorem whl_ok (b : List Nat) (hb : ∀ z ∈ b, z < 256) : ∀ (f : Nat) (P l : List Nat) (acc : List Rec), b = P ++ l → (whl b f l acc).2 = 0 →
    ∃ (xs : List Rec) (x : Rec), l = xs.flatMap Rec.bytes ++ x.bytes ∧ (∀ y ∈ xs, y.ok = true ∧ y.k ≠ 4) ∧ x.ok = true ∧ x.k = 4 ∧ x.n = (P ++ xs.flatMap Rec.bytes).length ∧ x.s = dSum (P ++ xs.flatMap Rec.bytes) ∧ x.c = ((acc.length + xs.length : Nat) : Int) := by
  intro f
  induction f with
  | zero => intro P l acc _ h; simp [whl] at h
  | succ f ih =>
    intro P l acc hP h
    have hbl : ∀ z ∈ l, z < 256 := fun z hz => hb z (by rw [hP]; simp [hz])
    unfold whl at h
    by_cases h1 : (rdRec 0 l).2 ≠ 0
    · rw [if_pos h1] at h; exact absurd h h1
    · rw [if_neg h1] at h
      have h1' : (rdRec 0 l).2 = 0 := by omega
      obtain ⟨hok, hl⟩ := rdRec_inv hbl h1'
      obtain ⟨x, hx⟩ : ∃ x, x = (rdRec 0 l).1 := ⟨_, rfl⟩
      obtain ⟨r, hr⟩ : ∃ r, r = (rByt 0 l 200).2.2 := ⟨_, rfl⟩
      rw [← hx] at h hok hl
      rw [← hr] at h hl
      split at h
      · simp at h
      · split at h
        · rename_i h3
          obtain ⟨xs, y, e1, e2, e3, e4, e5, e6, e7⟩ := ih (P ++ x.bytes) r _ (by rw [hP, hl, List.append_assoc]) h
          refine ⟨x :: xs, y, by rw [hl, e1]; simp, ?_, e3, e4, ?_, ?_, ?_⟩
          · intro z hz
            rcases List.mem_cons.1 hz with rfl | hz
            · exact ⟨hok, h3⟩
            · exact e2 z hz
          · rw [e5]; simp
          · rw [e6]; simp
          · rw [e7]; simp; omega
        · rename_i h3
          have h3' : x.k = 4 := by omega
          split at h
          · simp at h
          · rename_i h4
            split at h
            · simp at h
            · rename_i h5
              have h5' : r = [] := Classical.not_not.1 h5
              have hlen : b.length - l.length = P.length := by rw [hP]; simp
              have htk : b.take P.length = P := by rw [hP]; simp
              rw [hlen, htk] at h4
              refine ⟨[], x, by rw [hl, h5']; simp, by simp, hok, h3', ?_, ?_, ?_⟩
              · have := h4; simp at this ⊢; omega
              · have := h4; simp at this ⊢; exact this.2.2
              · have := h4; simp at this ⊢; exact this.1

/-- Bytes come to records in one way. -/
theorem flat_one {x t : Rec} (hx : x.ok = true ∧ x.k = 4) (ht : t.ok = true ∧ t.k = 4) (e : List Nat) : ∀ (xs ys : List Rec), (∀ y ∈ xs, y.ok = true ∧ y.k ≠ 4) → (∀ y ∈ ys, y.ok = true ∧ y.k ≠ 4) →
    xs.flatMap Rec.bytes ++ (x.bytes ++ e) = ys.flatMap Rec.bytes ++ t.bytes → e = [] := by
  intro xs
  induction xs with
  | nil =>
    intro ys _ hy h
    cases ys with
    | nil =>
      simp at h
      have h1 := rdRec_app hx.1 e
      have h2 := rdRec_app ht.1 []
      rw [h] at h1
      rw [List.append_nil] at h2
      rw [h2.2] at h1
      exact h1.2.symm
    | cons y ys =>
      exfalso
      simp at h
      have h1 := rdRec_app hx.1 e
      have h2 := rdRec_app (hy y (by simp)).1 (ys.flatMap Rec.bytes ++ t.bytes)
      rw [h, h2.1] at h1
      have := (hy y (by simp)).2
      have h3 := h1.1
      injection h3 with h3 _
      rw [h3] at this
      exact this hx.2
  | cons a xs ih =>
    intro ys ha hy h
    cases ys with
    | nil =>
      exfalso
      simp at h
      have h1 := rdRec_app (ha a (by simp)).1 (xs.flatMap Rec.bytes ++ (x.bytes ++ e))
      have h2 := rdRec_app ht.1 []
      rw [List.append_nil] at h2
      rw [h, h2.1] at h1
      have h3 := h1.1
      injection h3 with h3 _
      have := (ha a (by simp)).2
      rw [← h3] at this
      exact this ht.2
    | cons y ys =>
      simp only [List.flatMap_cons, List.append_assoc] at h
      have h1 := rdRec_app (ha a (by simp)).1 (xs.flatMap Rec.bytes ++ (x.bytes ++ e))
      have h2 := rdRec_app (hy y (by simp)).1 (ys.flatMap Rec.bytes ++ t.bytes)
      rw [h, h2.2] at h1
      exact ih ys (fun z hz => ha z (by simp [hz])) (fun z hz => hy z (by simp [hz])) h1.2.symm

/-- A stream that is cut is refused. -/
theorem whl_cut {xs : List Rec} {t : Rec} (hx : ∀ y ∈ xs, y.ok = true ∧ y.k ≠ 4) (ht : t.ok = true ∧ t.k = 4) (hb : ∀ z ∈ xs.flatMap Rec.bytes ++ t.bytes, z < 256) (k f : Nat) (hk : k < (xs.flatMap Rec.bytes ++ t.bytes).length) :
    (whl ((xs.flatMap Rec.bytes ++ t.bytes).take k) f ((xs.flatMap Rec.bytes ++ t.bytes).take k) []).2 ≠ 0 := by
  intro h
  obtain ⟨ys, x, e1, e2, e3, e4, _, _, _⟩ := whl_ok _ (fun z hz => hb z (List.mem_of_mem_take hz)) f [] _ [] rfl h
  have h1 : ys.flatMap Rec.bytes ++ (x.bytes ++ (xs.flatMap Rec.bytes ++ t.bytes).drop k) = xs.flatMap Rec.bytes ++ t.bytes := by
    rw [← List.append_assoc, ← e1, List.take_append_drop]
  have h2 := flat_one ⟨e3, e4⟩ ht _ ys xs e2 hx h1
  have h3 : ((xs.flatMap Rec.bytes ++ t.bytes).drop k).length = 0 := by rw [h2]; rfl
  rw [List.length_drop] at h3
  omega

/-- What begins with records goes on behind them. -/
theorem flat_pre {x : Rec} (hx : x.ok = true ∧ x.k = 4) (T : List Nat) : ∀ (xs ys : List Rec), (∀ y ∈ xs, y.ok = true ∧ y.k ≠ 4) → (∀ y ∈ ys, y.ok = true ∧ y.k ≠ 4) →
    xs.flatMap Rec.bytes ++ T = ys.flatMap Rec.bytes ++ x.bytes → ∃ zs, ys = xs ++ zs ∧ T = zs.flatMap Rec.bytes ++ x.bytes := by
  intro xs
  induction xs with
  | nil => intro ys _ _ h; exact ⟨ys, rfl, by simpa using h⟩
  | cons a xs ih =>
    intro ys ha hy h
    have h1 := rdRec_app (ha a (by simp)).1 (xs.flatMap Rec.bytes ++ T)
    cases ys with
    | nil =>
      exfalso
      simp at h
      have h2 := rdRec_app hx.1 []
      rw [List.append_nil] at h2
      rw [h, h2.1] at h1
      have h3 := h1.1
      injection h3 with h3 _
      have := (ha a (by simp)).2
      rw [← h3] at this
      exact this hx.2
    | cons y ys =>
      simp only [List.flatMap_cons, List.append_assoc] at h
      have h2 := rdRec_app (hy y (by simp)).1 (ys.flatMap Rec.bytes ++ x.bytes)
      rw [h] at h1
      have h3 := h1.1
      rw [h2.1] at h3
      injection h3 with h3 _
      have h4 := h1.2
      rw [h2.2] at h4
      obtain ⟨zs, e1, e2⟩ := ih ys (fun z hz => ha z (by simp [hz])) (fun z hz => hy z (by simp [hz])) h4.symm
      exact ⟨zs, by rw [e1, h3]; rfl, e2⟩

/-- A Tail's bytes. -/
theorem tail_form {x : Rec} (hx : x.ok = true ∧ x.k = 4) : ∃ c n s : Nat, x = ⟨4, 0, 0, 0, 0, [], c, n, s⟩ ∧ s < 18446744073709551616 ∧ x.plain = 4 :: (vEnc c ++ (vEnc n ++ vEnc s)) ∧ x.plain.length ≤ 31 := by
  rcases Rec.ok_cases hx.1 with ⟨i, b, _, _, rfl⟩ | ⟨f, t, l, _, _, _, _, rfl⟩ | ⟨f, t, _, _, rfl⟩ | ⟨c, n, s, h1, h2, h3, rfl⟩
  · exact absurd hx.2 (by simp)
  · exact absurd hx.2 (by simp)
  · exact absurd hx.2 (by simp)
  · have e1 := vEnc_len10 (n := c) (by omega)
    have e2 := vEnc_len10 (n := n) (by omega)
    have e3 := vEnc_len10 (n := s) (by omega)
    refine ⟨c, n, s, rfl, by omega, by simp [Rec.plain], ?_⟩
    simp [Rec.plain]; omega

theorem vEnc_inj {a b : Nat} (ha : a < 18446744073709551616) (hb : b < 18446744073709551616) (h : vEnc a = vEnc b) : a = b := by
  have h1 := (vRead (n := a) [] ha).2.2
  have h2 := (vRead (n := b) [] hb).2.2
  rw [h, h2] at h1
  exact h1.symm

theorem set_split {l : List Nat} {j v : Nat} (hj : j < l.length) : l = l.take j ++ l.getD j 0 :: l.drop (j + 1) ∧ l.set j v = l.take j ++ v :: l.drop (j + 1) := by
  constructor
  · have e : l.getD j 0 = l[j] := by simp [List.getD, hj]
    rw [e, ← List.drop_eq_getElem_cons hj, List.take_append_drop]
  · rw [List.set_eq_take_append_cons_drop, if_pos hj]

/-- A stream in which a byte is another one is refused. -/
theorem whl_spoilt {xs : List Rec} {t : Rec} (hx : ∀ y ∈ xs, y.ok = true ∧ y.k ≠ 4) (ht : t.ok = true ∧ t.k = 4) (htc : t.c = ((xs.length : Nat) : Int)) (htn : t.n = (xs.flatMap Rec.bytes).length) (hts : t.s = dSum (xs.flatMap Rec.bytes))
    (hb : ∀ z ∈ xs.flatMap Rec.bytes ++ t.bytes, z < 256) (j v f : Nat) (hj : j < (xs.flatMap Rec.bytes ++ t.bytes).length) (hv : v < 256) (hne : v ≠ (xs.flatMap Rec.bytes ++ t.bytes).getD j 0) :
    (whl ((xs.flatMap Rec.bytes ++ t.bytes).set j v) f ((xs.flatMap Rec.bytes ++ t.bytes).set j v) []).2 ≠ 0 := by
  intro h
  have hcb : ∀ z ∈ (xs.flatMap Rec.bytes ++ t.bytes).set j v, z < 256 := by
    intro z hz
    rcases List.mem_or_eq_of_mem_set hz with hz | rfl
    · exact hb z hz
    · exact hv
  obtain ⟨ys, x, e1, e2, e3, e4, e5, e6, e7⟩ := whl_ok _ hcb f [] _ [] rfl h
  simp only [List.nil_append, List.length_nil, Nat.zero_add] at e5 e6 e7
  obtain ⟨c, n, s, hT, hs9, hTp, hTl⟩ := tail_form ht
  obtain ⟨c', n', s', hX, hs9', hXp, hXl⟩ := tail_form ⟨e3, e4⟩
  obtain ⟨S, hS⟩ : ∃ S, S = xs.flatMap Rec.bytes := ⟨_, rfl⟩
  rw [← hS] at hb hj hne e1 htn hts h hcb
  have hbt : t.bytes = vEnc (t.plain ++ sumB (cSum t.plain)).length ++ (t.plain ++ sumB (cSum t.plain)) := rfl
  have hbx : x.bytes = vEnc (x.plain ++ sumB (cSum x.plain)).length ++ (x.plain ++ sumB (cSum x.plain)) := rfl
  by_cases hjS : j < S.length
  · rw [List.set_append_left _ _ hjS] at e1
    have e1' := e1
    rw [hbt, hbx, hTp, hXp] at e1'
    obtain ⟨h1, _, _, _, h5, _⟩ := tail_last (by simp [sumB]) (by simp [sumB]) rfl rfl e1'
    have hss : s = s' := vEnc_inj hs9 hs9' h5
    have h6 : dSum S = dSum (S.set j v) := by
      rw [h1, ← e6, ← hts, hT, hX, hss]
    obtain ⟨g1, g2⟩ := set_split (v := v) hjS
    rw [g2] at h6
    have h7 : dSum (S.take j ++ S.getD j 0 :: S.drop (j + 1)) = dSum (S.take j ++ v :: S.drop (j + 1)) := by rw [← g1]; exact h6
    have hgd : (S ++ t.bytes).getD j 0 = S.getD j 0 := by simp [List.getD, List.getElem?_append_left hjS]
    have hmem : S.getD j 0 ∈ S := by
      have e : S.getD j 0 = S[j] := by simp [List.getD, hjS]
      rw [e]; exact List.getElem_mem hjS
    have h8 := dSum_one (hb _ (List.mem_append.2 (.inl hmem))) hv h7
    rw [hgd] at hne
    exact hne h8.symm
  · rw [List.set_append_right _ _ (by omega), hS] at e1
    obtain ⟨zs, z1, z2⟩ := flat_pre ⟨e3, e4⟩ _ xs ys hx e2 e1
    have hji : j - S.length < t.bytes.length := by rw [List.length_append] at hj; omega
    rw [← hS] at z2
    obtain ⟨i, hi⟩ : ∃ i, i = j - S.length := ⟨_, rfl⟩
    rw [← hi] at z2 hji
    have hgd : (S ++ t.bytes).getD j 0 = t.bytes.getD i 0 := by rw [hi]; simp [List.getD, List.getElem?_append_right (show S.length ≤ j by omega)]
    rw [hgd] at hne
    cases zs with
    | nil =>
      simp at z1 z2
      have hxt : x = t := by
        rw [z1] at e5 e6 e7
        rw [← hS] at e5 e6
        rw [hX] at e5 e6 e7
        rw [hT] at htn hts htc
        simp only at e5 e6 e7 htn hts htc
        rw [hX, hT, e5, e6, htn, hts]
        have : (c' : Int) = (c : Int) := by rw [e7, htc]
        rw [this]
      rw [hxt] at z2
      have h9 : (t.bytes.set i v).getD i 0 = t.bytes.getD i 0 := by rw [z2]
      simp [List.getD, hji] at h9
      have h10 : t.bytes.getD i 0 = t.bytes[i] := by simp [List.getD, hji]
      rw [h10] at hne
      exact hne h9
    | cons z zs =>
      have hz := e2 z (by rw [z1]; simp)
      obtain ⟨p1, p2⟩ := Rec.plain_len hz.1
      obtain ⟨m, hm⟩ : ∃ m, m = (z.plain ++ sumB (cSum z.plain)).length := ⟨_, rfl⟩
      have hml : m = z.plain.length + 4 := by rw [hm]; simp [sumB]
      have hbz : z.bytes = vEnc m ++ (z.plain ++ sumB (cSum z.plain)) := by rw [hm]; rfl
      have hzp : ∃ r, z.plain = z.k :: r := ⟨_, rfl⟩
      obtain ⟨zr, hzr⟩ := hzp
      obtain ⟨q, hq⟩ : ∃ q, q = (t.plain ++ sumB (cSum t.plain)).length := ⟨_, rfl⟩
      have hql : q = t.plain.length + 4 := by rw [hq]; simp [sumB]
      have hbt2 : t.bytes = q :: 4 :: ((vEnc c ++ (vEnc n ++ vEnc s)) ++ sumB (cSum t.plain)) := by
        rw [hbt, ← hq, vEnc_small (by omega), hTp]; simp
      have hxl : 0 < x.bytes.length := by
        rw [hbx, List.length_append]
        have := vEnc_pos (x.plain ++ sumB (cSum x.plain)).length
        omega
      simp only [List.flatMap_cons, List.append_assoc] at z2
      cases i with
      | zero =>
        rw [hbt2] at z2
        simp only [List.set_cons_zero] at z2
        by_cases hm1 : m < 128
        · rw [hbz, vEnc_small hm1, hzr] at z2
          simp at z2
          exact hz.2 z2.2.1.symm
        · rw [hbz, vEnc_large hm1, vEnc_small (n := m / 128) (by omega)] at z2
          simp only [List.cons_append, List.nil_append, List.cons.injEq] at z2
          have h4 := z2.2.1
          have h5 : m ≤ 4 + z.plain.length := by omega
          omega
      | succ i =>
        have hlen : (t.bytes.set (i + 1) v).length = t.bytes.length := List.length_set
        have htl : t.bytes.length = 1 + q := by rw [hbt, ← hq, List.length_append, vEnc_small (by omega), ← hq]; simp
        have z3 := z2
        rw [hbt2] at z3
        simp only [List.set_cons_succ] at z3
        by_cases hm1 : m < 128
        · rw [hbz, vEnc_small hm1] at z3
          simp only [List.cons_append, List.nil_append, List.cons.injEq] at z3
          have hqm : q = m := z3.1
          have h9 : (z.bytes ++ (zs.flatMap Rec.bytes ++ x.bytes)).length = 1 + q := by rw [← z2, hlen, htl]
          rw [hbz, vEnc_small hm1] at h9
          simp only [List.length_append, List.length_cons, List.length_nil] at h9
          simp only [List.length_append] at hm
          omega
        · rw [hbz, vEnc_large hm1] at z3
          simp only [List.cons_append, List.cons.injEq] at z3
          omega

end Go.Proofs.YtaijldcfoaeogaaGreat
