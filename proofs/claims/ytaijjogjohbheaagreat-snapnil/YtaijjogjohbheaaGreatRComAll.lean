/- What a disk has behind Commits, whenever power fell: plain lists. -/
import Derived.Test.YtaijjogjohbheaaGreatROpenAll
namespace Go.Proofs.YtaijjogjohbheaaGreat
open Go.RowKit
set_option maxRecDepth 100000
set_option linter.unusedSimpArgs false

theorem splice_get (L x : List Nat) (o j : Nat) (h : o + x.length ≤ L.length) : (splice L o x)[j]? = if j < o then L[j]? else if j < o + x.length then x[j - o]? else L[j]? := by
  unfold splice
  by_cases h1 : j < o
  · rw [if_pos h1, List.getElem?_append_left (by simp; omega), List.getElem?_take, if_pos h1]
  · rw [if_neg h1]
    by_cases h2 : j < o + x.length
    · rw [if_pos h2, List.getElem?_append_right (by simp; omega), List.getElem?_append_left (by simp; omega)]
      congr 1
      simp
      omega
    · rw [if_neg h2, List.getElem?_append_right (by simp; omega), List.getElem?_append_right (by simp; omega), List.getElem?_drop]
      congr 1
      simp
      omega

theorem dCut_congr {L L' : List Nat} {i n : Nat} (h : ∀ j, j < n → L'[64 * i + j]? = L[64 * i + j]?) : dCut L' i n = dCut L i n := by
  apply List.ext_getElem?
  intro j
  unfold dCut
  rw [List.getElem?_take, List.getElem?_take]
  split
  · rw [List.getElem?_drop, List.getElem?_drop]
    exact h j ‹_›
  · rfl

theorem dCut_len {L : List Nat} {i n : Nat} (h : 64 * i + n ≤ L.length) : (dCut L i n).length = n := by unfold dCut; simp; omega

theorem writeOn (s : Pw) (h : s.on = true) : (s.write 64).2.1.toNat ≤ 64 ∧ ((s.write 64).2.2 = 0 ∧ (s.write 64).2.1.toNat = 64 ∧ (s.write 64).1.on = true ∨ (s.write 64).2.2 = 11) := by
  unfold Pw.write
  rw [if_neg (by omega), if_neg (by simp [h])]
  split
  · exact ⟨by simp, .inl ⟨rfl, by simp, h⟩⟩
  · exact ⟨by simp; omega, .inr rfl⟩
  · exact ⟨by simp, .inl ⟨rfl, by simp, h⟩⟩

def cl (n : Nat) : Nat := 64 * ((n + 63) / 64)

/-- Bytes put, sector by sector, while power may fall. -/
theorem dAll_spec (n : Nat) : ∀ (b : List Nat) (s : Pw) (L : List Nat) (i : Nat), b.length = n → s.on = true → 64 * i + cl n ≤ L.length →
    (dAll s L i b).2.1.length = L.length ∧ (∀ j, j < 64 * i ∨ 64 * i + cl n ≤ j → (dAll s L i b).2.1[j]? = L[j]?) ∧
    ((dAll s L i b).2.2 = 0 ∧ (dAll s L i b).1.on = true ∧ (∀ j, j < n → (dAll s L i b).2.1[64 * i + j]? = b[j]?) ∨ (dAll s L i b).2.2 = 11) := by
  induction n using Nat.strongRecOn with
  | _ n ih =>
    intro b s L i hb ho hL
    by_cases h0 : b.length = 0
    · rw [dAll_nil s L i b h0]
      exact ⟨rfl, fun _ _ => rfl, .inl ⟨rfl, ho, fun j hj => by omega⟩⟩
    · have hc : 64 ≤ cl n := by unfold cl; omega
      have hc2 : cl (n - 64) + 64 = cl n := by unfold cl; omega
      have hbl : (b.take 64).length ≤ 64 := by simp; omega
      obtain ⟨hw, hw'⟩ := writeOn s ho
      have hsl := secOf_length hbl
      have hX : ((secOf (b.take 64)).take (s.write 64).2.1.toNat).length = (s.write 64).2.1.toNat := by rw [List.length_take, hsl]; omega
      have hl1 : (dPut s L i (b.take 64)).2.1.length = L.length := length_splice _ _ _ (by rw [hX]; omega)
      have hg1 : ∀ j, j < 64 * i ∨ 64 * i + 64 ≤ j → (dPut s L i (b.take 64)).2.1[j]? = L[j]? := by
        intro j hj
        unfold dPut
        rw [splice_get _ _ _ _ (by rw [hX]; omega), hX]
        rcases hj with hj | hj
        · rw [if_pos hj]
        · rw [if_neg (by omega), if_neg (by omega)]
      by_cases he : (dPut s L i (b.take 64)).2.2 = 0
      · rw [dAll_go s L i b (by omega) he]
        have hw2 : (s.write 64).2.1.toNat = 64 ∧ (s.write 64).1.on = true := by
          rcases hw' with h | h
          · exact h.2
          · have : (s.write 64).2.2 = 0 := he
            omega
        obtain ⟨i1, i2, i3⟩ := ih (n - 64) (by omega) (b.drop 64) (dPut s L i (b.take 64)).1 (dPut s L i (b.take 64)).2.1 (i + 1) (by simp; omega) hw2.2 (by rw [hl1]; omega)
        refine ⟨i1.trans hl1, fun j hj => (i2 j (by omega)).trans (hg1 j (by omega)), ?_⟩
        rcases i3 with ⟨e1, e2, e3⟩ | e
        · refine .inl ⟨e1, e2, fun j hj => ?_⟩
          by_cases hj6 : j < 64
          · rw [i2 _ (by omega)]
            unfold dPut
            rw [splice_get _ _ _ _ (by rw [hX]; omega), hX, if_neg (by omega), if_pos (by omega), hw2.1, show 64 * i + j - 64 * i = j by omega, List.getElem?_take, if_pos hj6]
            unfold secOf
            rw [List.getElem?_append_left (by simp; omega), List.getElem?_take, if_pos hj6]
          · have := e3 (j - 64) (by omega)
            rw [List.getElem?_drop, show 64 * (i + 1) + (j - 64) = 64 * i + j by omega, show 64 + (j - 64) = j by omega] at this
            exact this
        · exact .inr e
      · rw [dAll_err s L i b (by omega) he]
        refine ⟨hl1, fun j hj => hg1 j (by omega), .inr ?_⟩
        rcases hw' with h | h
        · exact absurd h.1 he
        · exact h

def c8 (x : Nat) : List Nat := [x, 0, 0, 0, 0, 0, 0, 0]

theorem g8_small {G : Nat} (h : G < 256) : g8 8 G = c8 G := by
  have e : G / 256 = 0 := by omega
  simp [g8, c8, e, Nat.mod_eq_of_lt h]

theorem le_c8 (x : Nat) : le (c8 x) = x := by simp [le, c8]

/-- A disk of k sectors on which G is the greatest generation that is intact, with the bytes b (0: there is none). -/
structure RInv (L : List Nat) (k G : Nat) (b : List Nat) : Prop where
  len : L.length = 64 * k
  small : G < 256
  no : G = 0 → b = [] ∧ dCut L 0 64 = List.replicate 64 0
  yes : 0 < G → dCut L (G % 2) 64 = rSec G b ∧ dCut L (2 + G % 2 * sect k) b.length = b ∧ b.length ≤ 64 * sect k
  other : ∃ f l, l ≤ G ∧ (dCut L ((G + 1) % 2) 64).take 8 = c8 f ∧ (dCut L ((G + 1) % 2) 64).drop 56 = c8 l

theorem rNum_putR (x : Nat) (r : List Nat) (most : Nat) (hx : x ≤ most) (h : x < 18446744073709551616) : rNum 0 (vEnc x ++ r) most = (x, 0, r) := by
  obtain ⟨h1, h2, h3⟩ := vRead (n := x) r h
  rw [rNum_ok h1 (by omega), h2, h3]
  simp

theorem rInt_yes {L b : List Nat} {k G : Nat} (hG : 0 < G) (hs : G < 256) (hb : dCut L (2 + G % 2 * sect k) b.length = b) (hl : b.length ≤ 64 * sect k) (hk : k ≤ 65536) : rInt L k (G % 2) (rSec G b) = some (G, b) := by
  have hb4 : b.length < 4294967296 := by have : sect k ≤ k := by unfold sect; omega
                                         omega
  have e1 : le ((rSec G b).take 8) = G := by rw [rSec_first, g8_small hs, le_c8]
  have e2 : le (((rSec G b).drop 56).take 8) = G := by rw [rSec_last _ _ hb4, List.take_of_length_le (by rw [g8_length]; omega), g8_small hs, le_c8]
  obtain ⟨r, hr⟩ := rSec_mid G b hb4
  have e3 : ((rSec G b).take 56).drop 8 = vEnc b.length ++ (vEnc (cSum b) ++ r) := by rw [List.drop_take, hr]
  have e4 := rNum_putR b.length (vEnc (cSum b) ++ r) (64 * sect k) hl (by omega)
  have e5 := rNum_putR (cSum b) r 4294967295 (by have := cSum_lt b; omega) (by have := cSum_lt b; omega)
  unfold rInt
  rw [e1, e2, e3, e4]
  simp only [e5, hb]
  rw [if_neg (by omega)]
  simp

theorem rInt_zero (L : List Nat) (k i : Nat) : rInt L k i (List.replicate 64 0) = none := by
  unfold rInt
  rw [if_pos (.inl (by decide))]

theorem rInt_other {L S : List Nat} {k G f l : Nat} (hl : l ≤ G) (h1 : S.take 8 = c8 f) (h2 : S.drop 56 = c8 l) : rInt L k ((G + 1) % 2) S = none ∨ ∃ g b, rInt L k ((G + 1) % 2) S = some (g, b) ∧ g < G := by
  have e1 : le (S.take 8) = f := by rw [h1, le_c8]
  have e2 : le ((S.drop 56).take 8) = l := by rw [h2, List.take_of_length_le (by simp [c8]), le_c8]
  unfold rInt
  rw [e1, e2]
  split
  · exact .inl rfl
  · next hc =>
    split
    · exact .inl rfl
    · split
      · exact .inl rfl
      · exact .inr ⟨f, _, rfl, by omega⟩

theorem rStep_none (X : Nat × List Nat) : rStep X none = X := by simp [rStep]

theorem rStep_some (X : Nat × List Nat) (g : Nat) (b : List Nat) : rStep X (some (g, b)) = if X.1 < g then (g, b) else X := by simp [rStep, rGen, rB]

theorem rFold_two (L : List Nat) (k : Nat) : rFold L k 2 = rStep (rStep (0, []) (rInt L k 0 (dCut L 0 64))) (rInt L k 1 (dCut L 1 64)) := rfl

theorem RInv.fold {L b : List Nat} {k G : Nat} (h : RInv L k G b) (hk : k ≤ 65536) : rFold L k 2 = (G, b) := by
  obtain ⟨f, l, hl, h1, h2⟩ := h.other
  have hO := rInt_other (L := L) (k := k) hl h1 h2
  by_cases hG : G = 0
  · obtain ⟨hb, h0⟩ := h.no hG
    subst hG
    subst hb
    have hn : rInt L k 1 (dCut L 1 64) = none := by
      rcases hO with h | ⟨g, b, _, h⟩
      · exact h
      · omega
    have hz := rInt_zero L k 0
    rw [← h0] at hz
    rw [rFold_two, hz, hn, rStep_none, rStep_none]
  · obtain ⟨h3, h4, h5⟩ := h.yes (by omega)
    have hY := rInt_yes (by omega) h.small h4 h5 hk
    rw [← h3] at hY
    rcases (by omega : G % 2 = 0 ∨ G % 2 = 1) with e | e
    · have e' : (G + 1) % 2 = 1 := by omega
      rw [e] at hY
      rw [e'] at hO
      rw [rFold_two, hY, rStep_some, if_pos (show 0 < G by omega)]
      rcases hO with h | ⟨g, b', h, hg⟩
      · rw [h, rStep_none]
      · rw [h, rStep_some, if_neg (show ¬ G < g by omega)]
    · have e' : (G + 1) % 2 = 0 := by omega
      rw [e] at hY
      rw [e'] at hO
      rw [rFold_two, hY, rStep_some]
      rcases hO with h | ⟨g, b', h, hg⟩
      · rw [h, rStep_none, if_pos (show 0 < G by omega)]
      · rw [h, rStep_some]
        by_cases hg0 : 0 < g
        · rw [if_pos (show (0, ([] : List Nat)).1 < g from hg0), if_pos (show g < G from hg)]
        · rw [if_neg (show ¬ (0, ([] : List Nat)).1 < g from hg0), if_pos (show 0 < G by omega)]

/-- A sector of which m bytes were put. -/
theorem dCut_put {L x : List Nat} {i m : Nat} (hx : x.length = m) (hm : m ≤ 64) (hL : 64 * i + 64 ≤ L.length) : dCut (splice L (64 * i) x) i 64 = x ++ (dCut L i 64).drop m := by
  apply List.ext_getElem?
  intro j
  unfold dCut
  rw [List.getElem?_take]
  by_cases hj : j < 64
  · rw [if_pos hj, List.getElem?_drop, splice_get _ _ _ _ (by omega), if_neg (by omega), hx]
    by_cases hjm : j < m
    · rw [if_pos (by omega), List.getElem?_append_left (by omega)]
      congr 1
      omega
    · rw [if_neg (by omega), List.getElem?_append_right (by omega), List.getElem?_drop, List.getElem?_take, if_pos (by omega), List.getElem?_drop]
      congr 1
      omega
  · rw [if_neg hj, List.getElem?_eq_none]
    simp
    omega

theorem mix_first (x f m : Nat) (X Y : List Nat) (hm : 0 < m) (hX : 8 ≤ X.length) (h1 : X.take 8 = c8 x) (h2 : Y.take 8 = c8 f) : (X.take m ++ Y.drop m).take 8 = c8 x := by
  have eX : X = c8 x ++ X.drop 8 := by rw [← h1, List.take_append_drop]
  have eY : Y = c8 f ++ Y.drop 8 := by rw [← h2, List.take_append_drop]
  by_cases h8 : 8 ≤ m
  · rw [List.take_append_of_le_length (by simp; omega), List.take_take, Nat.min_eq_left h8, h1]
  · rw [eX, eY]
    rcases (by omega : m = 1 ∨ m = 2 ∨ m = 3 ∨ m = 4 ∨ m = 5 ∨ m = 6 ∨ m = 7) with rfl | rfl | rfl | rfl | rfl | rfl | rfl <;> simp [c8]

theorem mix_whole (x f m : Nat) (X Y : List Nat) (hm : 57 ≤ m) (hm2 : m ≤ 64) (h1 : X.drop 56 = c8 x) (h2 : Y.drop 56 = c8 f) : X.take m ++ Y.drop m = X := by
  have e : X.drop m = Y.drop m := by
    rw [show m = 56 + (m - 56) by omega, ← List.drop_drop, ← List.drop_drop, h1, h2]
    rcases (by omega : m - 56 = 1 ∨ m - 56 = 2 ∨ m - 56 = 3 ∨ m - 56 = 4 ∨ m - 56 = 5 ∨ m - 56 = 6 ∨ m - 56 = 7 ∨ m - 56 = 8) with h | h | h | h | h | h | h | h <;> rw [h] <;> simp [c8]
  rw [← e, List.take_append_drop]

end Go.Proofs.YtaijjogjohbheaaGreat

/- What a Commit makes of a disk, whenever power falls: plain lists. -/
namespace Go.Proofs.YtaijjogjohbheaaGreat
open Go.RowKit
set_option maxRecDepth 100000
set_option linter.unusedSimpArgs false

theorem RInv.area {L L' b : List Nat} {k G : Nat} (h : RInv L k G b) (hk : 4 ≤ k) (hl : L'.length = L.length) (hc : ∀ j, j < 64 * (2 + (G + 1) % 2 * sect k) ∨ 64 * (2 + (G + 1) % 2 * sect k) + 64 * sect k ≤ j → L'[j]? = L[j]?) : RInv L' k G b := by
  have hs : 1 ≤ sect k := by unfold sect; omega
  have hsec : ∀ q, q < 2 → dCut L' q 64 = dCut L q 64 := fun q hq => dCut_congr fun j hj => hc _ (.inl (by
    have : 2 ≤ 2 + (G + 1) % 2 * sect k := Nat.le_add_right _ _
    omega))
  refine ⟨hl.trans h.len, h.small, fun hG => ?_, fun hG => ?_, ?_⟩
  · rw [hsec 0 (by omega)]; exact h.no hG
  · obtain ⟨h1, h2, h3⟩ := h.yes hG
    refine ⟨by rw [hsec _ (by omega)]; exact h1, ?_, h3⟩
    refine (dCut_congr fun j hj => hc _ ?_).trans h2
    rcases (by omega : G % 2 = 0 ∨ G % 2 = 1) with e | e
    · have e' : (G + 1) % 2 = 1 := by omega
      rw [e, e']; left; omega
    · have e' : (G + 1) % 2 = 0 := by omega
      rw [e, e']; right; omega
  · obtain ⟨f, l, h1, h2, h3⟩ := h.other
    rw [hsec _ (by omega)]
    exact ⟨f, l, h1, h2, h3⟩

theorem splice_keep {L x : List Nat} {i q n m : Nat} (hx : x.length = m) (hm : m ≤ 64) (hL : 64 * i + 64 ≤ L.length) (hd : q + 1 ≤ i ∧ n ≤ 64 ∨ i < q) : dCut (splice L (64 * i) x) q n = dCut L q n := by
  refine dCut_congr fun j hj => ?_
  rw [splice_get _ _ _ _ (by omega), hx]
  rcases hd with hd | hd
  · rw [if_pos (by omega)]
  · rw [if_neg (by omega), if_neg (by omega)]

theorem RInv.torn {L b0 b : List Nat} {k G m : Nat} (h : RInv L k G b0) (hk : 4 ≤ k) (hk2 : k ≤ 65536) (hG : G + 1 < 256) (hm : m ≤ 64) (hb : b.length ≤ 64 * sect k) (hA : dCut L (2 + (G + 1) % 2 * sect k) b.length = b) :
    (57 ≤ m → RInv (splice L (64 * ((G + 1) % 2)) ((rSec (G + 1) b).take m)) k (G + 1) b) ∧ (m ≤ 56 → RInv (splice L (64 * ((G + 1) % 2)) ((rSec (G + 1) b).take m)) k G b0) := by
  have hb4 : b.length < 4294967296 := by have : sect k ≤ k := by unfold sect; omega
                                         omega
  have hrl := rSec_len (G + 1) b hb4
  have hf := rSec_first (G + 1) b
  have hla := rSec_last (G + 1) b hb4
  rw [g8_small hG] at hf hla
  obtain ⟨rs, hrs⟩ : ∃ rs, rs = rSec (G + 1) b := ⟨_, rfl⟩
  have hml : (rs.take m).length = m := by rw [List.length_take, hrs, hrl]; omega
  obtain ⟨i, hi⟩ : ∃ i, i = (G + 1) % 2 := ⟨_, rfl⟩
  have hlen := h.len
  have hL : 64 * i + 64 ≤ L.length := by omega
  have hlL : (splice L (64 * i) (rs.take m)).length = 64 * k := (length_splice _ _ _ (by omega)).trans hlen
  have hsec := dCut_put (L := L) (i := i) hml hm hL
  obtain ⟨f, l, h1, h2, h3⟩ := h.other
  rw [← hi] at h2 h3 hA ⊢
  rw [← hrs] at hrl hf hla ⊢
  refine ⟨fun h57 => ?_, fun h56 => ?_⟩
  · rw [mix_whole (G + 1) l m rs (dCut L i 64) h57 hm hla h3] at hsec
    refine ⟨hlL, hG, fun e => by omega, fun _ => ⟨?_, ?_, hb⟩, ?_⟩
    · rw [← hi, hsec, hrs]
    · rw [← hi, splice_keep hml hm hL (.inr (by have : 2 ≤ 2 + i * sect k := Nat.le_add_right _ _; omega))]
      exact hA
    · have hp : (G + 1 + 1) % 2 = G % 2 := by omega
      rw [hp, splice_keep hml hm hL (by omega)]
      by_cases hG0 : G = 0
      · subst hG0
        refine ⟨0, 0, by omega, ?_, ?_⟩ <;> rw [show 0 % 2 = 0 from rfl, (h.no rfl).2] <;> rfl
      · obtain ⟨y1, y2, y3⟩ := h.yes (by omega)
        have hb04 : b0.length < 4294967296 := by have : sect k ≤ k := by unfold sect; omega
                                                 omega
        refine ⟨G, G, by omega, ?_, ?_⟩
        · rw [y1, rSec_first, g8_small h.small]
        · rw [y1, rSec_last _ _ hb04, g8_small h.small]
  · refine ⟨hlL, h.small, fun hG0 => ?_, fun hG0 => ?_, ?_⟩
    · have : i = 1 := by omega
      rw [splice_keep hml hm hL (by omega)]
      exact h.no hG0
    · obtain ⟨y1, y2, y3⟩ := h.yes hG0
      refine ⟨?_, ?_, y3⟩
      · rw [splice_keep hml hm hL (by omega)]; exact y1
      · rw [splice_keep hml hm hL (.inr (by have : 2 ≤ 2 + G % 2 * sect k := Nat.le_add_right _ _; omega))]; exact y2
    · rw [← hi, hsec]
      have hd : (rs.take m ++ (dCut L i 64).drop m).drop 56 = c8 l := by
        rw [List.drop_append, List.drop_eq_nil_of_le (by omega), hml, List.nil_append, List.drop_drop, show m + (56 - m) = 56 by omega, h3]
      by_cases hm0 : m = 0
      · exact ⟨f, l, h1, by subst hm0; simpa using h2, hd⟩
      · exact ⟨G + 1, l, h1, mix_first (G + 1) f m rs (dCut L i 64) (by omega) (by omega) hf h2, hd⟩

/-- What a Commit leaves. -/
theorem RInv.commit {L b0 b : List Nat} {k G : Nat} {s : Pw} (h : RInv L k G b0) (hk : 4 ≤ k) (hk2 : k ≤ 65536) (hG : G + 1 < 256) (ho : s.on = true) (hb : b.length ≤ 64 * sect k) :
    (rCom s L k G b).2.2 = 0 ∧ RInv (rCom s L k G b).2.1 k (G + 1) b ∨ (rCom s L k G b).2.2 = 11 ∧ (RInv (rCom s L k G b).2.1 k G b0 ∨ RInv (rCom s L k G b).2.1 k (G + 1) b) := by
  have hs : 2 + 2 * sect k ≤ k := by unfold sect; omega
  have hcl : cl b.length ≤ 64 * sect k := by unfold cl; omega
  have hA : 64 * (2 + (G + 1) % 2 * sect k) + 64 * sect k ≤ 64 * k := by
    rcases (by omega : (G + 1) % 2 = 0 ∨ (G + 1) % 2 = 1) with e | e <;> rw [e] <;> omega
  obtain ⟨s1, s2, s3⟩ := dAll_spec b.length b s L (2 + (G + 1) % 2 * sect k) rfl ho (by have := h.len; omega)
  have h1 := h.area hk s1 (fun j hj => s2 j (by omega))
  rcases s3 with ⟨e0, eo, eb⟩ | e
  · have hr : rCom s L k G b = dPut (dAll s L (2 + (G + 1) % 2 * sect k) b).1 (dAll s L (2 + (G + 1) % 2 * sect k) b).2.1 ((G + 1) % 2) (rSec (G + 1) b) := by rw [rCom, if_neg (by omega)]
    rw [hr]
    obtain ⟨w1, w2⟩ := writeOn _ eo
    have hb4 : b.length < 4294967296 := by omega
    have hsec : secOf (rSec (G + 1) b) = rSec (G + 1) b := by unfold secOf; rw [rSec_len _ _ hb4]; simp
    have hcut : dCut (dAll s L (2 + (G + 1) % 2 * sect k) b).2.1 (2 + (G + 1) % 2 * sect k) b.length = b := by
      apply List.ext_getElem?
      intro j
      unfold dCut
      rw [List.getElem?_take]
      split
      · rw [List.getElem?_drop]; exact eb j ‹_›
      · rw [List.getElem?_eq_none (by omega)]
    obtain ⟨t1, t2⟩ := h1.torn hk hk2 hG w1 hb hcut
    unfold dPut
    rw [hsec]
    rcases w2 with ⟨x1, x2, _⟩ | x1
    · exact .inl ⟨x1, t1 (by omega)⟩
    · refine .inr ⟨x1, ?_⟩
      by_cases h57 : 57 ≤ ((dAll s L (2 + (G + 1) % 2 * sect k) b).1.write 64).2.1.toNat
      · exact .inr (t1 h57)
      · exact .inl (t2 (by omega))
  · have hr : rCom s L k G b = dAll s L (2 + (G + 1) % 2 * sect k) b := by rw [rCom, if_pos (by omega)]
    rw [hr]
    exact .inr ⟨e, .inl h1⟩

/-- A new disk. -/
theorem rinv_new (k : Nat) (hk : 4 ≤ k) : RInv (List.replicate (64 * k) 0) k 0 [] := by
  have hz : ∀ q, q < 2 → dCut (List.replicate (64 * k) 0) q 64 = List.replicate 64 0 := by
    intro q hq
    unfold dCut
    rw [List.drop_replicate, List.take_replicate, Nat.min_eq_left (by omega)]
  refine ⟨by simp, by omega, fun _ => ⟨rfl, hz 0 (by omega)⟩, fun h => by omega, ⟨0, 0, by omega, ?_, ?_⟩⟩ <;> rw [hz _ (by omega)] <;> rfl

end Go.Proofs.YtaijjogjohbheaaGreat

/- Commit while power stays on; Open and Commit of a disk as the document has it; a new disk. -/
namespace Go.Proofs.YtaijjogjohbheaaGreat
open Go.RowKit
set_option maxRecDepth 100000
set_option linter.unusedSimpArgs false

/-- Bytes, and bytes 0 up to a sector's end. -/
def padS (b : List Nat) : List Nat := b ++ List.replicate ((64 - b.length % 64) % 64) 0

theorem padS_length (b : List Nat) : (padS b).length = cl b.length := by simp only [padS, cl, List.length_append, List.length_replicate]; omega

theorem padS_cons (b : List Nat) (h : 0 < b.length) : padS b = secOf (b.take 64) ++ padS (b.drop 64) := by
  by_cases h64 : b.length ≤ 64
  · rw [List.take_of_length_le h64, List.drop_eq_nil_of_le h64]
    simp only [padS, secOf, List.length_nil, List.nil_append]
    rw [show (64 - b.length % 64) % 64 = 64 - b.length by omega]
    simp
  · have e : 64 - (b.take 64).length = 0 := by simp; omega
    simp only [padS, secOf]
    rw [e, List.replicate_zero, List.append_nil, ← List.append_assoc, List.take_append_drop, show (64 - (b.drop 64).length % 64) % 64 = (64 - b.length % 64) % 64 by simp; omega]

theorem splice_two (L x y : List Nat) (o : Nat) (h : o + x.length + y.length ≤ L.length) : splice (splice L o x) (o + x.length) y = splice L o (x ++ y) := by
  have hl := length_splice L o x (by omega)
  apply List.ext_getElem?
  intro j
  rw [splice_get _ _ _ _ (by omega), splice_get _ _ _ _ (by omega), splice_get _ _ _ _ (by simp; omega), List.length_append]
  by_cases h1 : j < o
  · rw [if_pos (show j < o + x.length by omega), if_pos h1, if_pos h1]
  · by_cases h2 : j < o + x.length
    · rw [if_pos h2, if_neg h1, if_pos h2, if_neg h1, if_pos (show j < o + (x.length + y.length) by omega), List.getElem?_append_left (by omega)]
    · by_cases h3 : j < o + x.length + y.length
      · rw [if_neg h2, if_pos h3, if_neg h1, if_pos (show j < o + (x.length + y.length) by omega), List.getElem?_append_right (by omega)]
        congr 1
        omega
      · rw [if_neg h2, if_neg h3, if_neg h1, if_neg h2, if_neg h1, if_neg (show ¬ j < o + (x.length + y.length) by omega)]

theorem dPut_on (c : Nat) (L : List Nat) (i : Nat) (b : List Nat) (hb : b.length ≤ 64) : dPut ⟨true, none, c⟩ L i b = (⟨true, none, c + 1⟩, splice L (64 * i) (secOf b), 0) := by
  have e : (⟨true, none, c⟩ : Pw).write 64 = (⟨true, none, c + 1⟩, 64, 0) := rfl
  unfold dPut
  rw [e]
  simp only
  rw [show (64 : Int).toNat = 64 from rfl, List.take_of_length_le (by rw [secOf_length hb]; omega)]

theorem dAll_on (n : Nat) : ∀ (b : List Nat) (c : Nat) (L : List Nat) (i : Nat), b.length = n → 64 * i + cl n ≤ L.length → dAll ⟨true, none, c⟩ L i b = (⟨true, none, c + (n + 63) / 64⟩, splice L (64 * i) (padS b), 0) := by
  induction n using Nat.strongRecOn with
  | _ n ih =>
    intro b c L i hb hL
    by_cases h0 : b.length = 0
    · have : b = [] := List.eq_nil_of_length_eq_zero h0
      subst this
      rw [dAll_nil _ _ _ _ h0]
      have e : padS [] = [] := rfl
      rw [e, splice_nil]
      have : n = 0 := by simpa using hb.symm
      subst this
      rfl
    · have hc : 64 ≤ cl n := by unfold cl; omega
      have hc2 : cl (n - 64) + 64 = cl n := by unfold cl; omega
      have hbl : (b.take 64).length ≤ 64 := by simp; omega
      have hp := dPut_on c L i (b.take 64) hbl
      have hsl := secOf_length hbl
      rw [dAll_go _ _ _ _ (by omega) (by rw [hp]), hp]
      simp only
      rw [ih (n - 64) (by omega) (b.drop 64) (c + 1) _ (i + 1) (by simp; omega) (by rw [length_splice _ _ _ (by omega)]; omega)]
      have hpl := padS_length (b.drop 64)
      have hdl : (b.drop 64).length = n - 64 := by simp; omega
      have e2 := splice_two L (secOf (b.take 64)) (padS (b.drop 64)) (64 * i) (by rw [hpl, hdl]; omega)
      rw [hsl] at e2
      rw [show 64 * (i + 1) = 64 * i + 64 by omega, e2, ← padS_cons b (by omega)]
      congr 2
      omega

theorem rCom_on {L : List Nat} {k G c : Nat} {b : List Nat} (hL : L.length = 64 * k) (hk : 4 ≤ k) (hk2 : k ≤ 65536) (hb : b.length ≤ 64 * sect k) :
    rCom ⟨true, none, c⟩ L k G b = (⟨true, none, c + (b.length + 63) / 64 + 1⟩, splice (splice L (64 * (2 + (G + 1) % 2 * sect k)) (padS b)) (64 * ((G + 1) % 2)) (rSec (G + 1) b), 0) := by
  have hs : 2 + 2 * sect k ≤ k := by unfold sect; omega
  have hcl : cl b.length ≤ 64 * sect k := by unfold cl; omega
  have hA : 64 * (2 + (G + 1) % 2 * sect k) + 64 * sect k ≤ 64 * k := by
    rcases (by omega : (G + 1) % 2 = 0 ∨ (G + 1) % 2 = 1) with e | e <;> rw [e] <;> omega
  have hr := rSec_len (G + 1) b (by omega)
  rw [rCom, dAll_on b.length b c L _ rfl (by omega)]
  simp only
  rw [if_neg (by omega), dPut_on _ _ _ _ (by omega)]
  have e : secOf (rSec (G + 1) b) = rSec (G + 1) b := by unfold secOf; rw [hr]; simp
  rw [e]

theorem open_inv (w : World) (gd gp gb k G : Nat) (s : Pw) (L b : List Nat) (h : Dsk w gd gp gb s L k) (hk : 4 ≤ k) (hk1 : k ≤ 1000) (ho : s.on = true) (hi : RInv L k G b) (E : Nat) (hE : E = if G = 0 then 6 else 0) :
    Calls Tryz.prog 22 #[.pointer (some ⟨gd, 0, none⟩)] w fun e w' => ∃ gr a c, e = .returned (.tuple #[.pointer (some ⟨gr, 0, none⟩), .slice a b.length c, .int .i64 (E : Int)]) ∧ w.heap.size ≤ gr ∧
      Rd w' a b.length b ∧ w'.heap[gr]? = some (rootObj gd G) ∧ Below w.heap.size w w' := by
  have h1 := ropen_any w gd gp gb k s L h hk hk1 ho
  rw [hi.fold (by omega)] at h1
  refine h1.mono ?_
  rintro e w' ⟨v, rfl, hv, hr, hb⟩
  obtain ⟨a, c, rfl, hrd, _⟩ := hv.sl
  subst hE
  exact ⟨_, a, c, rfl, Nat.le_refl _, hrd, hr, hb⟩

theorem new_at (w : World) : Calls Tryz.prog 7 #[] w fun e w' => ∃ gp, e = .returned (.pointer (some ⟨gp, 0, none⟩)) ∧ w.heap.size ≤ gp ∧ Pow w' gp ⟨true, none, 0⟩ ∧ Below w.heap.size w w' := by
  refine (new_any w).mono ?_
  rintro e w' ⟨rfl, rfl⟩
  exact ⟨_, rfl, Nat.le_refl _, heap_alloc_new w _, Below.alloc0 _ _⟩

theorem dnew_at (w : World) (n gp : Nat) (s : Pw) (h : Pow w gp s) (hn : 0 < n) (hn' : n ≤ 65536) :
    Calls Tryz.prog 6 #[.int .i64 (n : Int), .pointer (some ⟨gp, 0, none⟩)] w fun e w' => ∃ gd gb, e = .returned (.tuple #[.pointer (some ⟨gd, 0, none⟩), .int .i64 0]) ∧ w.heap.size ≤ gd ∧ w.heap.size ≤ gb ∧ Dsk w' gd gp gb s (List.replicate (64 * n) 0) n ∧ Below w.heap.size w w' := by
  refine (dnew_any w n gp hn hn').mono ?_
  rintro e w' ⟨rfl, rfl⟩
  exact ⟨_, _, rfl, Nat.le_succ _, Nat.le_refl _, dsk_new w n gp s h hn hn', (Below.alloc0 _ _).alloc (by simp) _⟩

end Go.Proofs.YtaijjogjohbheaaGreat
