/- What a disk has behind Commits, whenever power fell: plain lists. -/
import Derived.Test.YtpdpnlgiaehegaaROpen
namespace Go.Proofs.Ytpdpnlgiaehegaa
open Go.RowKit
set_option linter.unusedSimpArgs false

theorem splice_get (L x : List Nat) (o j : Nat) (h : o + x.length ≤ L.length) : (splice L o x)[j]? = if j < o then L[j]? else if j < o + x.length then x[j - o]? else L[j]? := by
  unfold splice
  by_cases h1 : j < o
  · rw [if_pos h1, List.getElem?_append_left (by simp; omega), List.getElem?_take, if_pos h1]
  · rw [if_neg h1]
    by_cases h2 : j < o + x.length
    · rw [if_pos h2, List.getElem?_append_right (by simp; omega), List.getElem?_append_left (by simp; omega)]
      congr 1
      simp
      omega
    · rw [if_neg h2, List.getElem?_append_right (by simp; omega), List.getElem?_append_right (by simp; omega), List.getElem?_drop]
      congr 1
      simp
      omega

theorem dCut_congr {L L' : List Nat} {i n : Nat} (h : ∀ j, j < n → L'[64 * i + j]? = L[64 * i + j]?) : dCut L' i n = dCut L i n := by
  apply List.ext_getElem?
  intro j
  unfold dCut
  rw [List.getElem?_take, List.getElem?_take]
  split
  · rw [List.getElem?_drop, List.getElem?_drop]
    exact h j ‹_›
  · rfl

theorem dCut_len {L : List Nat} {i n : Nat} (h : 64 * i + n ≤ L.length) : (dCut L i n).length = n := by unfold dCut; simp; omega

theorem writeOn (s : Pw) (h : s.on = true) : (s.write 64).2.1.toNat ≤ 64 ∧ ((s.write 64).2.2 = 0 ∧ (s.write 64).2.1.toNat = 64 ∧ (s.write 64).1.on = true ∨ (s.write 64).2.2 = 11) := by
  unfold Pw.write
  rw [if_neg (by omega), if_neg (by simp [h])]
  split
  · exact ⟨by simp, .inl ⟨rfl, by simp, h⟩⟩
  · exact ⟨by simp; omega, .inr rfl⟩
  · exact ⟨by simp, .inl ⟨rfl, by simp, h⟩⟩

def cl (n : Nat) : Nat := 64 * ((n + 63) / 64)

/-- Bytes put, sector by sector, while power may fall. -/
theorem dAll_spec (n : Nat) : ∀ (b : List Nat) (s : Pw) (L : List Nat) (i : Nat), b.length = n → s.on = true → 64 * i + cl n ≤ L.length →
    (dAll s L i b).2.1.length = L.length ∧ (∀ j, j < 64 * i ∨ 64 * i + cl n ≤ j → (dAll s L i b).2.1[j]? = L[j]?) ∧
    ((dAll s L i b).2.2 = 0 ∧ (dAll s L i b).1.on = true ∧ (∀ j, j < n → (dAll s L i b).2.1[64 * i + j]? = b[j]?) ∨ (dAll s L i b).2.2 = 11) := by
  induction n using Nat.strongRecOn with
  | _ n ih =>
    intro b s L i hb ho hL
    by_cases h0 : b.length = 0
    · rw [dAll_nil s L i b h0]
      exact ⟨rfl, fun _ _ => rfl, .inl ⟨rfl, ho, fun j hj => by omega⟩⟩
    · have hc : 64 ≤ cl n := by unfold cl; omega
      have hc2 : cl (n - 64) + 64 = cl n := by unfold cl; omega
      have hbl : (b.take 64).length ≤ 64 := by simp; omega
      obtain ⟨hw, hw'⟩ := writeOn s ho
      have hsl := secOf_length hbl
      have hX : ((secOf (b.take 64)).take (s.write 64).2.1.toNat).length = (s.write 64).2.1.toNat := by rw [List.length_take, hsl]; omega
      have hl1 : (dPut s L i (b.take 64)).2.1.length = L.length := length_splice _ _ _ (by rw [hX]; omega)
      have hg1 : ∀ j, j < 64 * i ∨ 64 * i + 64 ≤ j → (dPut s L i (b.take 64)).2.1[j]? = L[j]? := by
        intro j hj
        unfold dPut
        rw [splice_get _ _ _ _ (by rw [hX]; omega), hX]
        rcases hj with hj | hj
        · rw [if_pos hj]
        · rw [if_neg (by omega), if_neg (by omega)]
      by_cases he : (dPut s L i (b.take 64)).2.2 = 0
      · rw [dAll_go s L i b (by omega) he]
        have hw2 : (s.write 64).2.1.toNat = 64 ∧ (s.write 64).1.on = true := by
          rcases hw' with h | h
          · exact h.2
          · have : (s.write 64).2.2 = 0 := he
            omega
        obtain ⟨i1, i2, i3⟩ := ih (n - 64) (by omega) (b.drop 64) (dPut s L i (b.take 64)).1 (dPut s L i (b.take 64)).2.1 (i + 1) (by simp; omega) hw2.2 (by rw [hl1]; omega)
        refine ⟨i1.trans hl1, fun j hj => (i2 j (by omega)).trans (hg1 j (by omega)), ?_⟩
        rcases i3 with ⟨e1, e2, e3⟩ | e
        · refine .inl ⟨e1, e2, fun j hj => ?_⟩
          by_cases hj6 : j < 64
          · rw [i2 _ (by omega)]
            unfold dPut
            rw [splice_get _ _ _ _ (by rw [hX]; omega), hX, if_neg (by omega), if_pos (by omega), hw2.1, show 64 * i + j - 64 * i = j by omega, List.getElem?_take, if_pos hj6]
            unfold secOf
            rw [List.getElem?_append_left (by simp; omega), List.getElem?_take, if_pos hj6]
          · have := e3 (j - 64) (by omega)
            rw [List.getElem?_drop, show 64 * (i + 1) + (j - 64) = 64 * i + j by omega, show 64 + (j - 64) = j by omega] at this
            exact this
        · exact .inr e
      · rw [dAll_err s L i b (by omega) he]
        refine ⟨hl1, fun j hj => hg1 j (by omega), .inr ?_⟩
        rcases hw' with h | h
        · exact absurd h.1 he
        · exact h

def c8 (x : Nat) : List Nat := [x, 0, 0, 0, 0, 0, 0, 0]

theorem g8_small {G : Nat} (h : G < 256) : g8 8 G = c8 G := by
  have e : G / 256 = 0 := by omega
  simp [g8, c8, e, Nat.mod_eq_of_lt h]

theorem le_c8 (x : Nat) : le (c8 x) = x := by simp [le, c8]

/-- A disk of k sectors on which G is the greatest generation that is intact, with the bytes b (0: there is none). -/
structure RInv (L : List Nat) (k G : Nat) (b : List Nat) : Prop where
  len : L.length = 64 * k
  small : G < 256
  no : G = 0 → b = [] ∧ dCut L 0 64 = List.replicate 64 0
  yes : 0 < G → dCut L (G % 2) 64 = rSec G b ∧ dCut L (2 + G % 2 * sect k) b.length = b ∧ b.length ≤ 64 * sect k
  other : ∃ f l, l ≤ G ∧ (dCut L ((G + 1) % 2) 64).take 8 = c8 f ∧ (dCut L ((G + 1) % 2) 64).drop 56 = c8 l

theorem rNum_put' (x : Nat) (r : List Nat) (most : Nat) (hx : x ≤ most) (h : x < 18446744073709551616) : rNum 0 (vEnc x ++ r) most = (x, 0, r) := by
  obtain ⟨h1, h2, h3⟩ := vRead (n := x) r h
  rw [rNum_ok h1 (by omega), h2, h3]
  simp

theorem rInt_yes {L b : List Nat} {k G : Nat} (hG : 0 < G) (hs : G < 256) (hb : dCut L (2 + G % 2 * sect k) b.length = b) (hl : b.length ≤ 64 * sect k) (hk : k ≤ 65536) : rInt L k (G % 2) (rSec G b) = some (G, b) := by
  have hb4 : b.length < 4294967296 := by have : sect k ≤ k := by unfold sect; omega
                                         omega
  have e1 : le ((rSec G b).take 8) = G := by rw [rSec_first, g8_small hs, le_c8]
  have e2 : le (((rSec G b).drop 56).take 8) = G := by rw [rSec_last _ _ hb4, List.take_of_length_le (by rw [g8_length]; omega), g8_small hs, le_c8]
  obtain ⟨r, hr⟩ := rSec_mid G b hb4
  have e3 : ((rSec G b).take 56).drop 8 = vEnc b.length ++ (vEnc (cSum b) ++ r) := by rw [List.drop_take, hr]
  have e4 := rNum_put' b.length (vEnc (cSum b) ++ r) (64 * sect k) hl (by omega)
  have e5 := rNum_put' (cSum b) r 4294967295 (by have := cSum_lt b; omega) (by have := cSum_lt b; omega)
  unfold rInt
  rw [e1, e2, e3, e4]
  simp only [e5, hb]
  rw [if_neg (by omega)]
  simp

theorem rInt_zero (L : List Nat) (k i : Nat) : rInt L k i (List.replicate 64 0) = none := by
  unfold rInt
  rw [if_pos (.inl (by decide))]

theorem rInt_other {L S : List Nat} {k G f l : Nat} (hl : l ≤ G) (h1 : S.take 8 = c8 f) (h2 : S.drop 56 = c8 l) : rInt L k ((G + 1) % 2) S = none ∨ ∃ g b, rInt L k ((G + 1) % 2) S = some (g, b) ∧ g < G := by
  have e1 : le (S.take 8) = f := by rw [h1, le_c8]
  have e2 : le ((S.drop 56).take 8) = l := by rw [h2, List.take_of_length_le (by simp [c8]), le_c8]
  unfold rInt
  rw [e1, e2]
  split
  · exact .inl rfl
  · next hc =>
    split
    · exact .inl rfl
    · split
      · exact .inl rfl
      · exact .inr ⟨f, _, rfl, by omega⟩

theorem rStep_none (X : Nat × List Nat) : rStep X none = X := by simp [rStep]

theorem rStep_some (X : Nat × List Nat) (g : Nat) (b : List Nat) : rStep X (some (g, b)) = if X.1 < g then (g, b) else X := by simp [rStep, rGen, rB]

theorem rFold_two (L : List Nat) (k : Nat) : rFold L k 2 = rStep (rStep (0, []) (rInt L k 0 (dCut L 0 64))) (rInt L k 1 (dCut L 1 64)) := rfl

theorem RInv.fold {L b : List Nat} {k G : Nat} (h : RInv L k G b) (hk : k ≤ 65536) : rFold L k 2 = (G, b) := by
  obtain ⟨f, l, hl, h1, h2⟩ := h.other
  have hO := rInt_other (L := L) (k := k) hl h1 h2
  by_cases hG : G = 0
  · obtain ⟨hb, h0⟩ := h.no hG
    subst hG
    subst hb
    have hn : rInt L k 1 (dCut L 1 64) = none := by
      rcases hO with h | ⟨g, b, _, h⟩
      · exact h
      · omega
    have hz := rInt_zero L k 0
    rw [← h0] at hz
    rw [rFold_two, hz, hn, rStep_none, rStep_none]
  · obtain ⟨h3, h4, h5⟩ := h.yes (by omega)
    have hY := rInt_yes (by omega) h.small h4 h5 hk
    rw [← h3] at hY
    rcases (by omega : G % 2 = 0 ∨ G % 2 = 1) with e | e
    · have e' : (G + 1) % 2 = 1 := by omega
      rw [e] at hY
      rw [e'] at hO
      rw [rFold_two, hY, rStep_some, if_pos (show 0 < G by omega)]
      rcases hO with h | ⟨g, b', h, hg⟩
      · rw [h, rStep_none]
      · rw [h, rStep_some, if_neg (show ¬ G < g by omega)]
    · have e' : (G + 1) % 2 = 0 := by omega
      rw [e] at hY
      rw [e'] at hO
      rw [rFold_two, hY, rStep_some]
      rcases hO with h | ⟨g, b', h, hg⟩
      · rw [h, rStep_none, if_pos (show 0 < G by omega)]
      · rw [h, rStep_some]
        by_cases hg0 : 0 < g
        · rw [if_pos (show (0, ([] : List Nat)).1 < g from hg0), if_pos (show g < G from hg)]
        · rw [if_neg (show ¬ (0, ([] : List Nat)).1 < g from hg0), if_pos (show 0 < G by omega)]

/-- A sector of which m bytes were put. -/
theorem dCut_put {L x : List Nat} {i m : Nat} (hx : x.length = m) (hm : m ≤ 64) (hL : 64 * i + 64 ≤ L.length) : dCut (splice L (64 * i) x) i 64 = x ++ (dCut L i 64).drop m := by
  apply List.ext_getElem?
  intro j
  unfold dCut
  rw [List.getElem?_take]
  by_cases hj : j < 64
  · rw [if_pos hj, List.getElem?_drop, splice_get _ _ _ _ (by omega), if_neg (by omega), hx]
    by_cases hjm : j < m
    · rw [if_pos (by omega), List.getElem?_append_left (by omega)]
      congr 1
      omega
    · rw [if_neg (by omega), List.getElem?_append_right (by omega), List.getElem?_drop, List.getElem?_take, if_pos (by omega), List.getElem?_drop]
      congr 1
      omega
  · rw [if_neg hj, List.getElem?_eq_none]
    simp
    omega

theorem mix_first (x f m : Nat) (X Y : List Nat) (hm : 0 < m) (hX : 8 ≤ X.length) (h1 : X.take 8 = c8 x) (h2 : Y.take 8 = c8 f) : (X.take m ++ Y.drop m).take 8 = c8 x := by
  have eX : X = c8 x ++ X.drop 8 := by rw [← h1, List.take_append_drop]
  have eY : Y = c8 f ++ Y.drop 8 := by rw [← h2, List.take_append_drop]
  by_cases h8 : 8 ≤ m
  · rw [List.take_append_of_le_length (by simp; omega), List.take_take, Nat.min_eq_left h8, h1]
  · rw [eX, eY]
    rcases (by omega : m = 1 ∨ m = 2 ∨ m = 3 ∨ m = 4 ∨ m = 5 ∨ m = 6 ∨ m = 7) with rfl | rfl | rfl | rfl | rfl | rfl | rfl <;> simp [c8]

theorem mix_whole (x f m : Nat) (X Y : List Nat) (hm : 57 ≤ m) (hm2 : m ≤ 64) (h1 : X.drop 56 = c8 x) (h2 : Y.drop 56 = c8 f) : X.take m ++ Y.drop m = X := by
  have e : X.drop m = Y.drop m := by
    rw [show m = 56 + (m - 56) by omega, ← List.drop_drop, ← List.drop_drop, h1, h2]
    rcases (by omega : m - 56 = 1 ∨ m - 56 = 2 ∨ m - 56 = 3 ∨ m - 56 = 4 ∨ m - 56 = 5 ∨ m - 56 = 6 ∨ m - 56 = 7 ∨ m - 56 = 8) with h | h | h | h | h | h | h | h <;> rw [h] <;> simp [c8]
  rw [← e, List.take_append_drop]

end Go.Proofs.Ytpdpnlgiaehegaa
