/- What a Commit makes of a disk, whenever power falls: plain lists. -/
import Derived.Test.YtpdpnlgiaehegaaRInv
namespace Go.Proofs.Ytpdpnlgiaehegaa
open Go.RowKit
set_option linter.unusedSimpArgs false

theorem RInv.area {L L' b : List Nat} {k G : Nat} (h : RInv L k G b) (hk : 4 ≤ k) (hl : L'.length = L.length) (hc : ∀ j, j < 64 * (2 + (G + 1) % 2 * sect k) ∨ 64 * (2 + (G + 1) % 2 * sect k) + 64 * sect k ≤ j → L'[j]? = L[j]?) : RInv L' k G b := by
  have hs : 1 ≤ sect k := by unfold sect; omega
  have hsec : ∀ q, q < 2 → dCut L' q 64 = dCut L q 64 := fun q hq => dCut_congr fun j hj => hc _ (.inl (by
    have : 2 ≤ 2 + (G + 1) % 2 * sect k := Nat.le_add_right _ _
    omega))
  refine ⟨hl.trans h.len, h.small, fun hG => ?_, fun hG => ?_, ?_⟩
  · rw [hsec 0 (by omega)]; exact h.no hG
  · obtain ⟨h1, h2, h3⟩ := h.yes hG
    refine ⟨by rw [hsec _ (by omega)]; exact h1, ?_, h3⟩
    refine (dCut_congr fun j hj => hc _ ?_).trans h2
    rcases (by omega : G % 2 = 0 ∨ G % 2 = 1) with e | e
    · have e' : (G + 1) % 2 = 1 := by omega
      rw [e, e']; left; omega
    · have e' : (G + 1) % 2 = 0 := by omega
      rw [e, e']; right; omega
  · obtain ⟨f, l, h1, h2, h3⟩ := h.other
    rw [hsec _ (by omega)]
    exact ⟨f, l, h1, h2, h3⟩

theorem splice_keep {L x : List Nat} {i q n m : Nat} (hx : x.length = m) (hm : m ≤ 64) (hL : 64 * i + 64 ≤ L.length) (hd : q + 1 ≤ i ∧ n ≤ 64 ∨ i < q) : dCut (splice L (64 * i) x) q n = dCut L q n := by
  refine dCut_congr fun j hj => ?_
  rw [splice_get _ _ _ _ (by omega), hx]
  rcases hd with hd | hd
  · rw [if_pos (by omega)]
  · rw [if_neg (by omega), if_neg (by omega)]

theorem RInv.torn {L b0 b : List Nat} {k G m : Nat} (h : RInv L k G b0) (hk : 4 ≤ k) (hk2 : k ≤ 65536) (hG : G + 1 < 256) (hm : m ≤ 64) (hb : b.length ≤ 64 * sect k) (hA : dCut L (2 + (G + 1) % 2 * sect k) b.length = b) :
    (57 ≤ m → RInv (splice L (64 * ((G + 1) % 2)) ((rSec (G + 1) b).take m)) k (G + 1) b) ∧ (m ≤ 56 → RInv (splice L (64 * ((G + 1) % 2)) ((rSec (G + 1) b).take m)) k G b0) := by
  have hb4 : b.length < 4294967296 := by have : sect k ≤ k := by unfold sect; omega
                                         omega
  have hrl := rSec_len (G + 1) b hb4
  have hf := rSec_first (G + 1) b
  have hla := rSec_last (G + 1) b hb4
  rw [g8_small hG] at hf hla
  obtain ⟨rs, hrs⟩ : ∃ rs, rs = rSec (G + 1) b := ⟨_, rfl⟩
  have hml : (rs.take m).length = m := by rw [List.length_take, hrs, hrl]; omega
  obtain ⟨i, hi⟩ : ∃ i, i = (G + 1) % 2 := ⟨_, rfl⟩
  have hlen := h.len
  have hL : 64 * i + 64 ≤ L.length := by omega
  have hlL : (splice L (64 * i) (rs.take m)).length = 64 * k := (length_splice _ _ _ (by omega)).trans hlen
  have hsec := dCut_put (L := L) (i := i) hml hm hL
  obtain ⟨f, l, h1, h2, h3⟩ := h.other
  rw [← hi] at h2 h3 hA ⊢
  rw [← hrs] at hrl hf hla ⊢
  refine ⟨fun h57 => ?_, fun h56 => ?_⟩
  · rw [mix_whole (G + 1) l m rs (dCut L i 64) h57 hm hla h3] at hsec
    refine ⟨hlL, hG, fun e => by omega, fun _ => ⟨?_, ?_, hb⟩, ?_⟩
    · rw [← hi, hsec, hrs]
    · rw [← hi, splice_keep hml hm hL (.inr (by have : 2 ≤ 2 + i * sect k := Nat.le_add_right _ _; omega))]
      exact hA
    · have hp : (G + 1 + 1) % 2 = G % 2 := by omega
      rw [hp, splice_keep hml hm hL (by omega)]
      by_cases hG0 : G = 0
      · subst hG0
        refine ⟨0, 0, by omega, ?_, ?_⟩ <;> rw [show 0 % 2 = 0 from rfl, (h.no rfl).2] <;> rfl
      · obtain ⟨y1, y2, y3⟩ := h.yes (by omega)
        have hb04 : b0.length < 4294967296 := by have : sect k ≤ k := by unfold sect; omega
                                                 omega
        refine ⟨G, G, by omega, ?_, ?_⟩
        · rw [y1, rSec_first, g8_small h.small]
        · rw [y1, rSec_last _ _ hb04, g8_small h.small]
  · refine ⟨hlL, h.small, fun hG0 => ?_, fun hG0 => ?_, ?_⟩
    · have : i = 1 := by omega
      rw [splice_keep hml hm hL (by omega)]
      exact h.no hG0
    · obtain ⟨y1, y2, y3⟩ := h.yes hG0
      refine ⟨?_, ?_, y3⟩
      · rw [splice_keep hml hm hL (by omega)]; exact y1
      · rw [splice_keep hml hm hL (.inr (by have : 2 ≤ 2 + G % 2 * sect k := Nat.le_add_right _ _; omega))]; exact y2
    · rw [← hi, hsec]
      have hd : (rs.take m ++ (dCut L i 64).drop m).drop 56 = c8 l := by
        rw [List.drop_append, List.drop_eq_nil_of_le (by omega), hml, List.nil_append, List.drop_drop, show m + (56 - m) = 56 by omega, h3]
      by_cases hm0 : m = 0
      · exact ⟨f, l, h1, by subst hm0; simpa using h2, hd⟩
      · exact ⟨G + 1, l, h1, mix_first (G + 1) f m rs (dCut L i 64) (by omega) (by omega) hf h2, hd⟩

/-- What a Commit leaves. -/
theorem RInv.commit {L b0 b : List Nat} {k G : Nat} {s : Pw} (h : RInv L k G b0) (hk : 4 ≤ k) (hk2 : k ≤ 65536) (hG : G + 1 < 256) (ho : s.on = true) (hb : b.length ≤ 64 * sect k) :
    (rCom s L k G b).2.2 = 0 ∧ RInv (rCom s L k G b).2.1 k (G + 1) b ∨ (rCom s L k G b).2.2 = 11 ∧ (RInv (rCom s L k G b).2.1 k G b0 ∨ RInv (rCom s L k G b).2.1 k (G + 1) b) := by
  have hs : 2 + 2 * sect k ≤ k := by unfold sect; omega
  have hcl : cl b.length ≤ 64 * sect k := by unfold cl; omega
  have hA : 64 * (2 + (G + 1) % 2 * sect k) + 64 * sect k ≤ 64 * k := by
    rcases (by omega : (G + 1) % 2 = 0 ∨ (G + 1) % 2 = 1) with e | e <;> rw [e] <;> omega
  obtain ⟨s1, s2, s3⟩ := dAll_spec b.length b s L (2 + (G + 1) % 2 * sect k) rfl ho (by have := h.len; omega)
  have h1 := h.area hk s1 (fun j hj => s2 j (by omega))
  rcases s3 with ⟨e0, eo, eb⟩ | e
  · have hr : rCom s L k G b = dPut (dAll s L (2 + (G + 1) % 2 * sect k) b).1 (dAll s L (2 + (G + 1) % 2 * sect k) b).2.1 ((G + 1) % 2) (rSec (G + 1) b) := by rw [rCom, if_neg (by omega)]
    rw [hr]
    obtain ⟨w1, w2⟩ := writeOn _ eo
    have hb4 : b.length < 4294967296 := by omega
    have hsec : secOf (rSec (G + 1) b) = rSec (G + 1) b := by unfold secOf; rw [rSec_len _ _ hb4]; simp
    have hcut : dCut (dAll s L (2 + (G + 1) % 2 * sect k) b).2.1 (2 + (G + 1) % 2 * sect k) b.length = b := by
      apply List.ext_getElem?
      intro j
      unfold dCut
      rw [List.getElem?_take]
      split
      · rw [List.getElem?_drop]; exact eb j ‹_›
      · rw [List.getElem?_eq_none (by omega)]
    obtain ⟨t1, t2⟩ := h1.torn hk hk2 hG w1 hb hcut
    unfold dPut
    rw [hsec]
    rcases w2 with ⟨x1, x2, _⟩ | x1
    · exact .inl ⟨x1, t1 (by omega)⟩
    · refine .inr ⟨x1, ?_⟩
      by_cases h57 : 57 ≤ ((dAll s L (2 + (G + 1) % 2 * sect k) b).1.write 64).2.1.toNat
      · exact .inr (t1 h57)
      · exact .inl (t2 (by omega))
  · have hr : rCom s L k G b = dAll s L (2 + (G + 1) % 2 * sect k) b := by rw [rCom, if_pos (by omega)]
    rw [hr]
    exact .inr ⟨e, .inl h1⟩

/-- A new disk. -/
theorem rinv_new (k : Nat) (hk : 4 ≤ k) : RInv (List.replicate (64 * k) 0) k 0 [] := by
  have hz : ∀ q, q < 2 → dCut (List.replicate (64 * k) 0) q 64 = List.replicate 64 0 := by
    intro q hq
    unfold dCut
    rw [List.drop_replicate, List.take_replicate, Nat.min_eq_left (by omega)]
  refine ⟨by simp, by omega, fun _ => ⟨rfl, hz 0 (by omega)⟩, fun h => by omega, ⟨0, 0, by omega, ?_, ?_⟩⟩ <;> rw [hz _ (by omega)] <;> rfl

end Go.Proofs.Ytpdpnlgiaehegaa
