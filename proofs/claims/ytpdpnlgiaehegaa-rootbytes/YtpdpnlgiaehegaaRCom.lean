/- Commit while power stays on; Open and Commit of a disk as the document has it; a new disk. -/
import Derived.Test.YtpdpnlgiaehegaaRInv2
namespace Go.Proofs.Ytpdpnlgiaehegaa
open Go.RowKit
set_option linter.unusedSimpArgs false

/-- Bytes, and bytes 0 up to a sector's end. -/
def padB (b : List Nat) : List Nat := b ++ List.replicate ((64 - b.length % 64) % 64) 0

theorem padB_length (b : List Nat) : (padB b).length = cl b.length := by simp only [padB, cl, List.length_append, List.length_replicate]; omega

theorem padB_cons (b : List Nat) (h : 0 < b.length) : padB b = secOf (b.take 64) ++ padB (b.drop 64) := by
  by_cases h64 : b.length ≤ 64
  · rw [List.take_of_length_le h64, List.drop_eq_nil_of_le h64]
    simp only [padB, secOf, List.length_nil, List.nil_append]
    rw [show (64 - b.length % 64) % 64 = 64 - b.length by omega]
    simp
  · have e : 64 - (b.take 64).length = 0 := by simp; omega
    simp only [padB, secOf]
    rw [e, List.replicate_zero, List.append_nil, ← List.append_assoc, List.take_append_drop, show (64 - (b.drop 64).length % 64) % 64 = (64 - b.length % 64) % 64 by simp; omega]

theorem splice_two (L x y : List Nat) (o : Nat) (h : o + x.length + y.length ≤ L.length) : splice (splice L o x) (o + x.length) y = splice L o (x ++ y) := by
  have hl := length_splice L o x (by omega)
  apply List.ext_getElem?
  intro j
  rw [splice_get _ _ _ _ (by omega), splice_get _ _ _ _ (by omega), splice_get _ _ _ _ (by simp; omega), List.length_append]
  by_cases h1 : j < o
  · rw [if_pos (show j < o + x.length by omega), if_pos h1, if_pos h1]
  · by_cases h2 : j < o + x.length
    · rw [if_pos h2, if_neg h1, if_pos h2, if_neg h1, if_pos (show j < o + (x.length + y.length) by omega), List.getElem?_append_left (by omega)]
    · by_cases h3 : j < o + x.length + y.length
      · rw [if_neg h2, if_pos h3, if_neg h1, if_pos (show j < o + (x.length + y.length) by omega), List.getElem?_append_right (by omega)]
        congr 1
        omega
      · rw [if_neg h2, if_neg h3, if_neg h1, if_neg h2, if_neg h1, if_neg (show ¬ j < o + (x.length + y.length) by omega)]

theorem dPut_on (c : Nat) (L : List Nat) (i : Nat) (b : List Nat) (hb : b.length ≤ 64) : dPut ⟨true, none, c⟩ L i b = (⟨true, none, c + 1⟩, splice L (64 * i) (secOf b), 0) := by
  have e : (⟨true, none, c⟩ : Pw).write 64 = (⟨true, none, c + 1⟩, 64, 0) := rfl
  unfold dPut
  rw [e]
  simp only
  rw [show (64 : Int).toNat = 64 from rfl, List.take_of_length_le (by rw [secOf_length hb]; omega)]

theorem dAll_on (n : Nat) : ∀ (b : List Nat) (c : Nat) (L : List Nat) (i : Nat), b.length = n → 64 * i + cl n ≤ L.length → dAll ⟨true, none, c⟩ L i b = (⟨true, none, c + (n + 63) / 64⟩, splice L (64 * i) (padB b), 0) := by
  induction n using Nat.strongRecOn with
  | _ n ih =>
    intro b c L i hb hL
    by_cases h0 : b.length = 0
    · have : b = [] := List.eq_nil_of_length_eq_zero h0
      subst this
      rw [dAll_nil _ _ _ _ h0]
      have e : padB [] = [] := rfl
      rw [e, splice_nil]
      have : n = 0 := by simpa using hb.symm
      subst this
      rfl
    · have hc : 64 ≤ cl n := by unfold cl; omega
      have hc2 : cl (n - 64) + 64 = cl n := by unfold cl; omega
      have hbl : (b.take 64).length ≤ 64 := by simp; omega
      have hp := dPut_on c L i (b.take 64) hbl
      have hsl := secOf_length hbl
      rw [dAll_go _ _ _ _ (by omega) (by rw [hp]), hp]
      simp only
      rw [ih (n - 64) (by omega) (b.drop 64) (c + 1) _ (i + 1) (by simp; omega) (by rw [length_splice _ _ _ (by omega)]; omega)]
      have hpl := padB_length (b.drop 64)
      have hdl : (b.drop 64).length = n - 64 := by simp; omega
      have e2 := splice_two L (secOf (b.take 64)) (padB (b.drop 64)) (64 * i) (by rw [hpl, hdl]; omega)
      rw [hsl] at e2
      rw [show 64 * (i + 1) = 64 * i + 64 by omega, e2, ← padB_cons b (by omega)]
      congr 2
      omega

theorem rCom_on {L : List Nat} {k G c : Nat} {b : List Nat} (hL : L.length = 64 * k) (hk : 4 ≤ k) (hk2 : k ≤ 65536) (hb : b.length ≤ 64 * sect k) :
    rCom ⟨true, none, c⟩ L k G b = (⟨true, none, c + (b.length + 63) / 64 + 1⟩, splice (splice L (64 * (2 + (G + 1) % 2 * sect k)) (padB b)) (64 * ((G + 1) % 2)) (rSec (G + 1) b), 0) := by
  have hs : 2 + 2 * sect k ≤ k := by unfold sect; omega
  have hcl : cl b.length ≤ 64 * sect k := by unfold cl; omega
  have hA : 64 * (2 + (G + 1) % 2 * sect k) + 64 * sect k ≤ 64 * k := by
    rcases (by omega : (G + 1) % 2 = 0 ∨ (G + 1) % 2 = 1) with e | e <;> rw [e] <;> omega
  have hr := rSec_len (G + 1) b (by omega)
  rw [rCom, dAll_on b.length b c L _ rfl (by omega)]
  simp only
  rw [if_neg (by omega), dPut_on _ _ _ _ (by omega)]
  have e : secOf (rSec (G + 1) b) = rSec (G + 1) b := by unfold secOf; rw [hr]; simp
  rw [e]

theorem open_inv (w : World) (gd gp gb k G : Nat) (s : Pw) (L b : List Nat) (h : Dsk w gd gp gb s L k) (hk : 4 ≤ k) (hk1 : k ≤ 1000) (ho : s.on = true) (hi : RInv L k G b) (E : Nat) (hE : E = if G = 0 then 6 else 0) :
    Calls Try.prog 9 #[.pointer (some ⟨gd, 0, none⟩)] w fun e w' => ∃ gr a c, e = .returned (.tuple #[.pointer (some ⟨gr, 0, none⟩), .slice a b.length c, .int .i64 (E : Int)]) ∧ w.heap.size ≤ gr ∧
      Rd w' a b.length b ∧ w'.heap[gr]? = some (rootObj gd G) ∧ Below w.heap.size w w' := by
  have h1 := ropen_any w gd gp gb k s L h hk hk1 ho
  rw [hi.fold (by omega)] at h1
  refine h1.mono ?_
  rintro e w' ⟨v, rfl, hv, hr, hb⟩
  obtain ⟨a, c, rfl, hrd, _⟩ := hv.sl
  subst hE
  exact ⟨_, a, c, rfl, Nat.le_refl _, hrd, hr, hb⟩

theorem new_at (w : World) : Calls Try.prog 8 #[] w fun e w' => ∃ gp, e = .returned (.pointer (some ⟨gp, 0, none⟩)) ∧ w.heap.size ≤ gp ∧ Pow w' gp ⟨true, none, 0⟩ ∧ Below w.heap.size w w' := by
  refine (new_any w).mono ?_
  rintro e w' ⟨rfl, rfl⟩
  exact ⟨_, rfl, Nat.le_refl _, heap_alloc_new w _, Below.alloc0 _ _⟩

theorem dnew_at (w : World) (n gp : Nat) (s : Pw) (h : Pow w gp s) (hn : 0 < n) (hn' : n ≤ 65536) :
    Calls Try.prog 7 #[.int .i64 (n : Int), .pointer (some ⟨gp, 0, none⟩)] w fun e w' => ∃ gd gb, e = .returned (.tuple #[.pointer (some ⟨gd, 0, none⟩), .int .i64 0]) ∧ w.heap.size ≤ gd ∧ w.heap.size ≤ gb ∧ Dsk w' gd gp gb s (List.replicate (64 * n) 0) n ∧ Below w.heap.size w w' := by
  refine (dnew_any w n gp hn hn').mono ?_
  rintro e w' ⟨rfl, rfl⟩
  exact ⟨_, _, rfl, Nat.le_succ _, Nat.le_refl _, dsk_new w n gp s h hn hn', (Below.alloc0 _ _).alloc (by simp) _⟩

end Go.Proofs.Ytpdpnlgiaehegaa
