/- Records that are ones: the four kinds; a record's bytes; what bytes come to. Plain mathematics. -/
import Derived.Test.YtngnlnkkehnomaaRcValid
import Derived.Test.YtngnlnkkehnomaaVBytes
import Derived.Test.YtngnlnkkehnomaaCheckOf
import Derived.Test.YtngnlnkkehnomaaVRdrBytesC
namespace Go.Proofs.Ytngnlnkkehnomaa
open Go.RowKit
set_option linter.unusedSimpArgs false

theorem Rec.ok_cases {x : Rec} (h : x.ok = true) :
    (∃ i b : Nat, i ≤ 1099511627776 ∧ b ≤ 1099511627776 ∧ x = ⟨1, i, b, 0, 0, [], 0, 0, 0⟩) ∨
    (∃ (f t : Nat) (l : List Nat), f < t ∧ t ≤ f + 4 ∧ t ≤ 256 ∧ l.length = (t - f) * 32 ∧ x = ⟨2, 0, 0, f, t, l, 0, 0, 0⟩) ∨
    (∃ f t : Nat, f < t ∧ t ≤ 256 ∧ x = ⟨3, 0, 0, f, t, [], 0, 0, 0⟩) ∨
    (∃ c n s : Nat, c ≤ 1099511627776 ∧ n ≤ 1099511627776 ∧ s < 2305843009213693951 ∧ x = ⟨4, 0, 0, 0, 0, [], c, n, s⟩) := by
  obtain ⟨k, i, b, f, t, l, c, n, s⟩ := x
  unfold Rec.ok at h
  simp only at h
  split at h
  · rename_i h1
    simp only [Bool.and_eq_true, isNum, decide_eq_true_eq, Rec.eq_iff, Rec.mk.injEq] at h
    obtain ⟨⟨a1, a2⟩, ⟨a3, a4⟩, -, -, -, rfl, rfl, rfl, rfl, rfl, rfl⟩ := h
    refine .inl ⟨i.toNat, b.toNat, by omega, by omega, ?_⟩
    have e1 : ((i.toNat : Nat) : Int) = i := by omega
    have e2 : ((b.toNat : Nat) : Int) = b := by omega
    rw [e1, e2, h1]
  split at h
  · rename_i h1
    simp only [Bool.and_eq_true, isRunB, decide_eq_true_eq, Rec.eq_iff, Rec.mk.injEq] at h
    obtain ⟨⟨a1, a2, a3⟩, a4, a5, -, rfl, rfl, -, -, -, rfl, rfl, rfl⟩ := h
    refine .inr (.inl ⟨f.toNat, t.toNat, l, by omega, by omega, by omega, by omega, ?_⟩)
    have e1 : ((f.toNat : Nat) : Int) = f := by omega
    have e2 : ((t.toNat : Nat) : Int) = t := by omega
    rw [e1, e2, h1]
  split at h
  · rename_i h1
    simp only [Bool.and_eq_true, isRunB, decide_eq_true_eq, Rec.eq_iff, Rec.mk.injEq] at h
    obtain ⟨⟨a1, a2, a3⟩, -, rfl, rfl, -, -, rfl, rfl, rfl, rfl⟩ := h
    refine .inr (.inr (.inl ⟨f.toNat, t.toNat, by omega, by omega, ?_⟩))
    have e1 : ((f.toNat : Nat) : Int) = f := by omega
    have e2 : ((t.toNat : Nat) : Int) = t := by omega
    rw [e1, e2, h1]
  split at h
  · rename_i h1
    simp only [Bool.and_eq_true, isNum, decide_eq_true_eq, Rec.eq_iff, Rec.mk.injEq] at h
    obtain ⟨⟨a1, a2⟩, a3, a4, -, rfl, rfl, rfl, rfl, rfl, -, -, -⟩ := h
    refine .inr (.inr (.inr ⟨c.toNat, n, s, by omega, by omega, by omega, ?_⟩))
    have e1 : ((c.toNat : Nat) : Int) = c := by omega
    rw [e1, h1]
  · cases h

/-- What is sealed of a record. -/
def Rec.plain (x : Rec) : List Nat :=
  x.k :: (if x.k = 1 then vEnc x.i.toNat ++ vEnc x.b.toNat else if x.k = 2 then vEnc x.f.toNat ++ x.l else if x.k = 3 then vEnc x.f.toNat ++ vEnc x.t.toNat else vEnc x.c.toNat ++ (vEnc x.n ++ vEnc x.s))

/-- A record's bytes. -/
def Rec.bytes (x : Rec) : List Nat := tEnc (x.plain ++ sumB (cSum x.plain))

theorem Rec.plain_len {x : Rec} (h : x.ok = true) : 1 ≤ x.plain.length ∧ x.plain.length ≤ 139 := by
  rcases Rec.ok_cases h with ⟨i, b, h1, h2, rfl⟩ | ⟨f, t, l, h1, h2, h3, h4, rfl⟩ | ⟨f, t, h1, h2, rfl⟩ | ⟨c, n, s, h1, h2, h3, rfl⟩
  · have e1 := vEnc_len10 (n := i) (by omega)
    have e2 := vEnc_len10 (n := b) (by omega)
    simp [Rec.plain]; omega
  · have e1 := vEnc_len10 (n := f) (by omega)
    simp [Rec.plain]; omega
  · have e1 := vEnc_len10 (n := f) (by omega)
    have e2 := vEnc_len10 (n := t) (by omega)
    simp [Rec.plain]; omega
  · have e1 := vEnc_len10 (n := c) (by omega)
    have e2 := vEnc_len10 (n := n) (by omega)
    have e3 := vEnc_len10 (n := s) (by omega)
    simp [Rec.plain]; omega

theorem Rec.plain_byte {x : Rec} (h : x.ok = true) (hl : ∀ z ∈ x.l, z < 256) : ∀ z ∈ x.plain, z < 256 := by
  rcases Rec.ok_cases h with ⟨i, b, h1, h2, rfl⟩ | ⟨f, t, l, h1, h2, h3, h4, rfl⟩ | ⟨f, t, h1, h2, rfl⟩ | ⟨c, n, s, h1, h2, h3, rfl⟩
  all_goals
    intro z hz
    simp [Rec.plain] at hz
  · rcases hz with rfl | hz | hz
    · omega
    · exact vEnc_byte _ z hz
    · exact vEnc_byte _ z hz
  · rcases hz with rfl | hz | hz
    · omega
    · exact vEnc_byte _ z hz
    · exact hl z hz
  · rcases hz with rfl | hz | hz
    · omega
    · exact vEnc_byte _ z hz
    · exact vEnc_byte _ z hz
  · rcases hz with rfl | hz | hz | hz
    · omega
    · exact vEnc_byte _ z hz
    · exact vEnc_byte _ z hz
    · exact vEnc_byte _ z hz

end Go.Proofs.Ytngnlnkkehnomaa
