/- Numbers' bytes read from behind: where numbers stand at the end of bytes, they are told. Plain mathematics; no number of a seat. -/
import Derived.Test.YtaijldcfoaeogaaGreatMath
import Derived.Test.YtaijldcfoaeogaaGreatDMath
namespace Go.Proofs.YtaijldcfoaeogaaGreat

/-- Bytes that end in a small one (or are none). -/
def EndS (X : List Nat) : Prop := ∀ Z e, X = Z ++ [e] → e < 128

theorem EndS.nil : EndS [] := fun Z e h => by simp at h

theorem EndS.snoc {X : List Nat} {e : Nat} (h : e < 128) : EndS (X ++ [e]) := fun Z e' he => by
  have := List.append_inj_right' he rfl
  simp at this
  omega

/-- A number's bytes: great ones, and a small one. -/
theorem vEnc_form (n : Nat) : ∃ u e, vEnc n = u ++ [e] ∧ e < 128 ∧ ∀ z ∈ u, 128 ≤ z := by
  induction n using Nat.strongRecOn with
  | _ n ih =>
    by_cases h : n < 128
    · exact ⟨[], n, by rw [vEnc_small h]; rfl, h, by simp⟩
    · obtain ⟨u, e, h1, h2, h3⟩ := ih (n / 128) (by omega)
      refine ⟨(n % 128 + 128) :: u, e, by rw [vEnc_large h, h1]; rfl, h2, ?_⟩
      intro z hz
      rcases List.mem_cons.1 hz with rfl | hz
      · omega
      · exact h3 z hz

theorem EndS.enc (X : List Nat) (n : Nat) : EndS (X ++ vEnc n) := by
  obtain ⟨u, e, h1, h2, _⟩ := vEnc_form n
  rw [h1, ← List.append_assoc]
  exact EndS.snoc h2

theorem ends_same {X Y u v : List Nat} (hX : EndS X) (hY : EndS Y) (hu : ∀ z ∈ u, 128 ≤ z) (hv : ∀ z ∈ v, 128 ≤ z) (h : X ++ u = Y ++ v) : X = Y ∧ u = v := by
  have key : ∀ {X Y u v m : List Nat}, EndS Y → (∀ z ∈ u, 128 ≤ z) → Y = X ++ m → u = m ++ v → m = [] := by
    intro X Y u v m hY hu h1 h2
    rcases List.eq_nil_or_concat m with h | ⟨m', e, h⟩
    · exact h
    · exfalso
      rw [List.concat_eq_append] at h
      have h3 := hY (X ++ m') e (by rw [h1, h, List.append_assoc])
      have h4 := hu e (by rw [h2, h]; simp)
      omega
  rcases List.append_eq_append_iff.1 h with ⟨m, h1, h2⟩ | ⟨m, h1, h2⟩
  · have := key hY hu h1 h2
    subst this
    simp at h1 h2
    exact ⟨h1.symm, h2⟩
  · have := key hX hv h1 h2
    subst this
    simp at h1 h2
    exact ⟨h1, h2.symm⟩

/-- The number at the end of bytes. -/
theorem vEnc_tail {X Y : List Nat} {a b : Nat} (hX : EndS X) (hY : EndS Y) (h : X ++ vEnc a = Y ++ vEnc b) : X = Y ∧ vEnc a = vEnc b := by
  obtain ⟨u, e, h1, _, h3⟩ := vEnc_form a
  obtain ⟨v, f, k1, _, k3⟩ := vEnc_form b
  rw [h1, k1, ← List.append_assoc, ← List.append_assoc] at h
  have h4 := List.append_inj' h rfl
  obtain ⟨h5, h6⟩ := ends_same hX hY h3 k3 h4.1
  rw [h1, k1, h6, h4.2]
  exact ⟨h5, rfl⟩

/-- A Tail at the end of bytes stands where another one at their end stands, and is the same. -/
theorem tail_last {A B : List Nat} {n n' a b c a' b' c' : Nat} {s s' : List Nat} (hs : s.length = 4) (hs' : s'.length = 4)
    (hn : n = ((4 :: (vEnc a ++ (vEnc b ++ vEnc c))) ++ s).length) (hn' : n' = ((4 :: (vEnc a' ++ (vEnc b' ++ vEnc c'))) ++ s').length)
    (h : A ++ (vEnc n ++ ((4 :: (vEnc a ++ (vEnc b ++ vEnc c))) ++ s)) = B ++ (vEnc n' ++ ((4 :: (vEnc a' ++ (vEnc b' ++ vEnc c'))) ++ s'))) :
    A = B ∧ n = n' ∧ vEnc a = vEnc a' ∧ vEnc b = vEnc b' ∧ vEnc c = vEnc c' ∧ s = s' := by
  have e1 : A ++ (vEnc n ++ ((4 :: (vEnc a ++ (vEnc b ++ vEnc c))) ++ s)) = ((((A ++ vEnc n) ++ [4]) ++ vEnc a ++ vEnc b) ++ vEnc c) ++ s := by simp
  have e2 : B ++ (vEnc n' ++ ((4 :: (vEnc a' ++ (vEnc b' ++ vEnc c'))) ++ s')) = ((((B ++ vEnc n') ++ [4]) ++ vEnc a' ++ vEnc b') ++ vEnc c') ++ s' := by simp
  rw [e1, e2] at h
  obtain ⟨h1, h2⟩ := List.append_inj' h (by omega)
  obtain ⟨h3, h4⟩ := vEnc_tail (EndS.enc _ _) (EndS.enc _ _) h1
  obtain ⟨h5, h6⟩ := vEnc_tail (EndS.enc _ _) (EndS.enc _ _) h3
  obtain ⟨h7, h8⟩ := vEnc_tail (EndS.snoc (by omega)) (EndS.snoc (by omega)) h5
  have h9 := (List.append_inj' h7 rfl).1
  have hnn : n = n' := by
    rw [hn, hn', h2]
    simp [h4, h6, h8]
  rw [hnn] at h9
  exact ⟨List.append_cancel_right h9, hnn, h8, h6, h4, h2⟩

end Go.Proofs.YtaijldcfoaeogaaGreat

/- A row of bytes in which one byte is another one has another digest. Plain mathematics; no number of a seat. -/
namespace Go.Proofs.YtaijldcfoaeogaaGreat

theorem mod_cut {a b c : Nat} (h : (a + c + 1) % 2305843009213693951 = (b + c + 1) % 2305843009213693951) : a % 2305843009213693951 = b % 2305843009213693951 := by omega

theorem mod_byte {a c d : Nat} (hc : c < 256) (hd : d < 256) (h : (a + c + 1) % 2305843009213693951 = (a + d + 1) % 2305843009213693951) : c = d := by omega

/-- Base times its inverse. -/
theorem base_back (s : Nat) (hs : s < 2305843009213693951) : s * 1000003 * 1229363429801019168 % 2305843009213693951 = s := by
  have e : s * 1000003 * 1229363429801019168 = s + 2305843009213693951 * (s * 533153) := by
    rw [Nat.mul_assoc, show 1000003 * 1229363429801019168 = 1 + 2305843009213693951 * 533153 from rfl, Nat.mul_add, Nat.mul_one, Nat.mul_left_comm]
  rw [e, Nat.add_mul_mod_self_left, Nat.mod_eq_of_lt hs]

theorem dStep_inj {s t c : Nat} (hs : s < 2305843009213693951) (ht : t < 2305843009213693951) (h : dStep s c = dStep t c) : s = t := by
  unfold dStep at h
  have h1 : s * 1000003 % 2305843009213693951 = t * 1000003 % 2305843009213693951 := by
    exact mod_cut h
  have h2 : s * 1000003 * 1229363429801019168 % 2305843009213693951 = t * 1000003 * 1229363429801019168 % 2305843009213693951 := by rw [Nat.mul_mod, h1, ← Nat.mul_mod]
  rwa [base_back s hs, base_back t ht] at h2

theorem dStep_byte {s c d : Nat} (hc : c < 256) (hd : d < 256) (h : dStep s c = dStep s d) : c = d := by
  unfold dStep at h
  exact mod_byte hc hd h

theorem dFrom_inj (l : List Nat) : ∀ {s t : Nat}, s < 2305843009213693951 → t < 2305843009213693951 → dFrom s l = dFrom t l → s = t := by
  induction l with
  | nil => intro s t _ _ h; exact h
  | cons c r ih =>
    intro s t hs ht h
    exact dStep_inj hs ht (ih (dStep_lt s c) (dStep_lt t c) h)

/-- One byte is another one. -/
theorem dSum_one {p r : List Nat} {c d : Nat} (hc : c < 256) (hd : d < 256) (h : dSum (p ++ c :: r) = dSum (p ++ d :: r)) : c = d := by
  unfold dSum at h
  rw [dFrom_append, dFrom_append] at h
  exact dStep_byte hc hd (dFrom_inj r (dStep_lt _ c) (dStep_lt _ d) h)

end Go.Proofs.YtaijldcfoaeogaaGreat
