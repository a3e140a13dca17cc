/- Labels: the name of a pool, what may be a label, its bytes, what bytes are read as. Plain mathematics. -/
import Derived.Test.YtkfnjekeegebaaaVBytes
import Derived.Test.YtkfnjekeegebaaaCheckOf
import Derived.Test.YtkfnjekeegebaaaVRdrBytesC
namespace Go.Proofs.Ytkfnjekeegebaaa
open Go.RowKit
set_option linter.unusedSimpArgs false

/-- Is this byte a letter, a to z? -/
def lett (c : Nat) : Bool := decide (97 ≤ c) && decide (c ≤ 122)

/-- Are these bytes the name of a pool? -/
def poolB (l : List Nat) : Bool := decide (1 ≤ l.length) && (decide (l.length ≤ 8) && l.all lett)

/-- A label: its pool's bytes, Gen, Number. -/
structure Lab where
  p : List Nat
  g : Int
  m : Int

/-- No label. -/
def lab0 : Lab := ⟨[], 0, 0⟩

/-- A label as a value, the document's too. -/
def lbV (x : Lab) : Value := .agg #[.string (strB x.p), .int .i64 x.g, .int .i64 x.m]

/-- Its pool is of bytes. -/
def Lab.fits (x : Lab) : Prop := ∀ z ∈ x.p, z < 256

/-- May a label be? -/
def Lab.ok (x : Lab) : Bool := poolB x.p && (decide (1 ≤ x.g) && (decide (x.g ≤ 1073741824) && (decide (0 ≤ x.m) && decide (x.m ≤ 1073741824))))

/-- What is sealed of a label. -/
def Lab.plain (x : Lab) : List Nat := 76 :: (tEnc x.p ++ (vEnc x.g.toNat ++ vEnc x.m.toNat))

/-- A label's block. -/
def Lab.bytes (x : Lab) : List Nat := x.plain ++ sumB (cSum x.plain)

theorem poolB_byte {l : List Nat} (h : poolB l = true) : 1 ≤ l.length ∧ l.length ≤ 8 ∧ ∀ z ∈ l, z < 256 := by
  simp only [poolB, Bool.and_eq_true, decide_eq_true_eq, List.all_eq_true, lett] at h
  exact ⟨h.1, h.2.1, fun z hz => by have := h.2.2 z hz; omega⟩

theorem Lab.ok_parts {x : Lab} (h : x.ok = true) : ∃ (p : List Nat) (g m : Nat), x = ⟨p, g, m⟩ ∧ poolB p = true ∧ 1 ≤ g ∧ g ≤ 1073741824 ∧ m ≤ 1073741824 := by
  obtain ⟨p, g, m⟩ := x
  simp only [Lab.ok, Bool.and_eq_true, decide_eq_true_eq] at h
  obtain ⟨h0, h1, h2, h3, h4⟩ := h
  refine ⟨p, g.toNat, m.toNat, ?_, h0, by omega, by omega, by omega⟩
  rw [Int.toNat_of_nonneg (by omega), Int.toNat_of_nonneg (by omega)]

theorem tEnc_len {l : List Nat} (h : l.length ≤ 8) : (tEnc l).length = l.length + 1 := by
  unfold tEnc
  rw [vEnc_small (by omega)]
  simp

theorem Lab.plain_len {x : Lab} (h : x.ok = true) : 1 ≤ x.plain.length ∧ x.plain.length ≤ 30 := by
  obtain ⟨p, g, m, rfl, hp, h1, h2, h3⟩ := Lab.ok_parts h
  obtain ⟨p1, p2, _⟩ := poolB_byte hp
  have e0 := tEnc_len p2
  have e1 := vEnc_len10 (n := g) (by omega)
  have e2 := vEnc_len10 (n := m) (by omega)
  simp [Lab.plain]
  omega

theorem Lab.plain_byte {x : Lab} (h : x.ok = true) : ∀ z ∈ x.plain, z < 256 := by
  obtain ⟨p, g, m, rfl, hp, h1, h2, h3⟩ := Lab.ok_parts h
  obtain ⟨p1, p2, p3⟩ := poolB_byte hp
  intro z hz
  simp [Lab.plain, tEnc] at hz
  rcases hz with rfl | hz | hz | hz | hz
  · omega
  · exact vEnc_byte _ z hz
  · exact p3 z hz
  · exact vEnc_byte _ z hz
  · exact vEnc_byte _ z hz

theorem Lab.bytes_len {x : Lab} (h : x.ok = true) : 5 ≤ x.bytes.length ∧ x.bytes.length ≤ 34 := by
  have := Lab.plain_len h
  simp [Lab.bytes, sumB]
  omega

theorem Lab.bytes_byte {x : Lab} (h : x.ok = true) : ∀ z ∈ x.bytes, z < 256 := by
  intro z hz
  simp only [Lab.bytes, List.mem_append] at hz
  rcases hz with hz | hz
  · exact Lab.plain_byte h z hz
  · exact sumB_byte (cSum_lt _) z hz

/-- Three readings, one behind the other: the label that the bytes behind L would be; the error then, and what is left. -/
def labRd (r : List Nat) : Lab × Nat × List Nat :=
  let A := rByt 0 r 8
  let B := rNum A.2.1 A.2.2 1073741824
  let C := rNum B.2.1 B.2.2 1073741824
  (⟨A.1, (B.1 : Nat), (C.1 : Nat)⟩, C.2.1, C.2.2)

/-- What is sealed comes to a label, or to none. -/
def labOf (l : List Nat) : Lab × Bool :=
  match l with
  | [] => (lab0, false)
  | k :: r => if k = 76 then ((labRd r).1, decide (rEnd (labRd r).2.1 (labRd r).2.2 = 0) && (labRd r).1.ok) else (lab0, false)

instance (l : List Nat) : Decidable (Sealed l) := by unfold Sealed; infer_instance

/-- The label of a block, and what is wrong. -/
def rdLab (s : List Nat) : Lab × Nat :=
  if Sealed s then (if (labOf (s.take (s.length - 4))).2 then ((labOf (s.take (s.length - 4))).1, 0) else (lab0, 3)) else (lab0, 4)

theorem rNum_enc {x most : Nat} (r : List Nat) (h : x ≤ most) (hx : x < 18446744073709551616) : rNum 0 (vEnc x ++ r) most = (x, 0, r) := by
  obtain ⟨h1, h2, h3⟩ := vRead (n := x) r hx
  rw [rNum_ok h1 (by omega), h2, h3]
  simp

theorem rNum_enc0 {x most : Nat} (h : x ≤ most) (hx : x < 18446744073709551616) : rNum 0 (vEnc x) most = (x, 0, []) := by
  have := rNum_enc (x := x) (most := most) [] h hx
  simpa using this

theorem labRd_plain {p : List Nat} {g m : Nat} (hp : p.length ≤ 8) (hg : g ≤ 1073741824) (hm : m ≤ 1073741824) : labRd (tEnc p ++ (vEnc g ++ vEnc m)) = (⟨p, g, m⟩, 0, []) := by
  have e0 : rByt 0 (tEnc p ++ (vEnc g ++ vEnc m)) 8 = (p, 0, vEnc g ++ vEnc m) := by
    have h1 := rNum_enc (x := p.length) (most := 8) (p ++ (vEnc g ++ vEnc m)) hp (by omega)
    unfold tEnc
    rw [List.append_assoc, rByt_ok h1 (by simp)]
    simp
  have e1 := rNum_enc (x := g) (most := 1073741824) (vEnc m) hg (by omega)
  have e2 := rNum_enc0 (x := m) (most := 1073741824) hm (by omega)
  simp only [labRd, e0, e1, e2]

theorem labOf_plain {x : Lab} (h : x.ok = true) : labOf x.plain = (x, true) := by
  have hx := h
  obtain ⟨p, g, m, rfl, hp, h1, h2, h3⟩ := Lab.ok_parts h
  obtain ⟨p1, p2, p3⟩ := poolB_byte hp
  have e := labRd_plain (p := p) (g := g) (m := m) p2 h2 h3
  have ep : Lab.plain ⟨p, g, m⟩ = 76 :: (tEnc p ++ (vEnc g ++ vEnc m)) := by simp [Lab.plain]
  rw [ep]
  unfold labOf
  simp only [if_true, e, hx, rEnd]
  simp

/-- A label's block is read as it. -/
theorem rdLab_bytes {x : Lab} (h : x.ok = true) : rdLab x.bytes = (x, 0) := by
  obtain ⟨l1, l2⟩ := Lab.plain_len h
  have hl := labOf_plain h
  have hZl : x.bytes.length = x.plain.length + 4 := by simp [Lab.bytes, sumB]
  have ht : x.bytes.take (x.bytes.length - 4) = x.plain := by rw [hZl]; simp [Lab.bytes]
  have hs : Sealed x.bytes := by
    refine ⟨by omega, ?_⟩
    rw [ht, hZl]
    have : x.bytes.drop (x.plain.length + 4 - 4) = sumB (cSum x.plain) := by simp [Lab.bytes]
    rw [this, numB_sumB]
  unfold rdLab
  rw [if_pos hs, ht, hl]
  rfl

theorem rByt_max (E : Nat) (l : List Nat) (most : Nat) : (rByt E l most).1.length ≤ most := by
  unfold rByt
  split
  · simp
  · split
    · simp
    · have : (rNum E l most).1 ≤ most := by
        unfold rNum
        split
        · simp
        · split
          · simp
          · split
            · simp
            · simp only; omega
      simp only [List.length_take]
      omega

theorem rByt_byte (E : Nat) (l : List Nat) (most : Nat) (h : ∀ z ∈ l, z < 256) : ∀ z ∈ (rByt E l most).1, z < 256 := by
  have hr : ∀ z ∈ (rNum E l most).2.2, z ∈ l := by
    intro z hz
    unfold rNum at hz
    split at hz
    · exact hz
    · split at hz
      · exact hz
      · split at hz
        · exact hz
        · exact List.mem_of_mem_drop hz
  unfold rByt
  split
  · simp
  · split
    · simp
    · intro z hz
      exact h z (hr z (List.mem_of_mem_take hz))

theorem labOf_fits {l : List Nat} (h : ∀ z ∈ l, z < 256) : (labOf l).1.fits := by
  unfold labOf
  split
  · intro z hz; simp [lab0] at hz
  · rename_i k r
    split
    · intro z hz
      exact rByt_byte 0 r 8 (fun y hy => h y (by simp [hy])) z hz
    · intro z hz; simp [lab0] at hz

theorem rdLab_fits {l : List Nat} (h : ∀ z ∈ l, z < 256) : (rdLab l).1.fits := by
  unfold rdLab
  split
  · split
    · exact labOf_fits fun z hz => h z (List.mem_of_mem_take hz)
    · intro z hz; simp [lab0] at hz
  · intro z hz; simp [lab0] at hz

end Go.Proofs.Ytkfnjekeegebaaa
