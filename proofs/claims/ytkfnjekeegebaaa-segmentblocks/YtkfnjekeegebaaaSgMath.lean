/- A segment's blocks: what may be one, its bytes, what bytes are read as; the document's reading too. Plain mathematics, and how a block lies in memory. -/
import Derived.Test.YtkfnjekeegebaaaLbMath
namespace Go.Proofs.Ytkfnjekeegebaaa
open Go.RowKit
set_option linter.unusedSimpArgs false

/-- A segment's block: a head, an end, or data. -/
inductive Sg where
  | head (a b c d e : Int)
  | tail (a b c d : Int) (z : Bool)
  | data (l : List Nat)

/-- Its five numbers. -/
structure N5 where
  n0 : Int
  n1 : Int
  n2 : Int
  n3 : Int
  n4 : Int

def N5.zero : N5 := ⟨0, 0, 0, 0, 0⟩

/-- May this be a number of a block? -/
def numOk (n : Int) : Bool := decide (0 ≤ n) && decide (n ≤ 1073741824)

def N5.ok (x : N5) : Bool := numOk x.n0 && (numOk x.n1 && (numOk x.n2 && (numOk x.n3 && numOk x.n4)))

/-- The numbers' bytes. -/
def N5.enc (x : N5) : List Nat := vEnc x.n0.toNat ++ (vEnc x.n1.toNat ++ (vEnc x.n2.toNat ++ (vEnc x.n3.toNat ++ vEnc x.n4.toNat)))

/-- The array of the numbers, as a value. -/
def N5.val (x : N5) : Value := .agg #[.int .i64 x.n0, .int .i64 x.n1, .int .i64 x.n2, .int .i64 x.n3, .int .i64 x.n4]

def bit (z : Bool) : Int := if z then 1 else 0

def Sg.kind : Sg → Nat
  | .head .. => 72
  | .tail .. => 84
  | .data _ => 68

def Sg.nums : Sg → N5
  | .head a b c d e => ⟨a, b, c, d, e⟩
  | .tail a b c d z => ⟨a, b, c, d, bit z⟩
  | .data _ => N5.zero

def Sg.text : Sg → List Nat
  | .data l => l
  | _ => []

/-- May a block be? -/
def Sg.ok : Sg → Bool
  | .data l => decide (1 ≤ l.length) && decide (l.length ≤ 160)
  | x => x.nums.ok

/-- What is sealed of a block. -/
def Sg.plain : Sg → List Nat
  | .data l => 68 :: l
  | x => x.kind :: x.nums.enc

/-- A block's bytes. -/
def Sg.bytes (x : Sg) : List Nat := x.plain ++ sumB (cSum x.plain)

/-- A value that is a block; or none. -/
def SgV (w : World) (v : Value) : Option Sg → Prop
  | none => v = .nilIface
  | some (.head a b c d e) => v = .iface 23 (.agg #[.int .i64 a, .int .i64 b, .int .i64 c, .int .i64 d, .int .i64 e])
  | some (.tail a b c d z) => v = .iface 25 (.agg #[.int .i64 a, .int .i64 b, .int .i64 c, .int .i64 d, .bool z])
  | some (.data l) => ∃ a n c, v = .iface 32 (.slice a n c) ∧ Rd w a n l ∧ n ≤ c

theorem SgV.later {w w' : World} {v : Value} {x : Option Sg} (h : SgV w v x) (hb : Below w.heap.size w w') : SgV w' v x := by
  rcases x with _ | ⟨⟩ | ⟨⟩ | ⟨l⟩
  · exact h
  · exact h
  · exact h
  · obtain ⟨a, n, c, rfl, hr, hc⟩ := h
    exact ⟨a, n, c, rfl, hr.later hb, hc⟩

/-- The document's block, as a value. -/
def blV (k : Nat) (x : N5) (s : ByteArray) : Value := .agg #[.int .u8 (k : Int), .int .i64 x.n0, .int .i64 x.n1, .int .i64 x.n2, .int .i64 x.n3, .int .i64 x.n4, .string s]

def docV : Option Sg → Value
  | none => blV 0 N5.zero ⟨#[]⟩
  | some x => blV x.kind x.nums (strB x.text)

theorem numOk_nat {n : Int} (h : numOk n = true) : ∃ k : Nat, n = (k : Int) ∧ k ≤ 1073741824 := by
  simp only [numOk, Bool.and_eq_true, decide_eq_true_eq] at h
  exact ⟨n.toNat, by omega, by omega⟩

theorem N5.ok_nat {x : N5} (h : x.ok = true) : ∃ a b c d e : Nat, x = ⟨a, b, c, d, e⟩ ∧ a ≤ 1073741824 ∧ b ≤ 1073741824 ∧ c ≤ 1073741824 ∧ d ≤ 1073741824 ∧ e ≤ 1073741824 := by
  obtain ⟨n0, n1, n2, n3, n4⟩ := x
  simp only [N5.ok, Bool.and_eq_true] at h
  obtain ⟨h0, h1, h2, h3, h4⟩ := h
  obtain ⟨a, rfl, ha⟩ := numOk_nat h0
  obtain ⟨b, rfl, hb⟩ := numOk_nat h1
  obtain ⟨c, rfl, hc⟩ := numOk_nat h2
  obtain ⟨d, rfl, hd⟩ := numOk_nat h3
  obtain ⟨e, rfl, he⟩ := numOk_nat h4
  exact ⟨a, b, c, d, e, rfl, ha, hb, hc, hd, he⟩

theorem N5.enc_len {x : N5} (h : x.ok = true) : x.enc.length ≤ 50 := by
  obtain ⟨a, b, c, d, e, rfl, ha, hb, hc, hd, he⟩ := N5.ok_nat h
  have e0 := vEnc_len10 (n := a) (by omega)
  have e1 := vEnc_len10 (n := b) (by omega)
  have e2 := vEnc_len10 (n := c) (by omega)
  have e3 := vEnc_len10 (n := d) (by omega)
  have e4 := vEnc_len10 (n := e) (by omega)
  simp [N5.enc]
  omega

theorem N5.enc_byte (x : N5) : ∀ z ∈ x.enc, z < 256 := by
  intro z hz
  simp only [N5.enc, List.mem_append] at hz
  rcases hz with hz | hz | hz | hz | hz
  all_goals exact vEnc_byte _ z hz

theorem Sg.plain_len {x : Sg} (h : x.ok = true) : 1 ≤ x.plain.length ∧ x.plain.length ≤ 161 := by
  rcases x with ⟨⟩ | ⟨⟩ | ⟨l⟩
  · have := N5.enc_len h
    simp [Sg.plain]; omega
  · have := N5.enc_len h
    simp [Sg.plain]; omega
  · simp [Sg.ok] at h
    simp [Sg.plain]; omega

theorem Sg.plain_byte {x : Sg} (h : ∀ z ∈ x.text, z < 256) : ∀ z ∈ x.plain, z < 256 := by
  rcases x with ⟨⟩ | ⟨⟩ | ⟨l⟩
  · intro z hz
    simp only [Sg.plain, Sg.kind, List.mem_cons] at hz
    rcases hz with rfl | hz
    · omega
    · exact N5.enc_byte _ z hz
  · intro z hz
    simp only [Sg.plain, Sg.kind, List.mem_cons] at hz
    rcases hz with rfl | hz
    · omega
    · exact N5.enc_byte _ z hz
  · intro z hz
    simp only [Sg.plain, List.mem_cons] at hz
    rcases hz with rfl | hz
    · omega
    · exact h z hz

theorem Sg.bytes_len (x : Sg) : x.bytes.length = x.plain.length + 4 := by simp [Sg.bytes, sumB]

/-- Five readings, one behind the other, the last one's bound m; the error then, and what is left. -/
def rd5 (m : Nat) (r : List Nat) : N5 × Nat × List Nat :=
  let A := rNum 0 r 1073741824
  let B := rNum A.2.1 A.2.2 1073741824
  let C := rNum B.2.1 B.2.2 1073741824
  let D := rNum C.2.1 C.2.2 1073741824
  let E := rNum D.2.1 D.2.2 m
  (⟨(A.1 : Nat), (B.1 : Nat), (C.1 : Nat), (D.1 : Nat), (E.1 : Nat)⟩, E.2.1, E.2.2)

def hdOf (r : List Nat) : Option Sg :=
  let R := rd5 1073741824 r
  if rEnd R.2.1 R.2.2 = 0 then some (.head R.1.n0 R.1.n1 R.1.n2 R.1.n3 R.1.n4) else none

def tlOf (r : List Nat) : Option Sg :=
  let R := rd5 1 r
  if rEnd R.2.1 R.2.2 = 0 then some (.tail R.1.n0 R.1.n1 R.1.n2 R.1.n3 (R.1.n4 == 1)) else none

def dtOf (r : List Nat) : Option Sg := if 1 ≤ r.length ∧ r.length ≤ 160 then some (.data r) else none

/-- What is sealed comes to a block, or to none. -/
def sgOf : List Nat → Option Sg
  | [] => none
  | k :: r => if k = 72 then hdOf r else if k = 84 then tlOf r else if k = 68 then dtOf r else none

/-- The block of bytes, and what is wrong. -/
def rdSg (s : List Nat) : Option Sg × Nat :=
  if Sealed s then (match sgOf (s.take (s.length - 4)) with | some x => (some x, 0) | none => (none, 3)) else (none, 4)

theorem rd5_enc {a b c d e m : Nat} (ha : a ≤ 1073741824) (hb : b ≤ 1073741824) (hc : c ≤ 1073741824) (hd : d ≤ 1073741824) (he : e ≤ m) (hm : m ≤ 1073741824) :
    rd5 m (N5.enc ⟨a, b, c, d, e⟩) = (⟨a, b, c, d, e⟩, 0, []) := by
  have e0 := rNum_enc (x := a) (most := 1073741824) (vEnc b ++ (vEnc c ++ (vEnc d ++ vEnc e))) ha (by omega)
  have e1 := rNum_enc (x := b) (most := 1073741824) (vEnc c ++ (vEnc d ++ vEnc e)) hb (by omega)
  have e2 := rNum_enc (x := c) (most := 1073741824) (vEnc d ++ vEnc e) hc (by omega)
  have e3 := rNum_enc (x := d) (most := 1073741824) (vEnc e) hd (by omega)
  have e4 := rNum_enc0 (x := e) (most := m) he (by omega)
  simp only [rd5, N5.enc, Int.toNat_natCast, e0, e1, e2, e3, e4]

theorem sgOf_plain {x : Sg} (h : x.ok = true) : sgOf x.plain = some x := by
  rcases x with ⟨a, b, c, d, e⟩ | ⟨a, b, c, d, z⟩ | ⟨l⟩
  · obtain ⟨a', b', c', d', e', he, ha, hb, hc, hd, h5⟩ := N5.ok_nat h
    simp only [Sg.nums, N5.mk.injEq] at he
    obtain ⟨rfl, rfl, rfl, rfl, rfl⟩ := he
    have := rd5_enc ha hb hc hd h5 (Nat.le_refl _)
    simp only [Sg.plain, Sg.kind, Sg.nums, sgOf, hdOf, if_true, this, rEnd]
    simp
  · obtain ⟨a', b', c', d', e', he, ha, hb, hc, hd, h5⟩ := N5.ok_nat h
    simp only [Sg.nums, N5.mk.injEq] at he
    obtain ⟨rfl, rfl, rfl, rfl, hz⟩ := he
    have h1 : e' ≤ 1 := by cases z <;> simp [bit] at hz <;> omega
    have := rd5_enc ha hb hc hd h1 (by omega)
    have hz2 : ((e' : Int) == 1) = z := by rw [← hz]; cases z <;> rfl
    simp only [Sg.plain, Sg.kind, Sg.nums, sgOf, tlOf, if_true, hz, this, rEnd]
    simp [hz2]
  · simp only [Sg.ok, Bool.and_eq_true, decide_eq_true_eq] at h
    simp [Sg.plain, sgOf, dtOf, h]

/-- A block's bytes are read as it. -/
theorem rdSg_bytes {x : Sg} (h : x.ok = true) : rdSg x.bytes = (some x, 0) := by
  obtain ⟨l1, l2⟩ := Sg.plain_len h
  have hl := sgOf_plain h
  have hZl : x.bytes.length = x.plain.length + 4 := Sg.bytes_len x
  have ht : x.bytes.take (x.bytes.length - 4) = x.plain := by rw [hZl]; simp [Sg.bytes]
  have hs : Sealed x.bytes := by
    refine ⟨by omega, ?_⟩
    rw [ht, hZl]
    have : x.bytes.drop (x.plain.length + 4 - 4) = sumB (cSum x.plain) := by simp [Sg.bytes]
    rw [this, numB_sumB]
  unfold rdSg
  rw [if_pos hs, ht, hl]

instance : DecidableEq N5 := fun x y => by
  obtain ⟨a, b, c, d, e⟩ := x
  obtain ⟨a', b', c', d', e'⟩ := y
  rw [N5.mk.injEq]
  infer_instance

/-- The document's block: its first byte, its numbers, its bytes; may it be? -/
def docOk (k : Nat) (x : N5) (t : List Nat) : Bool :=
  x.ok && (if k = 72 ∨ k = 84 then decide (t = []) else if k = 68 then (decide (x = N5.zero) && (decide (1 ≤ t.length) && decide (t.length ≤ 160))) else false)

/-- What the document reads of what is sealed. -/
def docOf : List Nat → Option (Nat × N5 × List Nat)
  | [] => none
  | k :: r => if k = 68 then (if 1 ≤ r.length ∧ r.length ≤ 160 then some (68, N5.zero, r) else none)
    else if k = 72 ∨ k = 84 then (if rEnd (rd5 1073741824 r).2.1 (rd5 1073741824 r).2.2 = 0 then some (k, (rd5 1073741824 r).1, []) else none) else none

/-- The document's reading, and its error. -/
def docRd (s : List Nat) : (Nat × N5 × List Nat) × Nat :=
  if Sealed s then (match docOf (s.take (s.length - 4)) with | some y => (y, 0) | none => ((0, N5.zero, []), 3)) else ((0, N5.zero, []), 4)

theorem rNum_two (E : Nat) (l : List Nat) : (rNum E l 1 = rNum E l 1073741824 ∧ (rNum E l 1).1 ≤ 1) ∨ ((rNum E l 1).2.1 = 5 ∧ 1 < (rNum E l 1073741824).1) ∨ ((rNum E l 1).2.1 = 5 ∧ (rNum E l 1073741824).2.1 = 5) := by
  by_cases hE : E = 0
  · subst hE
    by_cases he : vErr l = 0
    · by_cases h1 : 1 < vNum l
      · by_cases h2 : 1073741824 < vNum l
        · right; right
          rw [rNum_long he h1, rNum_long he h2]
          exact ⟨rfl, rfl⟩
        · right; left
          rw [rNum_long he h1, rNum_ok he h2]
          exact ⟨rfl, h1⟩
      · left
        rw [rNum_ok he h1, rNum_ok he (by omega)]
        exact ⟨rfl, by simp only; omega⟩
    · left
      rw [rNum_err he, rNum_err he]
      exact ⟨rfl, by simp⟩
  · left
    rw [rNum_failed hE, rNum_failed hE]
    exact ⟨rfl, by simp⟩

theorem rd5_two (r : List Nat) : (rd5 1 r = rd5 1073741824 r ∧ ((rd5 1 r).1.n4 = 0 ∨ (rd5 1 r).1.n4 = 1)) ∨ ((rd5 1 r).2.1 = 5 ∧ 1 < (rd5 1073741824 r).1.n4) ∨ ((rd5 1 r).2.1 = 5 ∧ (rd5 1073741824 r).2.1 = 5) := by
  unfold rd5
  simp only
  generalize rNum 0 r 1073741824 = A
  generalize rNum A.2.1 A.2.2 1073741824 = B
  generalize rNum B.2.1 B.2.2 1073741824 = C
  generalize rNum C.2.1 C.2.2 1073741824 = D
  rcases rNum_two D.2.1 D.2.2 with ⟨h1, h2⟩ | ⟨h1, h2⟩ | ⟨h1, h2⟩
  · left
    refine ⟨by rw [h1], ?_⟩
    omega
  · right; left
    exact ⟨h1, by omega⟩
  · right; right
    exact ⟨h1, h2⟩

/-- Where the document's reading and the program's agree, and where they don't. -/
theorem doc_same (l : List Nat) : (∃ n : N5, docOf l = some (84, n, []) ∧ 1 < n.n4 ∧ sgOf l = none) ∨ (docOf l = none ∧ sgOf l = none) ∨
    ∃ x, sgOf l = some x ∧ docOf l = some (x.kind, x.nums, x.text) ∧ ¬ (x.kind = 84 ∧ 1 < x.nums.n4) := by
  cases l with
  | nil => exact .inr (.inl ⟨rfl, rfl⟩)
  | cons k r =>
    by_cases h68 : k = 68
    · subst h68
      by_cases hl : 1 ≤ r.length ∧ r.length ≤ 160
      · exact .inr (.inr ⟨.data r, by simp [sgOf, dtOf, hl], by simp [docOf, hl, Sg.kind, Sg.nums, Sg.text], by simp [Sg.kind]⟩)
      · exact .inr (.inl ⟨by simp only [docOf, if_true, if_neg hl], by simp [sgOf, dtOf]; omega⟩)
    · by_cases h72 : k = 72
      · subst h72
        by_cases hz : rEnd (rd5 1073741824 r).2.1 (rd5 1073741824 r).2.2 = 0
        · refine .inr (.inr ⟨.head (rd5 1073741824 r).1.n0 (rd5 1073741824 r).1.n1 (rd5 1073741824 r).1.n2 (rd5 1073741824 r).1.n3 (rd5 1073741824 r).1.n4, by simp [sgOf, hdOf, hz], ?_, by simp [Sg.kind]⟩)
          simp [docOf, hz, Sg.kind, Sg.nums, Sg.text]
        · exact .inr (.inl ⟨by simp [docOf, hz], by simp [sgOf, hdOf, hz]⟩)
      · by_cases h84 : k = 84
        · subst h84
          rcases rd5_two r with ⟨h1, h2⟩ | ⟨h1, h2⟩ | ⟨h1, h2⟩
          · by_cases hz : rEnd (rd5 1073741824 r).2.1 (rd5 1073741824 r).2.2 = 0
            · rw [h1] at h2
              refine .inr (.inr ⟨.tail (rd5 1073741824 r).1.n0 (rd5 1073741824 r).1.n1 (rd5 1073741824 r).1.n2 (rd5 1073741824 r).1.n3 ((rd5 1073741824 r).1.n4 == 1), by simp [sgOf, tlOf, h1, hz], ?_, ?_⟩)
              · have : bit ((rd5 1073741824 r).1.n4 == 1) = (rd5 1073741824 r).1.n4 := by rcases h2 with h2 | h2 <;> rw [h2] <;> rfl
                simp [docOf, hz, Sg.kind, Sg.nums, Sg.text, this]
              · have : bit ((rd5 1073741824 r).1.n4 == 1) ≤ 1 := by rcases h2 with h2 | h2 <;> rw [h2] <;> decide
                simp [Sg.kind, Sg.nums]
                omega
            · exact .inr (.inl ⟨by simp [docOf, hz], by simp [sgOf, tlOf, h1, hz]⟩)
          · have hn : sgOf (84 :: r) = none := by simp [sgOf, tlOf, h1, rEnd]
            by_cases hz : rEnd (rd5 1073741824 r).2.1 (rd5 1073741824 r).2.2 = 0
            · exact .inl ⟨_, by simp [docOf, hz], h2, hn⟩
            · exact .inr (.inl ⟨by simp [docOf, hz], hn⟩)
          · exact .inr (.inl ⟨by simp [docOf, h2, rEnd], by simp [sgOf, tlOf, h1, rEnd]⟩)
        · exact .inr (.inl ⟨by simp [docOf, h68, h72, h84], by simp [sgOf, h68, h72, h84]⟩)

def N5.list (x : N5) : List Int := [x.n0, x.n1, x.n2, x.n3, x.n4]

theorem list_at (x : N5) {j : Nat} (hj : j < 5) : x.list.take (j + 1) = x.list.take j ++ [x.list.getD j 0] := by
  rcases (by omega : j = 0 ∨ j = 1 ∨ j = 2 ∨ j = 3 ∨ j = 4) with rfl | rfl | rfl | rfl | rfl <;> rfl

theorem ok_all (x : N5) : x.list.all numOk = x.ok := by simp [N5.list, N5.ok]

end Go.Proofs.Ytkfnjekeegebaaa
