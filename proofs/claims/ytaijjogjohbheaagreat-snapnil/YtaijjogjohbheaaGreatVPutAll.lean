
import Derived.Test.YtaijjogjohbheaaGreatClone
/- The plain mathematics of varints, over lists of naturals: a number's row of bytes, what a row of bytes begins with, and that the two undo each other. No condition. -/
namespace Go.Proofs.YtaijjogjohbheaaGreat

/-- A number's bytes. -/
def vEnc (n : Nat) : List Nat := if n < 128 then [n] else (n % 128 + 128) :: vEnc (n / 128)
termination_by n
decreasing_by omega

theorem vEnc_small {n : Nat} (h : n < 128) : vEnc n = [n] := by rw [vEnc, if_pos h]
theorem vEnc_large {n : Nat} (h : ¬ n < 128) : vEnc n = (n % 128 + 128) :: vEnc (n / 128) := by rw [vEnc, if_neg h]

/-- The value of digits, the least one first. -/
def vVal : List Nat → Nat
  | [] => 0
  | c :: r => c % 128 + 128 * vVal r

/-- May the byte c not stand at place i? -/
def vBad (i c : Nat) : Bool := (i == 9 && decide (1 < c)) || (decide (0 < i) && c == 0)

/-- From place i on: how many bytes the number has, and the error. -/
def vScan : List Nat → Nat → Nat × Nat
  | [], _ => (0, 2)
  | c :: r, i => if vBad i c = true then (0, 3) else if c < 128 then (i + 1, 0) else vScan r (i + 1)

def vLen (l : List Nat) : Nat := (vScan l 0).1
def vErr (l : List Nat) : Nat := (vScan l 0).2
/-- The number with which bytes begin; 0 where there is none. -/
def vNum (l : List Nat) : Nat := vVal (l.take (vLen l))

theorem vVal_append (a b : List Nat) : vVal (a ++ b) = vVal a + 128 ^ a.length * vVal b := by
  induction a with
  | nil => simp [vVal]
  | cons c r ih =>
    simp only [List.cons_append, vVal, ih, List.length_cons, Nat.pow_succ, Nat.mul_add]
    rw [Nat.mul_assoc (128 ^ r.length), Nat.mul_left_comm, Nat.add_assoc]

theorem vVal_snoc (a : List Nat) (c : Nat) : vVal (a ++ [c]) = vVal a + 128 ^ a.length * (c % 128) := by
  rw [vVal_append]; simp [vVal]

theorem vVal_lt (a : List Nat) : vVal a < 128 ^ a.length := by
  induction a with
  | nil => simp [vVal]
  | cons c r ih =>
    simp only [vVal, List.length_cons, Nat.pow_succ]
    have := Nat.mod_lt c (show 0 < 128 by omega)
    omega

theorem vVal_drop_le (a : List Nat) (k : Nat) : vVal (a.drop k) ≤ vVal a := by
  induction a generalizing k with
  | nil => simp
  | cons c r ih =>
    cases k with
    | zero => simp
    | succ k =>
      simp only [List.drop_succ_cons, vVal]
      have := ih k
      omega

/-- What a step of the scan says. -/
theorem vScan_bad {c i : Nat} {r : List Nat} (h : vBad i c = true) : vScan (c :: r) i = (0, 3) := by simp [vScan, h]
theorem vScan_last {c i : Nat} {r : List Nat} (h : vBad i c = false) (hc : c < 128) : vScan (c :: r) i = (i + 1, 0) := by simp [vScan, h, hc]
theorem vScan_more {c i : Nat} {r : List Nat} (h : vBad i c = false) (hc : ¬ c < 128) : vScan (c :: r) i = vScan r (i + 1) := by simp [vScan, h, hc]

theorem vBad_nine {c : Nat} (h : vBad 9 c = false) : c = 1 := by
  simp [vBad] at h; omega

/-- A scan that goes well: what it passed. -/
theorem vScan_ok (l : List Nat) (i : Nat) (hi : i ≤ 9) (h : (vScan l i).2 = 0) :
    ∃ k, k < l.length ∧ (vScan l i).1 = i + k + 1 ∧ i + k ≤ 9 ∧ (∀ j, j < k → 128 ≤ l.getD j 0) ∧ l.getD k 0 < 128 ∧ vBad (i + k) (l.getD k 0) = false := by
  induction l generalizing i with
  | nil => simp [vScan] at h
  | cons c r ih =>
    by_cases hb : vBad i c = true
    · rw [vScan_bad hb] at h; simp at h
    · have hb' : vBad i c = false := by simpa using hb
      by_cases hc : c < 128
      · refine ⟨0, by simp, by rw [vScan_last hb' hc], by omega, by omega, by simpa using hc, by simpa using hb'⟩
      · have h9 : i ≠ 9 := by
          rintro rfl
          have := vBad_nine hb'
          omega
        rw [vScan_more hb' hc] at h ⊢
        obtain ⟨k, h1, h2, h3, h4, h5, h6⟩ := ih (i + 1) (by omega) h
        refine ⟨k + 1, by simpa using h1, by omega, by omega, ?_, by simpa using h5, ?_⟩
        · intro j hj
          cases j with
          | zero => simp; omega
          | succ j => simpa using h4 j (by omega)
        · have : i + (k + 1) = i + 1 + k := by omega
          rw [this]; simpa using h6

theorem vScan_err (l : List Nat) (i : Nat) (h : (vScan l i).2 ≠ 0) : (vScan l i).1 = 0 := by
  induction l generalizing i with
  | nil => simp [vScan]
  | cons c r ih =>
    by_cases hb : vBad i c = true
    · rw [vScan_bad hb]
    · have hb' : vBad i c = false := by simpa using hb
      by_cases hc : c < 128
      · rw [vScan_last hb' hc] at h; simp at h
      · rw [vScan_more hb' hc] at h ⊢; exact ih _ h

theorem vErr_cases (l : List Nat) (i : Nat) : (vScan l i).2 = 0 ∨ (vScan l i).2 = 2 ∨ (vScan l i).2 = 3 := by
  induction l generalizing i with
  | nil => simp [vScan]
  | cons c r ih =>
    by_cases hb : vBad i c = true
    · rw [vScan_bad hb]; simp
    · have hb' : vBad i c = false := by simpa using hb
      by_cases hc : c < 128
      · rw [vScan_last hb' hc]; simp
      · rw [vScan_more hb' hc]; exact ih _

theorem vNum_err {l : List Nat} (h : vErr l ≠ 0) : vLen l = 0 ∧ vNum l = 0 := by
  have := vScan_err l 0 h
  refine ⟨this, ?_⟩
  unfold vNum vLen
  rw [this]; simp [vVal]

/-- Digits all of which but the last have 128 added, the last one not 0 unless it is the only one: they are a number's own bytes. -/
theorem vEnc_of (k : Nat) : ∀ (l : List Nat), k < l.length → (∀ j, j < l.length → l.getD j 0 < 256) → (∀ j, j < k → 128 ≤ l.getD j 0) → l.getD k 0 < 128 → (0 < k → 0 < l.getD k 0) → vEnc (vVal (l.take (k + 1))) = l.take (k + 1) := by
  induction k with
  | zero =>
    intro l hl _ _ h2 _
    match l, hl with
    | c :: r, _ =>
      simp only [List.getD_cons_zero] at h2
      simp only [List.take_succ_cons, List.take_zero, vVal]
      rw [vEnc_small (by omega)]
      congr 1; omega
  | succ k ih =>
    intro l hl hb h1 h2 h3
    match l, hl with
    | c :: r, hl =>
      have hc := h1 0 (by omega)
      have hc2 := hb 0 (by simp)
      simp only [List.getD_cons_zero] at hc hc2
      have hr := ih r (by simpa using hl) (fun j hj => by have := hb (j + 1) (by simpa using hj); simpa using this) (fun j hj => by have := h1 (j + 1) (by omega); simpa using this)
        (by simpa using h2) (fun _ => by have := h3 (by omega); simpa using this)
      have hpos : 0 < vVal (r.take (k + 1)) := by
        have hk : k < r.length := by simpa using hl
        rw [List.take_succ_eq_append_getElem hk, vVal_snoc]
        have e : r.getD k 0 = r[k] := by simp [List.getD, hk]
        have h3' := h3 (by omega)
        have h2' := h2
        simp only [List.getD_cons_succ] at h3' h2'
        rw [e] at h3' h2'
        have : 0 < 128 ^ (r.take k).length * (r[k] % 128) := Nat.mul_pos (Nat.pow_pos (by omega)) (by omega)
        omega
      simp only [List.take_succ_cons, vVal]
      rw [vEnc_large (by omega)]
      have e1 : (c % 128 + 128 * vVal (r.take (k + 1))) % 128 + 128 = c := by omega
      have e2 : (c % 128 + 128 * vVal (r.take (k + 1))) / 128 = vVal (r.take (k + 1)) := by omega
      rw [e1, e2, hr]

/-- A number that is read is put as it was. -/
theorem vOne {l : List Nat} (hb : ∀ x ∈ l, x < 256) (h : vErr l = 0) : vEnc (vNum l) = l.take (vLen l) ∧ 0 < vLen l ∧ vLen l ≤ 10 ∧ vLen l ≤ l.length ∧ vNum l < 18446744073709551616 := by
  obtain ⟨k, h1, h2, h3, h4, h5, h6⟩ := vScan_ok l 0 (by omega) h
  have hl : vLen l = k + 1 := by show (vScan l 0).1 = k + 1; omega
  have hz : 0 + k = k := by omega
  rw [hz] at h6 h3
  refine ⟨?_, by omega, by omega, by omega, ?_⟩
  · unfold vNum
    rw [hl]
    refine vEnc_of k l h1 (fun j hj => hb _ (by simp [List.getD, hj])) h4 h5 fun hk => ?_
    rcases Nat.eq_zero_or_pos (l.getD k 0) with h0 | h0
    · rw [h0] at h6; simp [vBad, hk] at h6
    · exact h0
  · unfold vNum
    rw [hl, List.take_succ_eq_append_getElem h1, vVal_snoc]
    have hv := vVal_lt (l.take k)
    have hlen : (l.take k).length = k := by simp; omega
    rw [hlen] at hv ⊢
    have e : l.getD k 0 = l[k] := by simp [List.getD, h1]
    rw [e] at h5 h6
    by_cases h9 : k = 9
    · subst h9
      have := vBad_nine h6
      rw [this]
      omega
    · have : 128 ^ k ≤ 128 ^ 8 := Nat.pow_le_pow_right (by omega) (by omega)
      have h7 : l[k] % 128 ≤ 127 := by omega
      have := Nat.mul_le_mul (Nat.le_refl (128 ^ k)) h7
      omega

/-! ### What is put is read -/
theorem vEnc_pos (n : Nat) : 0 < (vEnc n).length := by
  by_cases h : n < 128
  · rw [vEnc_small h]; simp
  · rw [vEnc_large h]; simp

theorem vEnc_byte (n : Nat) : ∀ x ∈ vEnc n, x < 256 := by
  induction n using Nat.strongRecOn with
  | _ n ih =>
    by_cases h : n < 128
    · rw [vEnc_small h]; simp; omega
    · rw [vEnc_large h]
      intro x hx
      simp only [List.mem_cons] at hx
      rcases hx with rfl | hx
      · omega
      · exact ih (n / 128) (by omega) x hx

theorem vEnc_len (m : Nat) : ∀ n, n < 128 ^ (m + 1) → (vEnc n).length ≤ m + 1 := by
  induction m with
  | zero => intro n h; rw [vEnc_small (by omega)]; simp
  | succ m ih =>
    intro n h
    by_cases h1 : n < 128
    · rw [vEnc_small h1]; simp
    · rw [vEnc_large h1]
      have := ih (n / 128) (by rw [Nat.pow_succ] at h; omega)
      simp; omega

theorem vEnc_len10 {n : Nat} (h : n < 18446744073709551616) : (vEnc n).length ≤ 10 := vEnc_len 9 n (by omega)

/-- The scan of a number's own bytes, from place i on. -/
theorem vScan_vEnc (m : Nat) : ∀ (n i : Nat) (r : List Nat), i + m = 9 → n < 128 ^ m * 2 → (0 < i → 0 < n) → vScan (vEnc n ++ r) i = (i + (vEnc n).length, 0) ∧ vVal (vEnc n) = n := by
  induction m with
  | zero =>
    intro n i r hi hn hp
    have h1 : n < 2 := by omega
    rw [vEnc_small (by omega)]
    have h0 := hp (by omega)
    refine ⟨?_, by simp [vVal]; omega⟩
    have : n = 1 := by omega
    subst this
    have : i = 9 := by omega
    subst this
    rfl
  | succ m ih =>
    intro n i r hi hn hp
    by_cases h1 : n < 128
    · rw [vEnc_small h1]
      refine ⟨?_, by simp [vVal]; omega⟩
      simp only [List.cons_append, List.nil_append, List.length_cons, List.length_nil]
      refine vScan_last ?_ h1
      have : i ≠ 9 := by omega
      simp only [vBad, Bool.or_eq_false_iff, Bool.and_eq_false_iff]
      refine ⟨.inl (by simpa using this), ?_⟩
      rcases Nat.eq_zero_or_pos i with h | h
      · left; simp [h]
      · right; have := hp h; simp; omega
    · rw [vEnc_large h1]
      obtain ⟨e1, e2⟩ := ih (n / 128) (i + 1) r (by omega) (by rw [Nat.pow_succ] at hn; omega) (fun _ => by omega)
      constructor
      · simp only [List.cons_append, List.length_cons]
        rw [vScan_more (by simp [vBad]; omega) (by omega), e1]
        congr 1; omega
      · simp only [vVal, e2]; omega

theorem vRead {n : Nat} (r : List Nat) (hn : n < 18446744073709551616) : vErr (vEnc n ++ r) = 0 ∧ vLen (vEnc n ++ r) = (vEnc n).length ∧ vNum (vEnc n ++ r) = n := by
  obtain ⟨e1, e2⟩ := vScan_vEnc 9 n 0 r (by omega) (by omega) (by omega)
  refine ⟨by unfold vErr; rw [e1], by unfold vLen; rw [e1]; simp, ?_⟩
  unfold vNum vLen
  rw [e1]
  simp [e2]

#print axioms vOne
#print axioms vRead
end Go.Proofs.YtaijjogjohbheaaGreat

/- The contracts of appendNumber and varint.Put, over any world. -/
namespace Go.Proofs.YtaijjogjohbheaaGreat
open Go.RowKit
set_option maxRecDepth 100000

theorem u64_quo {m : Nat} (h : m ≤ 18446744073709551615) : IntKind.u64.wrap ((m : Int) / 128) = ((m / 128 : Nat) : Int) := by
  rw [IntKind.wrap_u64]; omega

set_option maxHeartbeats 400000 in
set_option maxRecDepth 100000 in
theorem appendNumber_any (v : Value) (base N : Nat) (l : List Nat) (w : World) (h : Own w base v l) (hbase : base ≤ w.heap.size) (hN : N ≤ 18446744073709551615) (hn : l.length ≤ 2000000) :
    Calls Tryz.prog 103 #[v, .int .u64 (N : Int)] w fun e w' => ∃ v', e = .returned v' ∧ Own w' base v' (l ++ vEnc N) ∧ Below base w w' := by
  obtain ⟨i0, hi0, hz0, hz1, hz2⟩ := info_parts info5
  have h10 : (vEnc N).length ≤ 10 := vEnc_len10 (by omega)
  go_enter Tryz.func103, Tryz.ntmps103
  go_wp2
  go_loopg [0, 1] N (fun k d c wr => ∃ (m : Nat) (l' : List Nat), k = m ∧ m ≤ N ∧ c = .int .u64 (m : Int) ∧ Own wr base d l' ∧ l' ++ vEnc m = l ++ vEnc N ∧ Below base w wr)
  case atStart => exact ⟨N, l, rfl, Nat.le_refl _, rfl, h, rfl, Below.refl _ _⟩
  case round =>
    obtain ⟨m, l', hk, hm, rfl, ho, he, hb⟩ := hrel
    have hlen : l'.length + (vEnc m).length = l.length + (vEnc N).length := by rw [← List.length_append, he, List.length_append]
    have HE := Lib.hid he
    have HK := Lib.hid hk
    have hbr : base ≤ wr.heap.size := Nat.le_trans hbase hb.size
    have hl' : l'.length ≤ 2000010 := by omega
    have HN := Lib.hid hN
    clear he hk hlen hN
    by_cases hlt : m < 128
    · have hlt' : (m : Int) < 128 := by omega
      go_wp2_with (at_builtin; refine wpList_append_own_at _ rfl (.tmp 16) (.tmp 19) 40 rfl base 5 i0 _ 1 1 Tryz.underlying40 hi0 hz0 hz1 hz2 rfl (by omega) _ l'.length (cB l') rfl (ho.2.alloc _) ⟨wr.heap.size, 0, none⟩ 1 1 [.int .u8 (m : Int)] rfl ?hlen (cell_one_new _ _ _) ?one ?h63 ?hby ?hbase ?next)
      case hlen => rfl
      case one => intro u hu; simp only [List.mem_singleton] at hu; subst hu; rfl
      case h63 => unfold maxLen; omega
      case hby => omega
      case hbase => simp; omega
      case next =>
        intro v' w' hown hg _ _
        go_wp2
        go_ret
        refine ⟨v', rfl, ?_, (hb.alloc hbr _).grown hg (by simp; omega) (fun k hk => (ho.2.lt k hk).1)⟩
        rw [← HE.out, vEnc_small hlt]
        exact Own.snoc (by omega) ho.1 hown
    · have hlt' : 128 ≤ (m : Int) := by omega
      go_wp2_with (at_builtin; refine wpList_append_own_at _ rfl (.tmp 7) (.tmp 12) 40 rfl base 5 i0 _ 1 1 Tryz.underlying40 hi0 hz0 hz1 hz2 rfl (by omega) _ l'.length (cB l') rfl (ho.2.alloc _) ⟨wr.heap.size, 0, none⟩ 1 1 [.int .u8 ((m : Int) % 128 + 128)] rfl ?hlen2 (cell_one_new _ _ _) ?one2 ?h632 ?hby2 ?hbase2 ?next2)
      case hlen2 => rfl
      case one2 => intro u hu; simp only [List.mem_singleton] at hu; subst hu; rfl
      case h632 => unfold maxLen; omega
      case hby2 => omega
      case hbase2 => simp; omega
      case next2 =>
        intro v' w' hown hg _ _
        have hb' : Below base w w' := (hb.alloc hbr _).grown hg (by simp; omega) (fun k hk => (ho.2.lt k hk).1)
        have ho' : Own w' base v' (l' ++ [m % 128 + 128]) := Own.snoc (by omega) ho.1 (by simpa using hown)
        clear hown hg
        go_wp2
        go_roundg (m / 128)
        case measure => have := HK.out; omega
        case rel => exact ⟨m / 128, l' ++ [m % 128 + 128], rfl, by omega, by rw [u64_quo (by have := HN.out; omega)], ho', by rw [← HE.out, vEnc_large hlt]; simp, hb'⟩

/-- The slice '.slice a n _' reads as the numbers L. -/
def RdU (w : World) (a : Option Addr) (n : Nat) (L : List Nat) : Prop :=
  L.length = n ∧ (∀ x ∈ L, x ≤ 18446744073709551615) ∧ (0 < n → ∃ b o, a = some ⟨b, o, none⟩ ∧ ∀ j, j < n → w.cell? ⟨b, o + j, none⟩ = some (.int .u64 ((L.getD j 0 : Nat) : Int)))

theorem RdU.at_ {w w' : World} {a : Option Addr} {n : Nat} {L : List Nat} (h : RdU w a n L) (hb : Below w.heap.size w w') {j : Nat} (hj : j < n) :
    ∃ b o, a = some ⟨b, o, none⟩ ∧ w'.cell? ⟨b, o + j, none⟩ = some (.int .u64 ((L.getD j 0 : Nat) : Int)) := by
  obtain ⟨b, o, rfl, hc⟩ := h.2.2 (by omega)
  have hlt : b < w.heap.size := World.block_lt_of_cell? w _ (hc j hj)
  exact ⟨b, o, rfl, (hb.cell (p := ⟨b, o + j, none⟩) hlt).trans (hc j hj)⟩

theorem RdU.later {w w' : World} {a : Option Addr} {n : Nat} {L : List Nat} (h : RdU w a n L) (hb : Below w.heap.size w w') : RdU w' a n L := by
  refine ⟨h.1, h.2.1, fun hn => ?_⟩
  obtain ⟨b, o, rfl, hc⟩ := h.2.2 hn
  refine ⟨b, o, rfl, fun j hj => ?_⟩
  exact (hb.cell (p := ⟨b, o + j, none⟩) (World.block_lt_of_cell? w _ (hc j hj))).trans (hc j hj)

theorem encs_len (L : List Nat) (h : ∀ x ∈ L, x ≤ 18446744073709551615) : (L.flatMap vEnc).length ≤ 10 * L.length := by
  induction L with
  | nil => simp
  | cons x r ih =>
    have h1 := vEnc_len10 (n := x) (by have := h x (by simp); omega)
    have h2 := ih fun y hy => h y (by simp [hy])
    simp only [List.flatMap_cons, List.length_append, List.length_cons]
    omega

theorem take_snocD {L : List Nat} {j : Nat} (hj : j < L.length) : L.take (j + 1) = L.take j ++ [L.getD j 0] := by
  rw [List.take_succ_eq_append_getElem hj]; simp [List.getD, hj]

set_option maxHeartbeats 400000 in
set_option maxRecDepth 100000 in
theorem put_any (a : Option Addr) (n c : Nat) (l : List Nat) (ua : Option Addr) (un uc : Nat) (L : List Nat) (w : World) (h : Rd w a n l) (hu : RdU w ua un L) (hn : n ≤ 1000000) (hm : un ≤ 1000) :
    Calls Tryz.prog 89 #[.slice a n c, .slice ua un uc] w fun e w' => ∃ v, e = .returned v ∧ Own w' w.heap.size v (l ++ L.flatMap vEnc) ∧ Below w.heap.size w w' := by
  have HU := Lib.hid hu
  have HR := Lib.hid h
  clear hu h
  go_enter Tryz.func89, Tryz.ntmps89
  go_wp2_with fail
  refine (clone_any a n c l _ HR.out hn).mono ?_
  rintro e w1 ⟨v, rfl, ho, hb⟩
  go_wp2
  go_loopg [5, 12] un (fun k d i wr => ∃ j, k = un - j ∧ j ≤ un ∧ i = .int .i64 (j : Int) ∧ Own wr w.heap.size d (l ++ (L.take j).flatMap vEnc) ∧ Below w.heap.size w wr)
  case atStart => exact ⟨0, rfl, Nat.zero_le _, rfl, by simpa using ho, hb⟩
  case round =>
    obtain ⟨j, hk, hj, rfl, hoj, hbj⟩ := hrel
    have HK := Lib.hid hk
    clear hk
    by_cases hlt : j < un
    · obtain ⟨ub, uo, rfl, hcell⟩ := HU.out.at_ hbj hlt
      have hL := HU.out.1
      have hx : L.getD j 0 ≤ 18446744073709551615 := HU.out.2.1 _ (by simp [List.getD, show j < L.length by omega])
      obtain ⟨x, hxe⟩ : ∃ x, x = L.getD j 0 := ⟨_, rfl⟩
      rw [← hxe] at hcell hx
      have HX := Lib.hid hxe
      have HL := Lib.hid hL
      have HXB := Lib.hid hx
      have hlen : (l ++ (L.take j).flatMap vEnc).length ≤ 2000000 := by
        have h1 := encs_len (L.take j) fun y hy => HU.out.2.1 y (List.mem_of_mem_take hy)
        have h2 : (L.take j).length ≤ j := List.length_take_le _ _
        have h3 := HR.out.1
        rw [List.length_append]; omega
      have HLen := Lib.hid hlen
      clear hxe hL hx hlen
      go_wp2_with fail
      refine (appendNumber_any _ w.heap.size x _ _ hoj hbj.size HXB.out HLen.out).mono ?_
      rintro e w2 ⟨v2, rfl, ho2, hb2⟩
      go_wp2
      go_roundg (un - (j + 1))
      case measure => have := HK.out; omega
      case rel => exact ⟨j + 1, rfl, by omega, by go_num, by
        rw [take_snocD (by have := HL.out; omega), List.flatMap_append, ← HX.out]; simpa using ho2, hbj.trans hb2⟩
    · obtain rfl : j = un := by omega
      go_wp2
      go_ret
      exact ⟨_, rfl, by have := HU.out.1; rw [List.take_of_length_le (by omega)] at hoj; exact hoj, hbj⟩

/-- Put, its result written out. -/
theorem put_sl (a : Option Addr) (n c : Nat) (l : List Nat) (ua : Option Addr) (un uc : Nat) (L A : List Nat) (w : World) (h : Rd w a n l) (hu : RdU w ua un L) (hn : n ≤ 1000000) (hm : un ≤ 1000) (hA : A = l ++ L.flatMap vEnc) :
    Calls Tryz.prog 89 #[.slice a n c, .slice ua un uc] w fun e w' => ∃ a' m c', e = .returned (.slice a' m c') ∧ A.length = m ∧ Rd w' a' m A ∧ Below w.heap.size w w' := by
  refine (put_any a n c l ua un uc L w h hu hn hm).mono ?_
  rintro e w' ⟨v, rfl, ho, hb⟩
  rw [← hA] at ho
  obtain ⟨a', c', rfl, hr, _⟩ := ho.sl
  exact ⟨a', _, c', rfl, rfl, hr, hb⟩

end Go.Proofs.YtaijjogjohbheaaGreat
