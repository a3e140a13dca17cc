/- Numbers in eight bytes, and root sectors: plain lists. -/
import Derived.Test.YtaijjogjohbheaaGreatVPutAll
import Derived.Test.YtaijjogjohbheaaGreatChkAll
import Derived.Test.YtaijjogjohbheaaGreatMemAll
import Derived.Laws.BitsAllLaws
namespace Go.Proofs.YtaijjogjohbheaaGreat

/-- The number that bytes make, the least significant first. -/
def le : List Nat → Nat
  | [] => 0
  | x :: r => x + 256 * le r

/-- A number's k lowest bytes, the least significant first. -/
def g8 : Nat → Nat → List Nat
  | 0, _ => []
  | k + 1, N => N % 256 :: g8 k (N / 256)

theorem g8_length (k N : Nat) : (g8 k N).length = k := by
  induction k generalizing N with
  | zero => rfl
  | succ k ih => simp [g8, ih]

theorem g8_byte (k N : Nat) : ∀ x ∈ g8 k N, x < 256 := by
  induction k generalizing N with
  | zero => simp [g8]
  | succ k ih =>
    intro x hx
    simp only [g8, List.mem_cons] at hx
    rcases hx with rfl | hx
    · omega
    · exact ih _ _ hx

theorem g8_snoc (k N : Nat) : g8 (k + 1) N = g8 k N ++ [N / 256 ^ k % 256] := by
  induction k generalizing N with
  | zero => simp [g8]
  | succ k ih =>
    have e : N / 256 / 256 ^ k = N / 256 ^ (k + 1) := by rw [Nat.div_div_eq_div_mul, Nat.pow_succ, Nat.mul_comm]
    rw [g8, ih (N / 256), e]
    rfl

theorem le_append (a b : List Nat) : le (a ++ b) = le a + 256 ^ a.length * le b := by
  induction a with
  | nil => simp [le]
  | cons x r ih =>
    simp only [List.cons_append, le, ih, List.length_cons, Nat.pow_succ]
    rw [Nat.mul_add, Nat.mul_comm (256 ^ r.length) 256, Nat.mul_assoc]
    omega

theorem le_lt (a : List Nat) (h : ∀ x ∈ a, x < 256) : le a < 256 ^ a.length := by
  induction a with
  | nil => simp [le]
  | cons x r ih =>
    have h1 := ih fun y hy => h y (by simp [hy])
    have h2 := h x (by simp)
    simp only [le, List.length_cons, Nat.pow_succ]
    omega

theorem le_take {l : List Nat} {j : Nat} (hj : j < l.length) : le (l.take (j + 1)) = le (l.take j) + 256 ^ j * l.getD j 0 := by
  have e : (l.take j).length = j := by simp; omega
  rw [List.take_succ_eq_append_getElem hj, le_append, e]
  simp [le, List.getD, hj]

theorem le_g8 (k N : Nat) : le (g8 k N) = N % 256 ^ k := by
  induction k generalizing N with
  | zero => simp [g8, le, Nat.mod_one]
  | succ k ih =>
    rw [g8, le, ih, Nat.pow_succ, Nat.mul_comm (256 ^ k) 256, Nat.mod_mul]

/-- A root sector of a generation that has these bytes. -/
def rHead (G : Nat) (b : List Nat) : List Nat := g8 8 G ++ [b.length, cSum b].flatMap vEnc

def rSec (G : Nat) (b : List Nat) : List Nat := rHead G b ++ List.replicate (56 - (rHead G b).length) 0 ++ g8 8 G

theorem rHead_eq (G : Nat) (b : List Nat) : rHead G b = g8 8 G ++ (vEnc b.length ++ vEnc (cSum b)) := by simp [rHead]

theorem rHead_len (G : Nat) (b : List Nat) (h : b.length < 4294967296) : 10 ≤ (rHead G b).length ∧ (rHead G b).length ≤ 18 := by
  rw [rHead_eq]
  have h1 := vEnc_len 4 b.length (by omega)
  have h2 := vEnc_len 4 (cSum b) (by have := cSum_lt b; omega)
  have h3 := vEnc_pos b.length
  have h4 := vEnc_pos (cSum b)
  simp only [List.length_append, g8_length]
  omega

theorem rSec_len (G : Nat) (b : List Nat) (h : b.length < 4294967296) : (rSec G b).length = 64 := by
  have := rHead_len G b h
  simp only [rSec, List.length_append, g8_length, List.length_replicate]
  omega

theorem rHead_byte (G : Nat) (b : List Nat) : ∀ x ∈ rHead G b, x < 256 := by
  rw [rHead_eq]
  intro x hx
  simp only [List.mem_append] at hx
  rcases hx with hx | hx | hx
  · exact g8_byte _ _ x hx
  · exact vEnc_byte _ x hx
  · exact vEnc_byte _ x hx

theorem rSec_byte (G : Nat) (b : List Nat) : ∀ x ∈ rSec G b, x < 256 := by
  intro x hx
  simp only [rSec, List.mem_append, List.mem_replicate] at hx
  rcases hx with (hx | hx) | hx
  · exact rHead_byte _ _ x hx
  · omega
  · exact g8_byte _ _ x hx

theorem rSec_first (G : Nat) (b : List Nat) : (rSec G b).take 8 = g8 8 G := by
  rw [rSec, rHead_eq, List.append_assoc, List.append_assoc, List.take_append_of_le_length (by rw [g8_length]; omega), List.take_of_length_le (by rw [g8_length]; omega)]

theorem rSec_last (G : Nat) (b : List Nat) (h : b.length < 4294967296) : (rSec G b).drop 56 = g8 8 G := by
  have := rHead_len G b h
  rw [rSec, List.drop_append_of_le_length (by simp; omega), List.drop_eq_nil_of_le (by simp; omega)]
  rfl

theorem rSec_mid (G : Nat) (b : List Nat) (h : b.length < 4294967296) : ∃ r, ((rSec G b).drop 8).take 48 = vEnc b.length ++ (vEnc (cSum b) ++ r) := by
  have hh := rHead_len G b h
  have e : (rSec G b).drop 8 = (vEnc b.length ++ (vEnc (cSum b) ++ List.replicate (56 - (rHead G b).length) 0)) ++ g8 8 G := by
    rw [rSec, rHead_eq]
    simp only [List.append_assoc]
    rw [List.drop_append_of_le_length (by rw [g8_length]; omega), List.drop_eq_nil_of_le (by rw [g8_length]; omega)]
    simp
  refine ⟨List.replicate (56 - (rHead G b).length) 0, ?_⟩
  have hl : (vEnc b.length ++ (vEnc (cSum b) ++ List.replicate (56 - (rHead G b).length) 0)).length = 48 := by
    have h1 : (rHead G b).length = 8 + ((vEnc b.length).length + (vEnc (cSum b)).length) := by rw [rHead_eq]; simp [g8_length]
    simp only [List.length_append, List.length_replicate]
    omega
  rw [e, List.take_append_of_le_length (by omega), List.take_of_length_le (by omega)]

end Go.Proofs.YtaijjogjohbheaaGreat

/- The contracts of root's genOf and appendGen. -/
namespace Go.Proofs.YtaijjogjohbheaaGreat
open Go.RowKit
set_option maxRecDepth 100000
set_option linter.unusedSimpArgs false

theorem pow_256 (j : Nat) : (2 : Nat) ^ (8 * j) = 256 ^ j := by rw [Nat.pow_mul]

theorem or_byte8 {X x j : Nat} (hX : X < 256 ^ j) (hx : x < 256) (hj : j < 8) :
    bits .or .u64 (X : Int) (IntKind.u64.wrap ((x : Int) * 2 ^ (8 * j))) = ((X + 256 ^ j * x : Nat) : Int) := by
  have e : ((x : Int) * 2 ^ (8 * j)) = ((x * 256 ^ j : Nat) : Int) := by
    rw [← pow_256]
    simp
  have hX' : X < 18446744073709551616 := Nat.lt_of_lt_of_le hX (Nat.le_trans (Nat.pow_le_pow_right (by omega) (show j ≤ 8 by omega)) (by omega))
  have hf : x * 256 ^ j < 18446744073709551616 := by
    have h1 : 256 ^ j ≤ 256 ^ 7 := Nat.pow_le_pow_right (by omega) (by omega)
    have := Nat.mul_le_mul (show x ≤ 255 by omega) h1
    omega
  rw [e, IntKind.wrap_u64, Int.emod_eq_of_lt (by omega) (by omega), u64_or_nat X _ hX' hf]
  have := nat_join (8 * j) (x * 256 ^ j) X (by rw [pow_256]; exact Nat.mul_mod_left _ _) (by rw [pow_256]; exact hX)
  rw [Nat.or_comm, this, Nat.mul_comm, Nat.add_comm]

theorem le_take_lt {l : List Nat} (hb : ∀ x ∈ l, x < 256) (j : Nat) : le (l.take j) < 256 ^ j :=
  Nat.lt_of_lt_of_le (le_lt _ fun x hx => hb x (List.mem_of_mem_take hx)) (Nat.pow_le_pow_right (by omega) (List.length_take_le _ _))

set_option maxHeartbeats 400000 in
set_option maxRecDepth 100000 in
theorem genOf_any (a : Option Addr) (n c : Nat) (l : List Nat) (w : World) (h : Rd w a n l) (hn : 8 ≤ n) (hc : n ≤ c) :
    Calls Tryz.prog 68 #[.slice a n c] w fun e w' => e = .returned (.int .u64 ((le (l.take 8) : Nat) : Int)) ∧ w' = w := by
  have HR := Lib.hid h
  have hsl := slice_to a n c 8 .i64 (by omega)
  have HS := Lib.hid hsl
  clear h
  go_enter Tryz.func68, Tryz.ntmps68
  go_wp2
  go_loopg [3, 9] 8 (fun k d i wr => ∃ j X : Nat, k = 8 - j ∧ j ≤ 8 ∧ i = .int .i64 (j : Int) ∧ d = .int .u64 (X : Int) ∧ X = le (l.take j) ∧ wr = w)
  case atStart => exact ⟨0, 0, rfl, Nat.zero_le _, rfl, rfl, by simp [le], rfl⟩
  case round =>
    obtain ⟨j, X, hk, hj, rfl, rfl, hX, rfl⟩ := hrel
    have HK := Lib.hid hk
    have HX := Lib.hid hX
    clear hk hX
    by_cases hlt : j < 8
    · obtain ⟨b, o, rfl, hcl⟩ := HR.out.2.2 (by omega)
      have hcell := hcl j (by omega)
      have hl : j < l.length := by have := HR.out.1; omega
      have hy : l.getD j 0 < 256 := HR.out.2.1 _ (by simp [List.getD, hl])
      obtain ⟨y, hye⟩ : ∃ y, y = l.getD j 0 := ⟨_, rfl⟩
      rw [← hye] at hcell hy
      have HY := Lib.hid hye
      have HL := Lib.hid hl
      clear hye hl hcl
      go_wp2
      go_roundg (8 - (j + 1))
      case measure => have := HK.out; omega
      case rel => exact ⟨j + 1, X + 256 ^ j * y, rfl, by omega, by go_num, by
        rw [or_byte8 (by rw [HX.out]; exact le_take_lt HR.out.2.1 j) hy hlt], by rw [le_take HL.out, ← HX.out, ← HY.out], rfl⟩
    · have hge : ¬ (j : Int) < 8 := by omega
      go_wp2
      go_ret
      have e8 : j = 8 := by omega
      exact ⟨by rw [HX.out, e8]; rfl, rfl⟩

set_option maxHeartbeats 400000 in
set_option maxRecDepth 100000 in
theorem appendGen_any (v : Value) (base G : Nat) (l : List Nat) (w : World) (h : Own w base v l) (hbase : base ≤ w.heap.size) (hn : l.length ≤ 1000000) :
    Calls Tryz.prog 102 #[v, .int .u64 (G : Int)] w fun e w' => ∃ v', e = .returned v' ∧ Own w' base v' (l ++ g8 8 G) ∧ Below base w w' := by
  obtain ⟨i0, hi0, hz0, hz1, hz2⟩ := info_parts info5
  go_enter Tryz.func102, Tryz.ntmps102
  go_wp2
  go_loopg [0, 6] 8 (fun k d i wr => ∃ j : Nat, k = 8 - j ∧ j ≤ 8 ∧ i = .int .i64 (j : Int) ∧ Own wr base d (l ++ g8 j G) ∧ Below base w wr)
  case atStart => exact ⟨0, rfl, Nat.zero_le _, rfl, by simpa [g8] using h, Below.refl _ _⟩
  case round =>
    obtain ⟨j, hk, hj, rfl, ho, hb⟩ := hrel
    have HK := Lib.hid hk
    have hbr : base ≤ wr.heap.size := Nat.le_trans hbase hb.size
    obtain ⟨M, hM⟩ : ∃ M, M = l ++ g8 j G := ⟨_, rfl⟩
    have hl : M.length ≤ 1000008 := by rw [hM, List.length_append, g8_length]; omega
    rw [← hM] at ho
    have HM := Lib.hid hM
    clear hk hM
    by_cases hlt : j < 8
    · go_wp2_with (at_builtin; refine wpList_append_own_at _ rfl (.tmp 9) (.tmp 15) 40 rfl base 5 i0 _ 1 1 Tryz.underlying40 hi0 hz0 hz1 hz2 rfl (by omega) _ M.length (cB M) rfl (ho.2.alloc _) ⟨wr.heap.size, 0, none⟩ 1 1 [_] rfl ?hlen (cell_one_new _ _ _) ?one ?h63 ?hby ?hbase ?next)
      case hlen => rfl
      case one => intro u hu; simp only [List.mem_singleton] at hu; subst hu; rfl
      case h63 => unfold maxLen; omega
      case hby => omega
      case hbase => simp; omega
      case next =>
        intro v' w' hown hg _ _
        have hb' : Below base w w' := (hb.alloc hbr _).grown hg (by simp; omega) (fun k hk => (ho.2.lt k hk).1)
        have e : ((G : Int) / 2 ^ (8 * j)) % 256 = ((G / 256 ^ j % 256 : Nat) : Int) := by rw [← pow_256]; simp
        have ho' : Own w' base v' (M ++ [G / 256 ^ j % 256]) := Own.snoc (Nat.mod_lt _ (by omega)) ho.1 (by rw [← e]; exact hown)
        clear hown hg
        go_wp2
        go_roundg (8 - (j + 1))
        case measure => have := HK.out; omega
        case rel => exact ⟨j + 1, rfl, by omega, by go_num, by rw [g8_snoc, ← List.append_assoc, ← HM.out]; exact ho', hb'⟩
    · have hge : ¬ (j : Int) < 8 := by omega
      go_wp2
      go_ret
      have e8 : j = 8 := by omega
      exact ⟨_, rfl, by rw [← e8, ← HM.out]; exact ho, hb⟩

end Go.Proofs.YtaijjogjohbheaaGreat
