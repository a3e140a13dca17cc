/- The contracts of root's genOf and appendGen. -/
import Derived.Test.YtpdpnlgiaehegaaRMath
import Derived.Test.YtpdpnlgiaehegaaMem
import Derived.Laws.BitsAllLaws
namespace Go.Proofs.Ytpdpnlgiaehegaa
open Go.RowKit
set_option linter.unusedSimpArgs false

theorem pow_256 (j : Nat) : (2 : Nat) ^ (8 * j) = 256 ^ j := by rw [Nat.pow_mul]

theorem or_byte8 {X x j : Nat} (hX : X < 256 ^ j) (hx : x < 256) (hj : j < 8) :
    bits .or .u64 (X : Int) (IntKind.u64.wrap ((x : Int) * 2 ^ (8 * j))) = ((X + 256 ^ j * x : Nat) : Int) := by
  have e : ((x : Int) * 2 ^ (8 * j)) = ((x * 256 ^ j : Nat) : Int) := by
    rw [← pow_256]
    simp
  have hX' : X < 18446744073709551616 := Nat.lt_of_lt_of_le hX (Nat.le_trans (Nat.pow_le_pow_right (by omega) (show j ≤ 8 by omega)) (by omega))
  have hf : x * 256 ^ j < 18446744073709551616 := by
    have h1 : 256 ^ j ≤ 256 ^ 7 := Nat.pow_le_pow_right (by omega) (by omega)
    have := Nat.mul_le_mul (show x ≤ 255 by omega) h1
    omega
  rw [e, IntKind.wrap_u64, Int.emod_eq_of_lt (by omega) (by omega), u64_or_nat X _ hX' hf]
  have := nat_join (8 * j) (x * 256 ^ j) X (by rw [pow_256]; exact Nat.mul_mod_left _ _) (by rw [pow_256]; exact hX)
  rw [Nat.or_comm, this, Nat.mul_comm, Nat.add_comm]

theorem le_take_lt {l : List Nat} (hb : ∀ x ∈ l, x < 256) (j : Nat) : le (l.take j) < 256 ^ j :=
  Nat.lt_of_lt_of_le (le_lt _ fun x hx => hb x (List.mem_of_mem_take hx)) (Nat.pow_le_pow_right (by omega) (List.length_take_le _ _))

set_option maxHeartbeats 400000 in
set_option maxRecDepth 100000 in
theorem genOf_any (a : Option Addr) (n c : Nat) (l : List Nat) (w : World) (h : Rd w a n l) (hn : 8 ≤ n) (hc : n ≤ c) :
    Calls Try.prog 33 #[.slice a n c] w fun e w' => e = .returned (.int .u64 ((le (l.take 8) : Nat) : Int)) ∧ w' = w := by
  have HR := Lib.hid h
  have hsl := slice_to a n c 8 .i64 (by omega)
  have HS := Lib.hid hsl
  clear h
  go_enter Try.func33, Try.ntmps33
  go_wp2
  go_loopg [3, 9] 8 (fun k d i wr => ∃ j X : Nat, k = 8 - j ∧ j ≤ 8 ∧ i = .int .i64 (j : Int) ∧ d = .int .u64 (X : Int) ∧ X = le (l.take j) ∧ wr = w)
  case atStart => exact ⟨0, 0, rfl, Nat.zero_le _, rfl, rfl, by simp [le], rfl⟩
  case round =>
    obtain ⟨j, X, hk, hj, rfl, rfl, hX, rfl⟩ := hrel
    have HK := Lib.hid hk
    have HX := Lib.hid hX
    clear hk hX
    by_cases hlt : j < 8
    · obtain ⟨b, o, rfl, hcl⟩ := HR.out.2.2 (by omega)
      have hcell := hcl j (by omega)
      have hl : j < l.length := by have := HR.out.1; omega
      have hy : l.getD j 0 < 256 := HR.out.2.1 _ (by simp [List.getD, hl])
      obtain ⟨y, hye⟩ : ∃ y, y = l.getD j 0 := ⟨_, rfl⟩
      rw [← hye] at hcell hy
      have HY := Lib.hid hye
      have HL := Lib.hid hl
      clear hye hl hcl
      go_wp2
      go_roundg (8 - (j + 1))
      case measure => have := HK.out; omega
      case rel => exact ⟨j + 1, X + 256 ^ j * y, rfl, by omega, by go_num, by
        rw [or_byte8 (by rw [HX.out]; exact le_take_lt HR.out.2.1 j) hy hlt], by rw [le_take HL.out, ← HX.out, ← HY.out], rfl⟩
    · have hge : ¬ (j : Int) < 8 := by omega
      go_wp2
      go_ret
      have e8 : j = 8 := by omega
      exact ⟨by rw [HX.out, e8]; rfl, rfl⟩

set_option maxHeartbeats 400000 in
set_option maxRecDepth 100000 in
theorem appendGen_any (v : Value) (base G : Nat) (l : List Nat) (w : World) (h : Own w base v l) (hbase : base ≤ w.heap.size) (hn : l.length ≤ 1000000) :
    Calls Try.prog 39 #[v, .int .u64 (G : Int)] w fun e w' => ∃ v', e = .returned v' ∧ Own w' base v' (l ++ g8 8 G) ∧ Below base w w' := by
  obtain ⟨i0, hi0, hz0, hz1, hz2⟩ := info_parts info5
  go_enter Try.func39, Try.ntmps39
  go_wp2
  go_loopg [0, 6] 8 (fun k d i wr => ∃ j : Nat, k = 8 - j ∧ j ≤ 8 ∧ i = .int .i64 (j : Int) ∧ Own wr base d (l ++ g8 j G) ∧ Below base w wr)
  case atStart => exact ⟨0, rfl, Nat.zero_le _, rfl, by simpa [g8] using h, Below.refl _ _⟩
  case round =>
    obtain ⟨j, hk, hj, rfl, ho, hb⟩ := hrel
    have HK := Lib.hid hk
    have hbr : base ≤ wr.heap.size := Nat.le_trans hbase hb.size
    obtain ⟨M, hM⟩ : ∃ M, M = l ++ g8 j G := ⟨_, rfl⟩
    have hl : M.length ≤ 1000008 := by rw [hM, List.length_append, g8_length]; omega
    rw [← hM] at ho
    have HM := Lib.hid hM
    clear hk hM
    by_cases hlt : j < 8
    · go_wp2_with (at_builtin; refine wpList_append_own_at _ rfl (.tmp 9) (.tmp 15) 32 rfl base 5 i0 _ 1 1 Try.underlying32 hi0 hz0 hz1 hz2 rfl (by omega) _ M.length (cB M) rfl (ho.2.alloc _) ⟨wr.heap.size, 0, none⟩ 1 1 [_] rfl ?hlen (cell_one_new _ _ _) ?one ?h63 ?hby ?hbase ?next)
      case hlen => rfl
      case one => intro u hu; simp only [List.mem_singleton] at hu; subst hu; rfl
      case h63 => unfold maxLen; omega
      case hby => omega
      case hbase => simp; omega
      case next =>
        intro v' w' hown hg _ _
        have hb' : Below base w w' := (hb.alloc hbr _).grown hg (by simp; omega) (fun k hk => (ho.2.lt k hk).1)
        have e : ((G : Int) / 2 ^ (8 * j)) % 256 = ((G / 256 ^ j % 256 : Nat) : Int) := by rw [← pow_256]; simp
        have ho' : Own w' base v' (M ++ [G / 256 ^ j % 256]) := Own.snoc (Nat.mod_lt _ (by omega)) ho.1 (by rw [← e]; exact hown)
        clear hown hg
        go_wp2
        go_roundg (8 - (j + 1))
        case measure => have := HK.out; omega
        case rel => exact ⟨j + 1, rfl, by omega, by go_num, by rw [g8_snoc, ← List.append_assoc, ← HM.out]; exact ho', hb'⟩
    · have hge : ¬ (j : Int) < 8 := by omega
      go_wp2
      go_ret
      have e8 : j = 8 := by omega
      exact ⟨_, rfl, by rw [← e8, ← HM.out]; exact ho, hb⟩

end Go.Proofs.Ytpdpnlgiaehegaa
