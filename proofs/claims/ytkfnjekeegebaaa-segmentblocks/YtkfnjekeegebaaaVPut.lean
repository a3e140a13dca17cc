/- The contracts of appendNumber and varint.Put, over any world. -/
import Derived.Test.YtkfnjekeegebaaaClone
import Derived.Test.YtkfnjekeegebaaaMath
namespace Go.Proofs.Ytkfnjekeegebaaa
open Go.RowKit

theorem u64_quo {m : Nat} (h : m ≤ 18446744073709551615) : IntKind.u64.wrap ((m : Int) / 128) = ((m / 128 : Nat) : Int) := by
  rw [IntKind.wrap_u64]; omega

set_option maxHeartbeats 400000 in
set_option maxRecDepth 100000 in
theorem appendNumber_any (v : Value) (base N : Nat) (l : List Nat) (w : World) (h : Own w base v l) (hbase : base ≤ w.heap.size) (hN : N ≤ 18446744073709551615) (hn : l.length ≤ 2000000) :
    Calls Try.prog 42 #[v, .int .u64 (N : Int)] w fun e w' => ∃ v', e = .returned v' ∧ Own w' base v' (l ++ vEnc N) ∧ Below base w w' := by
  obtain ⟨i0, hi0, hz0, hz1, hz2⟩ := info_parts info5
  have h10 : (vEnc N).length ≤ 10 := vEnc_len10 (by omega)
  go_enter Try.func42, Try.ntmps42
  go_wp2
  go_loopg [0, 1] N (fun k d c wr => ∃ (m : Nat) (l' : List Nat), k = m ∧ m ≤ N ∧ c = .int .u64 (m : Int) ∧ Own wr base d l' ∧ l' ++ vEnc m = l ++ vEnc N ∧ Below base w wr)
  case atStart => exact ⟨N, l, rfl, Nat.le_refl _, rfl, h, rfl, Below.refl _ _⟩
  case round =>
    obtain ⟨m, l', hk, hm, rfl, ho, he, hb⟩ := hrel
    have hlen : l'.length + (vEnc m).length = l.length + (vEnc N).length := by rw [← List.length_append, he, List.length_append]
    have HE := Lib.hid he
    have HK := Lib.hid hk
    have hbr : base ≤ wr.heap.size := Nat.le_trans hbase hb.size
    have hl' : l'.length ≤ 2000010 := by omega
    have HN := Lib.hid hN
    clear he hk hlen hN
    by_cases hlt : m < 128
    · have hlt' : (m : Int) < 128 := by omega
      go_wp2_with (at_builtin; refine wpList_append_own_at _ rfl (.tmp 16) (.tmp 19) 26 rfl base 5 i0 _ 1 1 Try.underlying26 hi0 hz0 hz1 hz2 rfl (by omega) _ l'.length (cB l') rfl (ho.2.alloc _) ⟨wr.heap.size, 0, none⟩ 1 1 [.int .u8 (m : Int)] rfl ?hlen (cell_one_new _ _ _) ?one ?h63 ?hby ?hbase ?next)
      case hlen => rfl
      case one => intro u hu; simp only [List.mem_singleton] at hu; subst hu; rfl
      case h63 => unfold maxLen; omega
      case hby => omega
      case hbase => simp; omega
      case next =>
        intro v' w' hown hg _ _
        go_wp2
        go_ret
        refine ⟨v', rfl, ?_, (hb.alloc hbr _).grown hg (by simp; omega) (fun k hk => (ho.2.lt k hk).1)⟩
        rw [← HE.out, vEnc_small hlt]
        exact Own.snoc (by omega) ho.1 hown
    · have hlt' : 128 ≤ (m : Int) := by omega
      go_wp2_with (at_builtin; refine wpList_append_own_at _ rfl (.tmp 7) (.tmp 12) 26 rfl base 5 i0 _ 1 1 Try.underlying26 hi0 hz0 hz1 hz2 rfl (by omega) _ l'.length (cB l') rfl (ho.2.alloc _) ⟨wr.heap.size, 0, none⟩ 1 1 [.int .u8 ((m : Int) % 128 + 128)] rfl ?hlen2 (cell_one_new _ _ _) ?one2 ?h632 ?hby2 ?hbase2 ?next2)
      case hlen2 => rfl
      case one2 => intro u hu; simp only [List.mem_singleton] at hu; subst hu; rfl
      case h632 => unfold maxLen; omega
      case hby2 => omega
      case hbase2 => simp; omega
      case next2 =>
        intro v' w' hown hg _ _
        have hb' : Below base w w' := (hb.alloc hbr _).grown hg (by simp; omega) (fun k hk => (ho.2.lt k hk).1)
        have ho' : Own w' base v' (l' ++ [m % 128 + 128]) := Own.snoc (by omega) ho.1 (by simpa using hown)
        clear hown hg
        go_wp2
        go_roundg (m / 128)
        case measure => have := HK.out; omega
        case rel => exact ⟨m / 128, l' ++ [m % 128 + 128], rfl, by omega, by rw [u64_quo (by have := HN.out; omega)], ho', by rw [← HE.out, vEnc_large hlt]; simp, hb'⟩

/-- The slice '.slice a n _' reads as the numbers L. -/
def RdU (w : World) (a : Option Addr) (n : Nat) (L : List Nat) : Prop :=
  L.length = n ∧ (∀ x ∈ L, x ≤ 18446744073709551615) ∧ (0 < n → ∃ b o, a = some ⟨b, o, none⟩ ∧ ∀ j, j < n → w.cell? ⟨b, o + j, none⟩ = some (.int .u64 ((L.getD j 0 : Nat) : Int)))

theorem RdU.at_ {w w' : World} {a : Option Addr} {n : Nat} {L : List Nat} (h : RdU w a n L) (hb : Below w.heap.size w w') {j : Nat} (hj : j < n) :
    ∃ b o, a = some ⟨b, o, none⟩ ∧ w'.cell? ⟨b, o + j, none⟩ = some (.int .u64 ((L.getD j 0 : Nat) : Int)) := by
  obtain ⟨b, o, rfl, hc⟩ := h.2.2 (by omega)
  have hlt : b < w.heap.size := World.block_lt_of_cell? w _ (hc j hj)
  exact ⟨b, o, rfl, (hb.cell (p := ⟨b, o + j, none⟩) hlt).trans (hc j hj)⟩

theorem RdU.later {w w' : World} {a : Option Addr} {n : Nat} {L : List Nat} (h : RdU w a n L) (hb : Below w.heap.size w w') : RdU w' a n L := by
  refine ⟨h.1, h.2.1, fun hn => ?_⟩
  obtain ⟨b, o, rfl, hc⟩ := h.2.2 hn
  refine ⟨b, o, rfl, fun j hj => ?_⟩
  exact (hb.cell (p := ⟨b, o + j, none⟩) (World.block_lt_of_cell? w _ (hc j hj))).trans (hc j hj)

theorem encs_len (L : List Nat) (h : ∀ x ∈ L, x ≤ 18446744073709551615) : (L.flatMap vEnc).length ≤ 10 * L.length := by
  induction L with
  | nil => simp
  | cons x r ih =>
    have h1 := vEnc_len10 (n := x) (by have := h x (by simp); omega)
    have h2 := ih fun y hy => h y (by simp [hy])
    simp only [List.flatMap_cons, List.length_append, List.length_cons]
    omega

theorem take_snocD {L : List Nat} {j : Nat} (hj : j < L.length) : L.take (j + 1) = L.take j ++ [L.getD j 0] := by
  rw [List.take_succ_eq_append_getElem hj]; simp [List.getD, hj]

set_option maxHeartbeats 400000 in
set_option maxRecDepth 100000 in
theorem put_any (a : Option Addr) (n c : Nat) (l : List Nat) (ua : Option Addr) (un uc : Nat) (L : List Nat) (w : World) (h : Rd w a n l) (hu : RdU w ua un L) (hn : n ≤ 1000000) (hm : un ≤ 1000) :
    Calls Try.prog 27 #[.slice a n c, .slice ua un uc] w fun e w' => ∃ v, e = .returned v ∧ Own w' w.heap.size v (l ++ L.flatMap vEnc) ∧ Below w.heap.size w w' := by
  have HU := Lib.hid hu
  have HR := Lib.hid h
  clear hu h
  go_enter Try.func27, Try.ntmps27
  go_wp2_with fail
  refine (clone_any a n c l _ HR.out hn).mono ?_
  rintro e w1 ⟨v, rfl, ho, hb⟩
  go_wp2
  go_loopg [5, 12] un (fun k d i wr => ∃ j, k = un - j ∧ j ≤ un ∧ i = .int .i64 (j : Int) ∧ Own wr w.heap.size d (l ++ (L.take j).flatMap vEnc) ∧ Below w.heap.size w wr)
  case atStart => exact ⟨0, rfl, Nat.zero_le _, rfl, by simpa using ho, hb⟩
  case round =>
    obtain ⟨j, hk, hj, rfl, hoj, hbj⟩ := hrel
    have HK := Lib.hid hk
    clear hk
    by_cases hlt : j < un
    · obtain ⟨ub, uo, rfl, hcell⟩ := HU.out.at_ hbj hlt
      have hL := HU.out.1
      have hx : L.getD j 0 ≤ 18446744073709551615 := HU.out.2.1 _ (by simp [List.getD, show j < L.length by omega])
      obtain ⟨x, hxe⟩ : ∃ x, x = L.getD j 0 := ⟨_, rfl⟩
      rw [← hxe] at hcell hx
      have HX := Lib.hid hxe
      have HL := Lib.hid hL
      have HXB := Lib.hid hx
      have hlen : (l ++ (L.take j).flatMap vEnc).length ≤ 2000000 := by
        have h1 := encs_len (L.take j) fun y hy => HU.out.2.1 y (List.mem_of_mem_take hy)
        have h2 : (L.take j).length ≤ j := List.length_take_le _ _
        have h3 := HR.out.1
        rw [List.length_append]; omega
      have HLen := Lib.hid hlen
      clear hxe hL hx hlen
      go_wp2_with fail
      refine (appendNumber_any _ w.heap.size x _ _ hoj hbj.size HXB.out HLen.out).mono ?_
      rintro e w2 ⟨v2, rfl, ho2, hb2⟩
      go_wp2
      go_roundg (un - (j + 1))
      case measure => have := HK.out; omega
      case rel => exact ⟨j + 1, rfl, by omega, by go_num, by
        rw [take_snocD (by have := HL.out; omega), List.flatMap_append, ← HX.out]; simpa using ho2, hbj.trans hb2⟩
    · obtain rfl : j = un := by omega
      go_wp2
      go_ret
      exact ⟨_, rfl, by have := HU.out.1; rw [List.take_of_length_le (by omega)] at hoj; exact hoj, hbj⟩

/-- Put, its result written out. -/
theorem put_sl (a : Option Addr) (n c : Nat) (l : List Nat) (ua : Option Addr) (un uc : Nat) (L A : List Nat) (w : World) (h : Rd w a n l) (hu : RdU w ua un L) (hn : n ≤ 1000000) (hm : un ≤ 1000) (hA : A = l ++ L.flatMap vEnc) :
    Calls Try.prog 27 #[.slice a n c, .slice ua un uc] w fun e w' => ∃ a' m c', e = .returned (.slice a' m c') ∧ A.length = m ∧ Rd w' a' m A ∧ Below w.heap.size w w' := by
  refine (put_any a n c l ua un uc L w h hu hn hm).mono ?_
  rintro e w' ⟨v, rfl, ho, hb⟩
  rw [← hA] at ho
  obtain ⟨a', c', rfl, hr, _⟩ := ho.sl
  exact ⟨a', _, c', rfl, rfl, hr, hb⟩

end Go.Proofs.Ytkfnjekeegebaaa
