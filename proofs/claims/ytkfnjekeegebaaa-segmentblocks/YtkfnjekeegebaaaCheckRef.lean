/- The contracts of the document's own checksum and seal, over any world. -/
import Derived.Test.YtkfnjekeegebaaaCheckOf
namespace Go.Proofs.Ytkfnjekeegebaaa
open Go.RowKit

/-- One bit of a byte, as the document takes it. -/
theorem cBits_8 (n c : Nat) {j : Nat} (hj : j < 8) : cBits n (nBits (8 - j) c) = cBits (cBit n (c.testBit 0)) (nBits (8 - (j + 1)) (c / 2)) := by
  obtain ⟨k, hk⟩ : ∃ k, 8 - j = k + 1 := ⟨7 - j, by omega⟩
  have hk' : 8 - (j + 1) = k := by omega
  rw [hk, hk', nBits_succ]; rfl

theorem bit0 (c : Nat) : c.testBit 0 = decide (c % 2 = 1) := Nat.testBit_zero c

theorem cBit_differs {n c : Nat} (h : n % 2 ≠ c % 2) : cBit n (c.testBit 0) = n / 2 ^^^ 3945912366 := by
  unfold cBit cStep
  rw [bit0]
  have h1 := xor_mod2 n (decide (c % 2 = 1)).toNat
  have h2 := xor_div2 n (decide (c % 2 = 1)).toNat
  by_cases hc : c % 2 = 1
  · simp only [hc, decide_true, Bool.toNat_true] at h1 h2 ⊢
    rw [if_pos (by omega), h2]; simp
  · simp only [hc, decide_false, Bool.toNat_false] at h1 h2 ⊢
    rw [if_pos (by omega), h2]; simp

theorem cBit_same {n c : Nat} (h : n % 2 = c % 2) : cBit n (c.testBit 0) = n / 2 := by
  unfold cBit cStep
  rw [bit0]
  have h1 := xor_mod2 n (decide (c % 2 = 1)).toNat
  have h2 := xor_div2 n (decide (c % 2 = 1)).toNat
  by_cases hc : c % 2 = 1
  · simp only [hc, decide_true, Bool.toNat_true] at h1 h2 ⊢
    rw [if_neg (by omega), h2]; simp
  · simp only [hc, decide_false, Bool.toNat_false] at h1 h2 ⊢
    rw [if_neg (by omega), h2]; simp

set_option maxHeartbeats 400000 in
set_option maxRecDepth 100000 in
theorem refOf_any (a : Option Addr) (m c : Nat) (l : List Nat) (w : World) (h : Rd w a m l) (hm : m ≤ 3000000) :
    Calls Try.prog 47 #[.slice a m c] w fun e w' => e = .returned (.int .u32 ((cSum l : Nat) : Int)) ∧ w' = w := by
  have HR := Lib.hid h
  clear h
  go_enter Try.func47, Try.ntmps47
  go_wp2
  go_loopg [3, 4] m (fun k d i wr => ∃ j x : Nat, k = m - j ∧ j ≤ m ∧ i = .int .i64 (j : Int) ∧ d = .int .u32 (x : Int) ∧ x < 4294967296 ∧ x = cState 4294967295 (l.take j) ∧ wr = w)
  case atStart => exact ⟨0, 4294967295, rfl, Nat.zero_le _, rfl, rfl, by omega, by simp [cState, bitsOf, cBits], rfl⟩
  case round =>
    obtain ⟨j, x, hk, hj, rfl, rfl, hx, hs, rfl⟩ := hrel
    have HK := Lib.hid hk
    have HS := Lib.hid hs
    clear hk hs
    by_cases hlt : j < m
    · obtain ⟨b, o, rfl, hc⟩ := HR.out.2.2 (by omega)
      have hcell := hc j hlt
      have hl := HR.out.1
      have hy : l.getD j 0 < 256 := HR.out.2.1 _ (by simp [List.getD, show j < l.length by omega])
      obtain ⟨y, hye⟩ : ∃ y, y = l.getD j 0 := ⟨_, rfl⟩
      rw [← hye] at hcell hy
      have HY := Lib.hid hye
      have HL := Lib.hid hl
      have HX := Lib.hid hx
      have HYB := Lib.hid hy
      clear hye hl hc
      go_wp2
      go_loopg [3, 5, 6] 8 (fun k d e i wx => ∃ p z q : Nat, k = 8 - p ∧ p ≤ 8 ∧ i = .int .i64 (p : Int) ∧ d = .int .u32 (z : Int) ∧ z < 4294967296 ∧ e = .int .u8 (q : Int) ∧ q < 256 ∧ cBits z (nBits (8 - p) q) = cBits x (nBits 8 y) ∧ wx = wr)
      case atStart => exact ⟨0, x, y, rfl, Nat.zero_le _, rfl, rfl, HX.out, rfl, HYB.out, rfl, rfl⟩
      case round =>
        obtain ⟨p, z, q, hk2, hp, rfl, rfl, hz, rfl, hq, hs2, rfl⟩ := hrel
        have HK2 := Lib.hid hk2
        have HS2 := Lib.hid hs2
        clear hk2 hs2
        by_cases hp8 : p < 8
        · by_cases hd : z % 2 = q % 2
          · have hd' : ((z : Int) % 2 != (q : Int) % 2) = false := by simp; omega
            have HD := Lib.hid hd
            clear hd
            go_wp2
            go_roundg (8 - (p + 1))
            case measure => have := HK2.out; omega
            case rel => exact ⟨p + 1, z / 2, q / 2, rfl, by omega, by go_num, rfl, by omega, rfl, by omega, by rw [← HS2.out, cBits_8 z q hp8, cBit_same HD.out], rfl⟩
          · have hd' : ((z : Int) % 2 != (q : Int) % 2) = true := by simp; omega
            have HD := Lib.hid hd
            clear hd
            go_wp2
            go_roundg (8 - (p + 1))
            case measure => have := HK2.out; omega
            case rel => exact ⟨p + 1, z / 2 ^^^ 3945912366, q / 2, rfl, by omega, by go_num, congrArg (Value.int .u32) (u32_xor_nat (z / 2) 3945912366 (by omega) (by omega)), Nat.xor_lt_two_pow (n := 32) (by omega) (by omega), rfl, by omega, by rw [← HS2.out, cBits_8 z q hp8, cBit_differs HD.out], rfl⟩
        · have : p = 8 := by omega
          subst this
          go_wp2
          go_roundg (m - (j + 1))
          case measure => have := HK.out; omega
          case rel => exact ⟨j + 1, z, rfl, by omega, by go_num, rfl, hz, by
            rw [List.take_succ_eq_append_getElem (by have := HL.out; omega), cState_append, ← HS.out]
            have h1 := HS2.out
            have h2 : cState x [y] = cBits x (nBits 8 y) := by simp [cState, bitsOf]
            have h3 : y = l[j]'(by have := HL.out; omega) := by rw [HY.out]; simp [List.getD, show j < l.length by have := HL.out; omega]
            rw [← h3, h2, ← h1]; rfl, rfl⟩
    · have : j = m := by omega
      subst this
      go_wp2
      go_ret
      have h1 := HS.out
      rw [List.take_of_length_le (by have := HR.out.1; omega)] at h1
      refine ⟨?_, rfl⟩
      unfold cSum
      rw [← h1]
      exact congrArg (fun z : Int => Ending.returned (.int .u32 z)) (by omega : (4294967295 - (x : Int)) = ((4294967295 - x : Nat) : Int))

/-- The lowest bytes of a number, the lowest first. -/
def sumQ : Nat → Nat → List Nat
  | 0, _ => []
  | k + 1, m => m % 256 :: sumQ k (m / 256)

theorem sumQ_sumB {N : Nat} (h : N < 4294967296) : sumQ 4 N = sumB N := by
  simp only [sumQ, sumB, List.cons.injEq, and_true, true_and]; omega

theorem sumQ_next {j : Nat} (h : j < 4) (m : Nat) : sumQ (4 - j) m = m % 256 :: sumQ (4 - (j + 1)) (m / 256) := by
  obtain ⟨k, hk⟩ : ∃ k, 4 - j = k + 1 := ⟨3 - j, by omega⟩
  have hk' : 4 - (j + 1) = k := by omega
  rw [hk, hk']; rfl

theorem sumQ_length (k m : Nat) : (sumQ k m).length = k := by
  induction k generalizing m with
  | zero => rfl
  | succ k ih => simp [sumQ, ih]

set_option maxHeartbeats 400000 in
set_option maxRecDepth 100000 in
theorem refSeal_any (a : Option Addr) (n c : Nat) (l : List Nat) (w : World) (h : Rd w a n l) (hn : n ≤ 1000000) :
    Calls Try.prog 35 #[.slice a n c] w fun e w' => ∃ v, e = .returned v ∧ Own w' w.heap.size v (l ++ sumB (cSum l)) ∧ Below w.heap.size w w' := by
  obtain ⟨i0, hi0, hz0, hz1, hz2⟩ := info_parts info5
  have HR := Lib.hid h
  clear h
  obtain ⟨S, hS⟩ : ∃ S, S = cSum l := ⟨_, rfl⟩
  have hS4 : S < 4294967296 := by rw [hS]; exact cSum_lt l
  have HS := Lib.hid hS
  have HS4 := Lib.hid hS4
  clear hS hS4
  go_enter Try.func35, Try.ntmps35
  go_wp2_with fail
  refine (refOf_any a n c l w HR.out (by omega)).mono ?_
  rintro e w1 ⟨rfl, rfl⟩
  rw [← HS.out]
  go_wp2_with (at_builtin; have _t := hn; refine wpList_fresh rfl (.tmp 8) (.tmp 9) rfl w1.heap.size rfl a n c rfl (heap_alloc_new w1 _) l (HR.out.later (Below.alloc0 _ _)) (by omega) ?next)
  case next =>
    intro gO cO w2 hgO hO hg2
    have HO := Lib.hid hO
    have HB2 := Lib.hid ((Below.alloc0 w1 _).grown hg2 (by simp) (by simp))
    clear hO hg2
    go_wp2
    go_loopg [3, 4, 5] 4 (fun k d v i wr => ∃ (j m : Nat) (l' : List Nat), k = 4 - j ∧ j ≤ 4 ∧ i = .int .i64 (j : Int) ∧ d = .int .u32 (m : Int) ∧ m < 4294967296 ∧ Own wr w1.heap.size v l' ∧ l' ++ sumQ (4 - j) m = l ++ sumB S ∧ Below w1.heap.size w1 wr)
    case atStart => exact ⟨0, S, l, rfl, Nat.zero_le _, rfl, rfl, HS4.out, HO.out, by rw [← sumQ_sumB HS4.out], HB2.out⟩
    case round =>
      obtain ⟨j, m, l', hk, hj, rfl, rfl, hm, ho, he, hb⟩ := hrel
      have hlen : l'.length ≤ 1000004 := by
        have h1 : (l' ++ sumQ (4 - j) m).length = (l ++ sumB S).length := by rw [he]
        rw [List.length_append, List.length_append, sumQ_length, HR.out.1] at h1
        have : (sumB S).length = 4 := rfl
        omega
      have HLE := Lib.hid hlen
      have HK := Lib.hid hk
      have HE := Lib.hid he
      have HOJ := Lib.hid ho
      have HBJ := Lib.hid hb
      have HM := Lib.hid hm
      clear hk he ho hb HO HB2 hlen
      by_cases hlt : j < 4
      · go_wp2_with (at_builtin; refine wpList_append_own_at _ rfl (.tmp 15) (.tmp 19) 26 rfl w1.heap.size 5 i0 _ 1 1 Try.underlying26 hi0 hz0 hz1 hz2 rfl (by omega) _ l'.length (cB l') rfl (HOJ.out.2.alloc _) ⟨wr.heap.size, 0, none⟩ 1 1 [.int .u8 ((m : Int) % 256)] rfl ?hlen (cell_one_new _ _ _) ?one ?h63 ?hby ?hbase ?next)
        case hlen => rfl
        case one => intro u hu; simp only [List.mem_singleton] at hu; subst hu; rfl
        case h63 => have := HLE.out; unfold maxLen; omega
        case hby => have := HLE.out; omega
        case hbase => have := HBJ.out.size; simp; omega
        case next =>
          intro v' w' hown hg _ _
          have HB' := Lib.hid ((HBJ.out.alloc HBJ.out.size _).grown hg (by have := HBJ.out.size; simp; omega) (fun k hk => (HOJ.out.2.lt k hk).1))
          have HO' : Hid (Own w' w1.heap.size v' (l' ++ [m % 256])) := Own.snoc (by omega) HOJ.out.1 (by simpa using hown)
          clear hown hg
          go_wp2
          go_roundg (4 - (j + 1))
          case measure => have := HK.out; omega
          case rel => exact ⟨j + 1, m / 256, l' ++ [m % 256], rfl, by omega, by go_num, rfl, by have := HM.out; omega, HO'.out, by rw [← HE.out, sumQ_next hlt]; simp, HB'.out⟩
      · have : j = 4 := by omega
        subst this
        go_wp2
        go_ret
        refine ⟨_, rfl, ?_, HBJ.out⟩
        have h1 := HE.out
        have h2 : sumQ (4 - 4) m = [] := rfl
        rw [h2, List.append_nil] at h1
        have := HOJ.out
        rw [h1, HS.out] at this
        exact this

end Go.Proofs.Ytkfnjekeegebaaa
