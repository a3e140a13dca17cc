/- The contract of varint.Bytes, over any world. -/
import Derived.Test.YtcmbnijjkpfhlaaVPut
import Derived.Test.YtcmbnijjkpfhlaaRdT
namespace Go.Proofs.Ytcmbnijjkpfhlaa
open Go.RowKit

/-- A text's bytes. -/
def tEnc (t : List Nat) : List Nat := vEnc t.length ++ t

theorem tEncs_len (T : List (List Nat)) (h : ∀ t ∈ T, t.length ≤ 500) : (T.flatMap tEnc).length ≤ 510 * T.length := by
  induction T with
  | nil => simp
  | cons x r ih =>
    have h0 := h x (by simp)
    have h1 := vEnc_len10 (n := x.length) (by omega)
    have h2 := ih fun y hy => h y (by simp [hy])
    simp only [List.flatMap_cons, List.length_append, List.length_cons, tEnc]
    omega

set_option maxHeartbeats 400000 in
set_option maxRecDepth 100000 in
theorem bytesPut_any (a : Option Addr) (n c : Nat) (l : List Nat) (ta : Option Addr) (tn tc : Nat) (T : List (List Nat)) (w : World) (h : Rd w a n l) (ht : RdT w ta tn T) (hn : n ≤ 1000000) (hm : tn ≤ 1000) (h5 : ∀ t ∈ T, t.length ≤ 500) :
    Calls Try.prog 29 #[.slice a n c, .slice ta tn tc] w fun e w' => ∃ v, e = .returned v ∧ Own w' w.heap.size v (l ++ T.flatMap tEnc) ∧ Below w.heap.size w w' := by
  have HT := Lib.hid ht
  have HR := Lib.hid h
  have H5 := Lib.hid h5
  clear ht h h5
  go_enter Try.func29, Try.ntmps29
  go_wp2_with fail
  refine (clone_any a n c l _ HR.out hn).mono ?_
  rintro e w1 ⟨v, rfl, ho, hb⟩
  have HO := Lib.hid ho
  have HB := Lib.hid hb
  clear ho hb
  go_wp2
  go_loopg [5, 12] tn (fun k d i wr => ∃ j, k = tn - j ∧ j ≤ tn ∧ i = .int .i64 (j : Int) ∧ Own wr w.heap.size d (l ++ (T.take j).flatMap tEnc) ∧ Below w.heap.size w wr)
  case atStart => exact ⟨0, rfl, Nat.zero_le _, rfl, by simpa using HO.out, HB.out⟩
  case round =>
    obtain ⟨j, hk, hj, rfl, hoj, hbj⟩ := hrel
    have HK := Lib.hid hk
    have HOJ := Lib.hid hoj
    have HBJ := Lib.hid hbj
    clear hk hoj hbj HO HB
    by_cases hlt : j < tn
    · obtain ⟨tb, t0, aj, cj, rfl, hcell, hrj⟩ := HT.out.at_ HBJ.out hlt
      have hT := HT.out.1
      obtain ⟨t, hte⟩ : ∃ t, t = T.getD j [] := ⟨_, rfl⟩
      rw [← hte] at hcell hrj
      have ht5 : t.length ≤ 500 := by rw [hte]; exact H5.out _ (by simp [List.getD, show j < T.length by omega])
      have hlen : (l ++ (T.take j).flatMap tEnc).length ≤ 1600000 := by
        have h1 := tEncs_len (T.take j) fun y hy => H5.out y (List.mem_of_mem_take hy)
        have h2 : (T.take j).length ≤ j := List.length_take_le _ _
        have h3 := HR.out.1
        rw [List.length_append]; omega
      obtain ⟨m, hm'⟩ : ∃ m, m = t.length := ⟨_, rfl⟩
      rw [← hm'] at hcell hrj ht5
      have HTE := Lib.hid hte
      have HME := Lib.hid hm'
      have HLen := Lib.hid hlen
      have HTL := Lib.hid hT
      have HRJ := Lib.hid hrj
      have h10 : (vEnc m).length ≤ 10 := vEnc_len10 (by omega)
      clear hte hm' hT hlen hrj
      go_wp2_with fail
      refine (appendNumber_any _ w.heap.size m _ _ HOJ.out HBJ.out.size (by omega) (by have := HLen.out; omega)).mono ?_
      rintro e w2 ⟨v2, rfl, ho2, hb2⟩
      have HO2 := Lib.hid ho2
      have HB2 := Lib.hid hb2
      clear ho2 hb2
      go_wp2_with (at_builtin; refine wpList_append_rd rfl (.tmp 21) (.tmp 22) rfl _ rfl aj m cj rfl w.heap.size _ HO2.out (HBJ.out.trans HB2.out).size t ?hr ?hl ?next)
      case hr => exact HRJ.out.later (HBJ.out.trans HB2.out)
      case hl => have := HLen.out; rw [List.length_append]; omega
      case next =>
        intro v' w' ho' hb'
        have HO' := Lib.hid ho'
        have HB' := Lib.hid hb'
        clear ho' hb'
        go_wp2
        go_roundg (tn - (j + 1))
        case measure => have := HK.out; omega
        case rel => exact ⟨j + 1, rfl, by omega, by go_num, by
          rw [take_snocT (by have := HTL.out; omega), List.flatMap_append, ← HTE.out]
          have := HO'.out
          simpa [tEnc, HME.out] using this, (HBJ.out.trans HB2.out).trans HB'.out⟩
    · obtain rfl : j = tn := by omega
      go_wp2
      go_ret
      exact ⟨_, rfl, by have := HT.out.1; have h := HOJ.out; rw [List.take_of_length_le (by omega)] at h; exact h, HBJ.out⟩

theorem bytesPut_sl (a : Option Addr) (n c : Nat) (l : List Nat) (ta : Option Addr) (tn tc : Nat) (T : List (List Nat)) (B : List Nat) (w : World) (h : Rd w a n l) (ht : RdT w ta tn T) (hn : n ≤ 1000000) (hm : tn ≤ 1000) (h5 : ∀ t ∈ T, t.length ≤ 500) (hB : B = l ++ T.flatMap tEnc) :
    Calls Try.prog 29 #[.slice a n c, .slice ta tn tc] w fun e w' => ∃ a' m c', e = .returned (.slice a' m c') ∧ B.length = m ∧ Rd w' a' m B ∧ Below w.heap.size w w' := by
  refine (bytesPut_any a n c l ta tn tc T w h ht hn hm h5).mono ?_
  rintro e w' ⟨v, rfl, ho, hb⟩
  rw [← hB] at ho
  obtain ⟨a', c', rfl, hr, _⟩ := ho.sl
  exact ⟨a', _, c', rfl, rfl, hr, hb⟩

end Go.Proofs.Ytcmbnijjkpfhlaa
