/- The name of a pool: both functions' contracts, over any world. -/
import Derived.Test.YtcmbnijjkpfhlaaLbMath
import Derived.Laws.RangeAny
namespace Go.Proofs.Ytcmbnijjkpfhlaa
open Go.RowKit
set_option linter.unusedSimpArgs false

theorem strB_at {l : List Nat} (h : ∀ z ∈ l, z < 256) {i : Nat} (hi : i < (strB l).size) : ((strB l)[i]'hi).toNat = l.getD i 0 := by
  have hl : i < l.length := by rw [strB_size] at hi; exact hi
  have h1 : ((strB l).data.toList)[i]? = some (UInt8.ofNat (l[i])) := by
    simp only [strB, strOfNums_data, List.map_map]
    simp [hl]
  have h2 : ((strB l).data.toList)[i]? = some ((strB l)[i]'hi) := by
    have : i < (strB l).data.size := hi
    simp [ByteArray.getElem_eq_getElem_data, this]
  rw [h2] at h1
  injection h1 with h1
  rw [h1]
  have := h l[i] (List.getElem_mem hl)
  simp [List.getD, hl]
  omega

theorem all_snoc {l : List Nat} {j : Nat} (hj : j < l.length) (h : (l.take j).all lett = true) (hc : lett (l.getD j 0) = true) : (l.take (j + 1)).all lett = true := by
  have e : l.take (j + 1) = l.take j ++ [l.getD j 0] := by rw [List.take_add_one]; simp [List.getD, hj]
  rw [e, List.all_append, h, List.all_cons, hc]
  rfl

theorem all_not {l : List Nat} {j : Nat} (hj : j < l.length) (hc : lett (l.getD j 0) = false) : l.all lett = false := by
  rw [List.all_eq_false]
  refine ⟨l.getD j 0, ?_, by rw [hc]; simp⟩
  simp [List.getD, hj]

theorem pool_long {l : List Nat} (h : l.length < 1 ∨ 8 < l.length) : poolB l = false := by
  simp only [poolB, Bool.and_eq_false_iff, decide_eq_false_iff_not]
  omega

set_option maxHeartbeats 1000000 in
set_option maxRecDepth 100000 in
theorem pool_any (l : List Nat) (w : World) (hb : ∀ z ∈ l, z < 256) (hn : l.length ≤ 1000000) :
    Calls Try.prog 12 #[.string (strB l)] w fun e w' => e = .returned (.bool (poolB l)) ∧ Below w.heap.size w w' := by
  obtain ⟨s, hs⟩ : ∃ s, s = strB l := ⟨_, rfl⟩
  have hsz : s.size = l.length := by rw [hs, strB_size]
  have hat : ∀ i (hi : i < s.size), (s[i]'hi).toNat = l.getD i 0 := by subst hs; exact fun i hi => strB_at hb hi
  rw [← hs]
  have HAT := Lib.hid hat
  obtain ⟨n, hnn⟩ : ∃ n, n = s.size := ⟨_, rfl⟩
  have HN : Hid (s.size = n) := Lib.hid hnn.symm
  have HL : Hid (l.length = n) := Lib.hid (by rw [hnn, hsz])
  have hn2 : n ≤ 1000000 := by rw [hnn, hsz]; exact hn
  clear hat hs hsz hnn hn
  by_cases h1 : n < 1
  · have HP := Lib.hid (pool_long (l := l) (.inl (by rw [HL.out]; exact h1)))
    have h1' : (s.size : Int) < 1 := by rw [HN.out]; omega
    go_enter Try.func12, Try.ntmps12
    go_wp2
    go_ret
    rw [HP.out]
    exact ⟨rfl, Below.refl _ _⟩
  have h1' : ¬ (s.size : Int) < 1 := by rw [HN.out]; omega
  by_cases h8 : 8 < n
  · have HP := Lib.hid (pool_long (l := l) (.inr (by rw [HL.out]; exact h8)))
    have h8' : (8 : Int) < (s.size : Int) := by rw [HN.out]; omega
    go_enter Try.func12, Try.ntmps12
    go_wp2
    go_ret
    rw [HP.out]
    exact ⟨rfl, Below.refl _ _⟩
  have h8' : ¬ (8 : Int) < (s.size : Int) := by rw [HN.out]; omega
  have HY : Hid (l.all lett = true → poolB l = true) := Lib.hid fun h => by
    have := HL.out
    simp only [poolB, h, Bool.and_true, Bool.and_eq_true, decide_eq_true_eq]
    omega
  have HX : Hid (l.all lett = false → poolB l = false) := Lib.hid fun h => by simp [poolB, h]
  obtain ⟨B, hB⟩ : ∃ B, B = poolB l := ⟨_, rfl⟩
  rw [← hB] at HY HX ⊢
  clear hB h1 h8 hb
  go_enter Try.func12, Try.ntmps12
  go_wp2
  go_loopw [2] (fun v wr => ∃ j, wr = w.iter s j ∧ j ≤ n ∧ v = .bool false ∧ Hid ((l.take j).all lett = true)) (fun _ wr => n - wr.iterPos w.heap.size)
  case atStart => exact ⟨0, rfl, Nat.zero_le _, rfl, Lib.hid (by simp)⟩
  case round =>
    obtain ⟨j, rfl, hj, rfl, HA⟩ := hrel
    by_cases hlt : j < n
    · have hp : j < s.size := by rw [HN.out]; exact hlt
      have hjl : j < l.length := by rw [HL.out]; exact hlt
      have hc := HAT.out j hp
      by_cases hc1 : lett (l.getD j 0) = true
      · have HS := Lib.hid (all_snoc hjl HA.out hc1)
        simp only [lett, Bool.and_eq_true, decide_eq_true_eq] at hc1
        have hd : Utf8.decode s j = (l.getD j 0, 1) := by rw [decode_ascii s j hp (by rw [hc]; omega), hc]
        have hnx0 : ∀ ty, (Instr.next (.pointer (some ⟨w.heap.size, 0, none⟩)) true ty).run Try.prog (w.iter s j) = .ok (.tuple #[.bool true, .int .i64 j, .int .i32 (l.getD j 0 : Nat)]) (w.iter s (j + 1)) := fun ty => by
          have := run_next_any (P := Try.prog) w s j ty hp
          rw [hd] at this
          exact this
        obtain ⟨c, hcc⟩ : ∃ c, c = l.getD j 0 := ⟨_, rfl⟩
        rw [← hcc] at hnx0 hc1
        have k1 : ¬ (c : Int) < 97 := by omega
        have k2 : ¬ (122 : Int) < (c : Int) := by omega
        clear hc hd hcc hjl
        go_wp2
        go_roundw
        case rel => exact ⟨j + 1, rfl, by omega, rfl, HS⟩
        case measure => simp; omega
      · have hc1' : lett (l.getD j 0) = false := by simpa using hc1
        have hX := HX.out (all_not hjl hc1')
        subst hX
        have hw := decode_le s j
        have hor : (Utf8.decode s j).1 < 97 ∨ 122 < (Utf8.decode s j).1 := by
          by_cases ha : (s[j]'hp).toNat < 128
          · rw [decode_ascii s j hp ha, hc]
            simp only [lett, Bool.and_eq_false_iff, decide_eq_false_iff_not] at hc1'
            omega
          · have := (decode_high s j hp (by omega)).1
            omega
        obtain ⟨⟨c, k⟩, hck⟩ : ∃ ck, ck = Utf8.decode s j := ⟨_, rfl⟩
        have hnx0 : ∀ ty, (Instr.next (.pointer (some ⟨w.heap.size, 0, none⟩)) true ty).run Try.prog (w.iter s j) = .ok (.tuple #[.bool true, .int .i64 j, .int .i32 (c : Nat)]) (w.iter s (j + k)) := fun ty => by
          have := run_next_any (P := Try.prog) w s j ty hp
          rw [← hck] at this
          exact this
        rw [← hck] at hor
        simp only at hor
        clear hck hc hjl hw hc1 hc1'
        by_cases k1 : (c : Int) < 97
        · go_wp2
          go_ret
          exact ⟨rfl, Below.alloc0 _ _⟩
        · have k2 : (122 : Int) < (c : Int) := by omega
          go_wp2
          go_ret
          exact ⟨rfl, Below.alloc0 _ _⟩
    · have hnx0 : ∀ ty, (Instr.next (.pointer (some ⟨w.heap.size, 0, none⟩)) true ty).run Try.prog (w.iter s j) = _ := fun ty => run_next_end w s j ty (by rw [HN.out]; exact hlt)
      have hY : B = true := HY.out (by
        have := HA.out
        rwa [List.take_of_length_le (by have := HL.out; omega)] at this)
      subst hY
      go_wp2
      go_ret
      exact ⟨rfl, Below.alloc0 _ _⟩

set_option maxHeartbeats 1000000 in
set_option maxRecDepth 100000 in
theorem refPool_any (l : List Nat) (w : World) (hb : ∀ z ∈ l, z < 256) (hn : l.length ≤ 1000000) :
    Calls Try.prog 13 #[.string (strB l)] w fun e w' => e = .returned (.bool (poolB l)) ∧ w = w' := by
  obtain ⟨s, hs⟩ : ∃ s, s = strB l := ⟨_, rfl⟩
  have hsz : s.size = l.length := by rw [hs, strB_size]
  have hat : ∀ i (hi : i < s.size), (s[i]'hi).toNat = l.getD i 0 := by subst hs; exact fun i hi => strB_at hb hi
  rw [← hs]
  have HAT := Lib.hid hat
  obtain ⟨n, hnn⟩ : ∃ n, n = s.size := ⟨_, rfl⟩
  have HN : Hid (s.size = n) := Lib.hid hnn.symm
  have HL : Hid (l.length = n) := Lib.hid (by rw [hnn, hsz])
  have hn2 : n ≤ 1000000 := by rw [hnn, hsz]; exact hn
  clear hat hs hsz hnn hn
  have HP : Hid (poolB l = (decide (1 ≤ n) && (decide (n ≤ 8) && l.all lett))) := Lib.hid (by rw [← HL.out]; rfl)
  obtain ⟨B, hB⟩ : ∃ B, B = poolB l := ⟨_, rfl⟩
  rw [← hB] at HP ⊢
  clear hB hb
  go_enter Try.func13, Try.ntmps13
  go_wp2
  go_loopg [2, 3] n (fun gk v i wr => ∃ j, gk = n - j ∧ w = wr ∧ j ≤ n ∧ v = .bool false ∧ i = .int .i64 (j : Int) ∧ Hid ((l.take j).all lett = true))
  case atStart => exact ⟨0, rfl, rfl, Nat.zero_le _, rfl, rfl, Lib.hid (by simp)⟩
  case round =>
    obtain ⟨j, hgk, rfl, hj, rfl, rfl, HA⟩ := hrel
    have HGK := Lib.hid hgk
    clear hgk
    by_cases hlt : j < n
    · have hp : j < s.size := by rw [HN.out]; exact hlt
      have hp' : (j : Int) < (s.size : Int) := by omega
      have hjl : j < l.length := by rw [HL.out]; exact hlt
      have hc0 := HAT.out j hp
      obtain ⟨c, hcc⟩ : ∃ c, c = l.getD j 0 := ⟨_, rfl⟩
      have HC := Lib.hid hcc
      have hc : (s[j]'hp).toNat = c := by rw [hc0, hcc]
      clear hc0 hcc
      by_cases k1 : (c : Int) < 97
      · have hX : B = false := by
          rw [HP.out, all_not hjl (by rw [← HC.out]; simp [lett]; omega)]
          simp
        subst hX
        go_wp2
        go_ret
        exact ⟨rfl, rfl⟩
      by_cases k2 : (122 : Int) < (c : Int)
      · have hX : B = false := by
          rw [HP.out, all_not hjl (by rw [← HC.out]; simp [lett]; omega)]
          simp
        subst hX
        go_wp2
        go_ret
        exact ⟨rfl, rfl⟩
      have HS := Lib.hid (all_snoc hjl HA.out (by rw [← HC.out]; simp [lett]; omega))
      clear hjl
      go_wp2
      go_roundg (n - (j + 1))
      case measure => have := HGK.out; omega
      case rel => exact ⟨j + 1, rfl, rfl, by omega, rfl, by go_num, HS⟩
    · have hnp : ¬ (j : Int) < (s.size : Int) := by rw [HN.out]; omega
      have hjn : j = n := by omega
      subst hjn
      have hY : B = (decide (1 ≤ j) && decide (j ≤ 8)) := by
        rw [HP.out]
        have := HA.out
        rw [List.take_of_length_le (by have := HL.out; omega)] at this
        rw [this]
        simp
      by_cases k1 : 1 ≤ (s.size : Int)
      · by_cases k2 : (s.size : Int) ≤ 8
        · have hX : B = true := by rw [hY]; have := HN.out; simp; omega
          subst hX
          clear hY
          go_wp2
          go_ret
          exact ⟨rfl, rfl⟩
        · have hX : B = false := by rw [hY]; have := HN.out; simp; omega
          subst hX
          clear hY
          go_wp2
          go_ret
          exact ⟨rfl, rfl⟩
      · have hX : B = false := by rw [hY]; have := HN.out; simp; omega
        subst hX
        clear hY
        go_wp2
        go_ret
        exact ⟨rfl, rfl⟩

end Go.Proofs.Ytcmbnijjkpfhlaa
