/- The contracts of stepsOf, Or, And, Minus, over any world. -/
import Derived.Test.YtaijldcfoaeogaaGreatGESortToEHas
namespace Go.Proofs.YtaijldcfoaeogaaGreat
open Go.RowKit
set_option maxRecDepth 100000

/-- The slice '.slice a n _' reads as the sets M. -/
def RdS (w : World) (a : Option Addr) (n : Nat) (M : List (List Rn)) : Prop :=
  M.length = n ∧ (0 < n → ∃ b o, a = some ⟨b, o, none⟩ ∧ ∀ j, j < n → ∃ a' n' c', w.cell? ⟨b, o + j, none⟩ = some (.slice a' n' c') ∧ RdR w a' n' (M.getD j []))

theorem RdS.later {w w' : World} {a : Option Addr} {n : Nat} {M : List (List Rn)} (h : RdS w a n M) (hb : Below w.heap.size w w') : RdS w' a n M := by
  refine ⟨h.1, fun hn => ?_⟩
  obtain ⟨b, o, rfl, hc⟩ := h.2 hn
  refine ⟨b, o, rfl, fun j hj => ?_⟩
  obtain ⟨a', n', c', h1, h2⟩ := hc j hj
  exact ⟨a', n', c', (hb.cell (p := ⟨b, o + j, none⟩) (World.block_lt_of_cell? w _ h1)).trans h1, h2.later hb⟩

theorem RdS.nil (w : World) (a : Option Addr) : RdS w a 0 [] := ⟨rfl, by omega⟩

theorem stepsAll_take (d : Int) {M : List (List Rn)} {j : Nat} (hj : j < M.length) : stepsAll d (M.take (j + 1)) = stepsAll d (M.take j) ++ stepsR d (M.getD j []) := by
  rw [List.take_succ_eq_append_getElem hj, stepsAll_snoc]; simp [List.getD, hj]

theorem stepsAll_len (d : Int) {M : List (List Rn)} {B : Nat} (h : ∀ N ∈ M, N.length ≤ B) : (stepsAll d M).length ≤ 2 * B * M.length := by
  induction M with
  | nil => simp [stepsAll]
  | cons N M ih =>
    rw [stepsAll_cons, List.length_append, List.length_cons, Nat.mul_add, Nat.mul_one]
    have h1 := stepsR_len d N
    have h2 := h N (by simp)
    have h3 := ih fun K hK => h K (by simp [hK])
    omega

theorem getS_mem {M : List (List Rn)} {j : Nat} (hj : j < M.length) : M.getD j [] ∈ M := by
  have : M.getD j [] = M[j] := by simp [List.getD, hj]
  rw [this]; exact List.getElem_mem hj

set_option maxHeartbeats 1000000 in
theorem stepsOf_any (a : Option Addr) (n c : Nat) (L : List Rn) (d : Int) (hd : d = 1 ∨ d = -1) (la : Option Addr) (ln lc : Nat) (M : List (List Rn)) (w : World) (h : RdR w a n L) (hM : RdS w la ln M) (hn : n ≤ 1000) (hln : ln ≤ 10) (hMl : ∀ N ∈ M, N.length ≤ 1000) (hok : ∀ r ∈ L, r.ok) (hMok : ∀ N ∈ M, ∀ r ∈ N, r.ok) :
    Calls Tryz.prog 65 #[.slice a n c, .int .i64 d, .slice la ln lc] w fun e w' => ∃ v, e = .returned v ∧ OwnR w' w.heap.size 158 v (stepsR 1 L ++ stepsAll d M) ∧ Below w.heap.size w w' := by
  have HA := Lib.hid (addSteps_any (.slice none 0 0) w.heap.size [] 1 (.inl rfl) a n c L w (OwnR.nil _ _ _) (Nat.le_refl _) h (fun _ _ _ _ h => h) hok (by simp; omega))
  have HL := Lib.hid h.1
  have HM := Lib.hid hM
  have HMl := Lib.hid hMl
  have HMok := Lib.hid hMok
  have HD := Lib.hid hd
  clear h hok hM hMl hMok hd
  go_enter Tryz.func65, Tryz.ntmps65
  go_wp2_with fail
  refine HA.out.mono ?_
  rintro e w1 ⟨v, rfl, ho, hb⟩
  rw [List.nil_append] at ho
  have HO := Lib.hid ho
  have HB := Lib.hid hb
  clear ho hb HA
  go_wp2
  go_loopg [7, 14] ln (fun k s i wr => ∃ (j : Nat) (sv : Value), sv = s ∧ k = ln - j ∧ j ≤ ln ∧ i = .int .i64 (j : Int) ∧ Hid (OwnR wr w.heap.size 158 sv (stepsR 1 L ++ stepsAll d (M.take j))) ∧ Hid (Below w.heap.size w wr))
  case atStart => exact ⟨0, v, rfl, rfl, Nat.zero_le _, rfl, Lib.hid (by simpa [stepsAll] using HO.out), HB⟩
  case round =>
    obtain ⟨j, sv, rfl, hk, hj, rfl, HOj, HBj⟩ := hrel
    have HK := Lib.hid hk
    clear hk
    by_cases hlt : j < ln
    · have hjl : j < M.length := by have := HM.out.1; omega
      obtain ⟨b, o, rfl, hc⟩ := (HM.out.later HBj.out).2 (by omega)
      obtain ⟨a', n', c', hcell, hrd⟩ := hc j hlt
      obtain ⟨N, hN⟩ : ∃ N, N = M.getD j [] := ⟨_, rfl⟩
      have hlo : ∀ b' o', a' = some ⟨b', o', none⟩ → 0 < n' → b' < wr.heap.size → b' < w.heap.size := by
        intro b' o' he hn' _
        obtain ⟨b2, o2, he2, hc2⟩ := HM.out.2 (by omega)
        obtain ⟨a3, n3, c3, hcell3, hrd3⟩ := hc2 j hlt
        injection he2 with he2
        injection he2 with e1 e2
        subst e1
        subst e2
        have hlb := World.block_lt_of_cell? w _ hcell3
        have h1 := (HBj.out.cell (p := ⟨b, o + j, none⟩) hlb).trans hcell3
        rw [hcell] at h1
        injection h1 with h1
        injection h1 with e3 e4 e5
        subst e3
        subst e4
        obtain ⟨b4, o4, he4, hc4⟩ := hrd3.2 hn'
        rw [he] at he4
        injection he4 with he4
        injection he4 with e6 e7
        subst e6
        exact World.block_lt_of_cell? w _ (hc4 0 hn').1
      rw [← hN] at hrd
      have hNl : n' ≤ 1000 := by rw [← hrd.1, hN]; exact HMl.out _ (getS_mem hjl)
      have hlen : (stepsR 1 L ++ stepsAll d (M.take j)).length ≤ 2 * n + 20000 := by
        have h1 := stepsR_len 1 L
        have h2 := stepsAll_len d (M := M.take j) (B := 1000) fun K hK => HMl.out K (List.mem_of_mem_take hK)
        have h3 := HL.out
        rw [List.length_take] at h2
        rw [List.length_append]
        omega
      have HNok : Hid (∀ r ∈ N, r.ok) := Lib.hid (by rw [hN]; exact HMok.out _ (getS_mem hjl))
      have HST : Hid (stepsAll d (M.take (j + 1)) = stepsAll d (M.take j) ++ stepsR d N) := Lib.hid (by rw [stepsAll_take d hjl, ← hN])
      have HAd := Lib.hid (addSteps_any sv w.heap.size (stepsR 1 L ++ stepsAll d (M.take j)) d HD.out a' n' c' N wr HOj.out HBj.out.size hrd hlo HNok.out (by omega))
      clear hlo hrd hN hc hlen hjl
      go_wp2_with fail
      refine HAd.out.mono ?_
      rintro e w2 ⟨v2, rfl, ho2, hb2⟩
      have HO2 := Lib.hid ho2
      have HB2 := Lib.hid hb2
      clear ho2 hb2 HAd
      go_wp2
      go_roundg (ln - (j + 1))
      case measure => have := HK.out; omega
      case rel => exact ⟨j + 1, v2, rfl, rfl, by omega, by go_num, Lib.hid (by rw [HST.out, ← List.append_assoc]; exact HO2.out), Lib.hid (HBj.out.trans HB2.out)⟩
    · obtain rfl : j = ln := by omega
      go_wp2
      go_ret
      refine ⟨_, rfl, ?_, HBj.out⟩
      have h1 := HOj.out
      rw [List.take_of_length_le (by have := HM.out.1; omega)] at h1
      exact h1

set_option maxHeartbeats 1000000 in
theorem minus_any (a : Option Addr) (n c : Nat) (L : List Rn) (la : Option Addr) (ln lc : Nat) (M : List (List Rn)) (w : World) (h : RdR w a n L) (hM : RdS w la ln M) (hn : n ≤ 1000) (hln : ln ≤ 10) (hMl : ∀ N ∈ M, N.length ≤ 1000) (hok : ∀ r ∈ L, r.ok) (hMok : ∀ N ∈ M, ∀ r ∈ N, r.ok) (hL : IsSet L) :
    Calls Tryz.prog 42 #[.slice a n c, .slice la ln lc] w fun e w' => ∃ v K, e = .returned v ∧ OwnR w' w.heap.size 53 v K ∧ IsSet K ∧ (∀ z, inR K z ↔ inR L z ∧ ¬ ∃ N ∈ M, inR N z) ∧ Below w.heap.size w w' := by
  have HS := Lib.hid (stepsOf_any a n c L (-1) (.inr rfl) la ln lc M w h hM hn hln hMl hok hMok)
  have HL := Lib.hid h.1
  have HMn := Lib.hid hM.1
  have HLen : Hid ((stepsR 1 L ++ stepsAll (-1) M).length ≤ 22000) := by
    have h1 := stepsR_len 1 L
    have h2 := stepsAll_len (-1) (M := M) (B := 1000) hMl
    have h3 := h.1
    have h4 := hM.1
    exact Lib.hid (by rw [List.length_append]; omega)
  clear h hM hMl hok hMok
  go_enter Tryz.func42, Tryz.ntmps42
  go_wp2_with fail
  refine HS.out.mono ?_
  rintro e w1 ⟨v, rfl, ho, hb⟩
  obtain ⟨S, hS⟩ : ∃ S, S = stepsR 1 L ++ stepsAll (-1) M := ⟨_, rfl⟩
  rw [← hS] at ho HLen
  have hsum : sumS S = 0 := by rw [hS, sumS_append, stepsR_sum, stepsAll_sum]; rfl
  have hcnt : ∀ z, cntS S z = 1 * (occR L z : Int) + (-1) * (occAll M z : Int) := fun z => by rw [hS, cntS_append, stepsR_cnt, stepsAll_cnt]
  have HCn := Lib.hid (And.intro hsum hcnt)
  obtain ⟨a1, c1, hv, _⟩ := ho.rd
  have HC := Lib.hid (counted_any (1) a1 S.length c1 S w1 w.heap.size hb.size rfl (by have := HLen.out; omega) (fun s hs => by
    rw [hS] at hs
    rcases List.mem_append.1 hs with h | h
    · rcases stepsR_small h with h | h <;> omega
    · simp only [stepsAll, List.mem_flatMap] at h
      obtain ⟨K, _, h⟩ := h
      rcases stepsR_small h with h | h <;> omega) (by rw [← hv]; exact ho))
  subst hv
  have HB := Lib.hid hb
  clear ho hb HS hS hsum hcnt
  go_wp2_with fail
  refine HC.out.mono ?_
  rintro e w2 ⟨v2, S', rfl, hp, hr, ho2, hb2⟩
  obtain ⟨g1, g2, _⟩ := counted_set (least := 1) hp hr HCn.out.1 (by omega)
  have HG := Lib.hid (And.intro g1 g2)
  have HO2 := Lib.hid ho2
  have HB2 := Lib.hid hb2
  obtain ⟨K, hK⟩ : ∃ K, K = scanS (1) S' 0 false 0 := ⟨_, rfl⟩
  rw [← hK] at HG HO2
  clear g1 g2 hp hr ho2 hb2 HC hK
  go_wp2
  go_ret
  refine ⟨v2, K, rfl, HO2.out.mono HB.out.size, HG.out.1, fun z => ?_, HB.out.trans HB2.out⟩
  rw [HG.out.2 z, HCn.out.2 z]
  rw [← occAll_pos, ← occR_pos]
  obtain ⟨a0, ha0⟩ := hL
  have k3 := ha0.occ z
  omega

end Go.Proofs.YtaijldcfoaeogaaGreat
