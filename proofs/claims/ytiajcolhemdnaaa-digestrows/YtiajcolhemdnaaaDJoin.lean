/- The contract of digest's Join, over any world. -/
import Derived.Test.YtiajcolhemdnaaaDCut
namespace Go.Proofs.Ytiajcolhemdnaaa
open Go.RowKit

/-- The slice '.slice a n _' reads as the digests L. -/
def RdD (w : World) (a : Option Addr) (n : Nat) (L : List (Nat × Nat)) : Prop :=
  L.length = n ∧ (0 < n → ∃ b o, a = some ⟨b, o, none⟩ ∧ ∀ j, j < n → w.cell? ⟨b, o + j * 2, none⟩ = some (.int .u64 (((L.getD j (0, 0)).1 : Nat) : Int)) ∧ w.cell? ⟨b, o + j * 2 + 1, none⟩ = some (.int .u64 (((L.getD j (0, 0)).2 : Nat) : Int)))

theorem RdD.later {w w' : World} {a : Option Addr} {n : Nat} {L : List (Nat × Nat)} (h : RdD w a n L) (hb : Below w.heap.size w w') : RdD w' a n L := by
  refine ⟨h.1, fun hn => ?_⟩
  obtain ⟨b, o, rfl, hc⟩ := h.2 hn
  refine ⟨b, o, rfl, fun j hj => ?_⟩
  have hlt : b < w.heap.size := World.block_lt_of_cell? w _ (hc j hj).1
  exact ⟨(hb.cell (p := ⟨b, o + j * 2, none⟩) hlt).trans (hc j hj).1, (hb.cell (p := ⟨b, o + j * 2 + 1, none⟩) hlt).trans (hc j hj).2⟩

theorem dJoin_take_le (L : List (Nat × Nat)) (j : Nat) : (dJoin (L.take j)).1 ≤ (dJoin L).1 := by
  have key : ∀ (A B : List (Nat × Nat)), (dJoin A).1 ≤ (dJoin (A ++ B)).1 := by
    intro A B
    induction B generalizing A with
    | nil => simp
    | cons d r ih =>
      have h1 := ih (A ++ [d])
      rw [dJoin_snoc] at h1
      simp only [List.append_assoc, List.singleton_append] at h1
      omega
  have := key (L.take j) (L.drop j)
  rwa [List.take_append_drop] at this

theorem plus_mod {m d : Nat} (hm : m < 2305843009213693951) : (if m + d % 2305843009213693951 < 2305843009213693951 then m + d % 2305843009213693951 else m + d % 2305843009213693951 - 2305843009213693951) = (m + d) % 2305843009213693951 := by
  split <;> omega

set_option maxHeartbeats 2000000 in
set_option maxRecDepth 100000 in
theorem join_any (a : Option Addr) (n c : Nat) (L : List (Nat × Nat)) (w : World) (h : RdD w a n L) (hn : n ≤ 1000) (hl : (dJoin L).1 < 18446744073709551616) (hs : ∀ d ∈ L, d.2 < 18446744073709551616) :
    Calls Try.prog 9 #[.slice a n c] w fun e w' => e = .returned (.agg #[.int .u64 (((dJoin L).1 : Nat) : Int), .int .u64 (((dJoin L).2 : Nat) : Int)]) ∧ Below w.heap.size w w' := by
  have HR := Lib.hid h
  have HL := Lib.hid hl
  have HS := Lib.hid hs
  clear h hl hs
  go_enter Try.func9, Try.ntmps9
  go_wp2
  go_loopg [8] n (fun k i wr => ∃ j s t : Nat, k = n - j ∧ j ≤ n ∧ i = .int .i64 (j : Int) ∧ Hid ((s, t) = dJoin (L.take j)) ∧ Hid (Below w.heap.size w wr) ∧ wr.cell? ⟨w.heap.size + 1, 0, none⟩ = some (.int .u64 (s : Int)) ∧ wr.cell? ⟨w.heap.size + 1, 1, none⟩ = some (.int .u64 (t : Int)) ∧ wr.frozen? ⟨w.heap.size + 1, 0, none⟩ = false ∧ wr.frozen? ⟨w.heap.size + 1, 1, none⟩ = false ∧ wr.cell? ⟨w.heap.size, 0, none⟩ = some (.int .u64 0) ∧ wr.cell? ⟨w.heap.size, 1, none⟩ = some (.int .u64 0) ∧ wr.frozen? ⟨w.heap.size, 0, none⟩ = false ∧ wr.frozen? ⟨w.heap.size, 1, none⟩ = false)
  case atStart => exact ⟨0, 0, 0, rfl, Nat.zero_le _, rfl, Lib.hid (by simp [dJoin]), Lib.hid ((Below.alloc0 w _).alloc (by simp) _), by simp [go_sem], by simp [go_sem], by simp [go_sem], by simp [go_sem], by simp [go_sem], by simp [go_sem], by simp [go_sem], by simp [go_sem]⟩
  case round =>
    obtain ⟨j, s, t, hk, hj, rfl, HT, HB, c0, c1, f0, f1, c2, c3, f2, f3⟩ := hrel
    have HK := Lib.hid hk
    clear hk
    by_cases hlt : j < n
    · have hr := HR.out.later HB.out
      obtain ⟨b, o, rfl, hc⟩ := hr.2 (by omega)
      obtain ⟨e0, e1⟩ := hc j hlt
      obtain ⟨d, hd⟩ : ∃ d, d = (L.getD j (0, 0)).1 := ⟨_, rfl⟩
      obtain ⟨u, hu⟩ : ∃ u, u = (L.getD j (0, 0)).2 := ⟨_, rfl⟩
      rw [← hd] at e0
      rw [← hu] at e1
      have HD := Lib.hid hd
      have HU := Lib.hid hu
      clear hr hc hd hu
      have hnext : dJoin (L.take (j + 1)) = (s + d, (t * dPow d + u) % 2305843009213693951) := by
        have hjl : j < L.length := by have := HR.out.1; omega
        have h1 : L[j]'hjl = (d, u) := by
          have : L.getD j (0, 0) = L[j]'hjl := by simp [List.getD, hjl]
          rw [HD.out, HU.out, ← this]
        rw [List.take_succ_eq_append_getElem hjl, dJoin_snoc, ← HT.out, h1]
      have hsd : s + d < 18446744073709551616 := by
        have h1 := dJoin_take_le L (j + 1)
        rw [hnext] at h1
        exact Nat.lt_of_le_of_lt h1 HL.out
      have hw : IntKind.u64.wrap ((s : Int) + (d : Int)) = ((s + d : Nat) : Int) := by rw [IntKind.wrap_u64]; omega
      have htl : t < 2305843009213693951 := by have := dJoin_lt (L.take j); rw [← HT.out] at this; exact this
      have HM : Hid (∀ W, Calls Try.prog 15 #[.int .u64 (t : Int), .int .u64 (d : Int)] W fun e w' => e = .returned (.int .u64 ((t * dPow d % 2305843009213693951 : Nat) : Int)) ∧ w' = W) := Lib.hid fun W => moved_any t d W htl (by omega)
      have HP : Hid (∀ W, Calls Try.prog 12 #[.int .u64 ((t * dPow d % 2305843009213693951 : Nat) : Int), .int .u64 ((u : Int) % 2305843009213693951)] W fun e w' => e = .returned (.int .u64 (((t * dPow d + u) % 2305843009213693951 : Nat) : Int)) ∧ w' = W) := by
        have hlt : t * dPow d % 2305843009213693951 < 2305843009213693951 := Nat.mod_lt _ (by omega)
        refine Lib.hid fun W => ?_
        have h1 := plus_any (t * dPow d % 2305843009213693951) (u % 2305843009213693951) W (by omega)
        rw [plus_mod hlt, Nat.add_mod, Nat.mod_mod, ← Nat.add_mod] at h1
        have h2 : ((u % 2305843009213693951 : Nat) : Int) = (u : Int) % 2305843009213693951 := by omega
        rw [h2] at h1
        exact h1
      obtain ⟨t2, ht2⟩ : ∃ t2, t2 = (t * dPow d + u) % 2305843009213693951 := ⟨_, rfl⟩
      rw [← ht2] at HP hnext
      obtain ⟨m, hm⟩ : ∃ m, m = t * dPow d % 2305843009213693951 := ⟨_, rfl⟩
      rw [← hm] at HP HM
      obtain ⟨s2, hs2⟩ : ∃ s2, s2 = s + d := ⟨_, rfl⟩
      rw [← hs2] at hw hnext
      have HNX := Lib.hid hnext
      have hsz : w.heap.size + 1 < wr.heap.size := World.block_lt_of_cell? wr _ c0
      clear hnext hsd htl ht2 hm hs2
      go_wp2_with fail
      obtain ⟨w3, h3⟩ : ∃ w3, w3 = wr.alloc (.cells #[.int .u64 (d : Int), .int .u64 (u : Int)] 28) := ⟨_, rfl⟩
      rw [← h3]
      have hb3 : Below wr.heap.size wr w3 := by rw [h3]; exact Below.alloc0 _ _
      have g0 : w3.cell? ⟨wr.heap.size, 0, none⟩ = some (.int .u64 (d : Int)) := by rw [h3]; simp [go_sem]
      have g1 : w3.cell? ⟨wr.heap.size, 1, none⟩ = some (.int .u64 (u : Int)) := by rw [h3]; simp [go_sem]
      clear h3
      refine wp_region_still_tail 15 (by kernel_rfl) (by kernel_rfl) ?_
      simp only [List.take_succ_cons, List.take_zero, List.drop_succ_cons, List.drop_zero]
      change wpStill _ _ w3.drew _ _ _
      have HB3 : Hid (Below wr.heap.size wr w3.drew) := Lib.hid hb3.drew
      replace g0 : w3.drew.cell? ⟨wr.heap.size, 0, none⟩ = some (.int .u64 (d : Int)) := g0
      replace g1 : w3.drew.cell? ⟨wr.heap.size, 1, none⟩ = some (.int .u64 (u : Int)) := g1
      obtain ⟨w4, h4⟩ : ∃ w4, w4 = w3.drew := ⟨_, rfl⟩
      rw [← h4] at HB3 g0 g1 ⊢
      have H4 := Lib.hid h4
      have k0 : w4.cell? ⟨w.heap.size + 1, 0, none⟩ = some (.int .u64 (s : Int)) := (HB3.out.cell hsz).trans c0
      have k1 : w4.cell? ⟨w.heap.size + 1, 1, none⟩ = some (.int .u64 (t : Int)) := (HB3.out.cell hsz).trans c1
      have q0 : w4.frozen? ⟨w.heap.size + 1, 0, none⟩ = false := (HB3.out.frozen hsz).trans f0
      have q1 : w4.frozen? ⟨w.heap.size + 1, 1, none⟩ = false := (HB3.out.frozen hsz).trans f1
      have KK : Hid (w4.cell? ⟨w.heap.size, 0, none⟩ = some (.int .u64 0) ∧ w4.cell? ⟨w.heap.size, 1, none⟩ = some (.int .u64 0) ∧ w4.frozen? ⟨w.heap.size, 0, none⟩ = false ∧ w4.frozen? ⟨w.heap.size, 1, none⟩ = false) :=
        have hz : w.heap.size < wr.heap.size := Nat.lt_of_succ_lt hsz
        Lib.hid ⟨(HB3.out.cell hz).trans c2, (HB3.out.cell hz).trans c3, (HB3.out.frozen hz).trans f2, (HB3.out.frozen hz).trans f3⟩
      have HBW : Hid (Below w.heap.size w w4) := Lib.hid (HB.out.trans (HB3.out.mono (Nat.le_of_lt (Nat.lt_of_succ_lt hsz))))
      clear hb3 h4 c0 c1 c2 c3 f0 f1 f2 f3 hsz e0 e1
      repeat still_step
      still_call (HM.out _)
      repeat still_step
      still_call (HP.out _)
      repeat still_step
      refine wpStill_nil ?_
      change wpList _ _ _ _ _ w3.drew
      rw [← H4.out]
      go_wp2
      go_roundg (n - (j + 1))
      case measure => have := HK.out; omega
      case rel =>
        exact ⟨j + 1, s2, t2, rfl, by omega, by go_num, Lib.hid HNX.out.symm, Lib.hid ((HBW.out.setCell (by simp) _).setCell (by simp) _), by simp [go_sem, k0], by simp [go_sem, k1], by simp [go_sem, q0], by simp [go_sem, q1], by simp [go_sem, KK.out.1], by simp [go_sem, KK.out.2.1], by simp [go_sem, KK.out.2.2.1], by simp [go_sem, KK.out.2.2.2]⟩
    · have : j = n := by omega
      subst this
      have h1 := HT.out
      rw [List.take_of_length_le (by have := HR.out.1; omega)] at h1
      have H1 := Lib.hid h1
      clear h1
      go_wp2
      obtain ⟨w5, h5⟩ : ∃ w5, w5 = (wr.setCell ⟨w.heap.size, 0, none⟩ (.int .u64 (s : Int))).setCell ⟨w.heap.size, 1, none⟩ (.int .u64 (t : Int)) := ⟨_, rfl⟩
      rw [← h5]
      have d0 : w5.cell? ⟨w.heap.size, 0, none⟩ = some (.int .u64 (s : Int)) := by rw [h5]; simp [go_sem, c2]
      have d1 : w5.cell? ⟨w.heap.size, 1, none⟩ = some (.int .u64 (t : Int)) := by rw [h5]; simp [go_sem, c3]
      have hb5 : Below w.heap.size w w5 := by rw [h5]; exact (HB.out.setCell (by simp) _).setCell (by simp) _
      try simp only [Exit.inBlock, Exit.then]
      refine bodyPost_ret (by simp [results, Try.results9, go_sem, d0, d1]; try rfl) rfl ?_
      exact ⟨by rw [← H1.out], hb5⟩
end Go.Proofs.Ytiajcolhemdnaaa
