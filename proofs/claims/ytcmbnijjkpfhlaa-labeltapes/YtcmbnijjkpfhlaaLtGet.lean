/- The label of a tape of a library: the contract of Get, over any world. -/
import Derived.Test.YtcmbnijjkpfhlaaLtInv
import Derived.Test.YtcmbnijjkpfhlaaLbRead
namespace Go.Proofs.Ytcmbnijjkpfhlaa
open Go.RowKit
set_option linter.unusedSimpArgs false

/-- The label that is got, and what is wrong. -/
def labGet (s : Pw) (t : Tst) : Lab × Nat := if (Tst.get s t).2.2 = 0 then rdLab (Tst.get s t).2.1 else (lab0, (Tst.get s t).2.2)

set_option maxHeartbeats 2000000 in
set_option maxRecDepth 100000 in
theorem lget_any {w W : World} {gl gp gt gm gq : Nat} {sp sm : Pw} {tp tm : Tst} (h : Duos w W gl gp gt gm gq sp tp sm tm) (ho : sp.on = true) (hroom : tp.room ≤ 1000000) :
    Calls Try.prog 27 #[.pointer (some ⟨gl, 0, none⟩), .int .i64 0] W fun e W' => e = .returned (.tuple #[lbV (labGet sp tp.rewound).1, .int .i64 ((labGet sp tp.rewound).2 : Int)]) ∧ Hid (Duos w W' gl gp gt gm gq sp (Tst.get sp tp.rewound).1 sm tm) := by
  obtain ⟨g, t, F, v, H, G, h⟩ := h
  obtain ⟨p, hp⟩ : ∃ p, p = W.heap.size := ⟨_, rfl⟩
  obtain ⟨W1, hW1⟩ : ∃ W1, W1 = W.alloc (.cells #[.string ⟨#[]⟩, .int .i64 0, .int .i64 0] 23) := ⟨_, rfl⟩
  have HW : Hid (W.alloc (.cells #[.string ⟨#[]⟩, .int .i64 0, .int .i64 0] 23) = W1 ∧ W.heap.size = p) := Lib.hid ⟨hW1.symm, hp.symm⟩
  have hb1 : Below W.heap.size W W1 := by rw [hW1]; exact Below.alloc0 _ _
  have hp1 : W1.heap[p]? = some (.cells #[.string ⟨#[]⟩, .int .i64 0, .int .i64 0] 23 (0, 0)) := by rw [hW1, hp]; exact heap_alloc_new W _
  have h1 := h.later hb1
  have HPN : Hid (p ∉ gp :: H ∧ p ∉ G ∧ p ≠ gq ∧ w.heap.size ≤ p) := Lib.hid ⟨fun hx => by have := (h.lts p (.inl hx)).2; omega, fun hx => by have := (h.lts p (.inr (.inl hx))).2; omega, fun hx => by have := (h.lts p (.inr (.inr hx))).2; omega, by have := h.bel.size; omega⟩
  have hHp : ∀ k ∈ H, k ≠ p := fun k hk => by have := (h.lts k (.inl (by simp [hk]))).2; omega
  have hFH : ∀ k ∈ F 0, k ∈ H := fun k hk => (h.lib.fit 0 (by omega) k hk).1
  have HL : Hid (Calls Try.prog 20 #[.pointer (some ⟨gl, 0, none⟩), .int .i64 0] W1 fun e W' => e = .returned (.int .i64 0) ∧ W'.cell? ⟨gl, 0, none⟩ = some (.pointer (some ⟨gt, 0, none⟩)) ∧ Hid ((∃ t', Duo w W' gl gp gt gm gq sp tp.rewound sm tm g t' F v H G) ∧ W'.heap[p]? = some (.cells #[.string ⟨#[]⟩, .int .i64 0, .int .i64 0] 23 (0, 0)))) := by
    refine Lib.hid ((load_yes h1.lib 0 (by omega) ho).mono ?_)
    rintro e W' ⟨rfl, h2, h3⟩
    have h4 := h1.libr h2 h1.gt0 (tp' := tp.rewound) (by rw [upd_same, h1.tp0]) (h3.mono (by simp +contextual)) (fun k hk => .inl hk)
    exact ⟨rfl, h4.drive, Lib.hid ⟨⟨_, h4⟩, (h3.block p (lt_of_block hp1) (fun hx => hHp p hx rfl)).trans hp1⟩⟩
  have HFP : Hid (∀ k ∈ F 0, k ≠ p) := Lib.hid fun k hk => hHp k (hFH k hk)
  obtain ⟨A, hA⟩ : ∃ A, A = Tst.get sp tp.rewound := ⟨_, rfl⟩
  have HA := Lib.hid hA
  have HR0 : Hid (labGet sp tp.rewound = if A.2.2 = 0 then rdLab A.2.1 else (lab0, A.2.2)) := Lib.hid (by rw [hA]; rfl)
  obtain ⟨R, hR⟩ : ∃ R, R = labGet sp tp.rewound := ⟨_, rfl⟩
  rw [← hR] at HR0 ⊢
  rw [← hA]
  have hroom2 : tp.rewound.room ≤ 1000000 := hroom
  have HRM := Lib.hid hroom2
  clear h h1 hp hW1 hb1 hp1 hHp hFH ho hroom hroom2 hA hR
  go_enter Try.func27, Try.ntmps27
  go_upto_region 1 with fail
  change Code.wp _ _ _ _ (W.alloc (.cells #[.string ⟨#[]⟩, .int .i64 0, .int .i64 0] 23))
  rw [HW.out.1, HW.out.2]
  go_wp2_with fail
  refine HL.out.mono ?_
  rintro e W2 ⟨rfl, c0, H2⟩
  have HGET : Hid (Calls Try.prog 44 #[.pointer (some ⟨gt, 0, none⟩)] W2 fun e W' => ∃ a n c, e = .returned (.tuple #[.slice a n c, .int .i64 (A.2.2 : Int)]) ∧ Hid (n ≤ c ∧ n ≤ 1000000 ∧ Rd W' a n A.2.1 ∧ (∀ W2, Below W'.heap.size W' W2 → Duos w W2 gl gp gt gm gq sp A.1 sm tm ∧ ∀ o, Duos w (Go.Proofs.Ytcmbnijjkpfhlaa.put W2 p o) gl gp gt gm gq sp A.1 sm tm) ∧ W'.heap[p]? = some (.cells #[.string ⟨#[]⟩, .int .i64 0, .int .i64 0] 23 (0, 0)))) := by
    obtain ⟨t', h2⟩ := H2.out.1
    have hsm := get_small h2.tap
    refine Lib.hid ((get_any W2 gt gp sp tp.rewound (F 0) h2.tap HRM.out).mono ?_)
    rintro e W' ⟨v1, rfl, h3, h4, h5⟩
    obtain ⟨a, c, rfl, hr, hc⟩ := h3.sl
    obtain ⟨t2, F2, H', h6, h7⟩ := h2.prog2 (Below.refl _ _) h4 (h5.mono (fun k hk => by simp [hk])) (fun k hk => .inl hk)
    have hpH : p ∉ gp :: H' := by
      intro hx
      simp only [List.mem_cons] at hx
      rcases hx with hx | hx
      · exact HPN.out.1 (by simp [hx])
      · rcases h7 p hx with h8 | h8
        · exact HPN.out.1 (by simp [h8])
        · have := lt_of_block H2.out.2
          omega
    refine ⟨a, _, c, by rw [HA.out], Lib.hid ⟨hc, Nat.le_trans hsm HRM.out, by rw [HA.out]; exact hr, fun W2 hW2 => ?_, ?_⟩⟩
    · rw [HA.out]
      exact ⟨⟨g, t2, F2, v, H', G, h6.later hW2⟩, fun o => ⟨g, t2, F2, v, H', G, (h6.later hW2).aside HPN.out.2.2.2 hpH HPN.out.2.1 HPN.out.2.2.1 o⟩⟩
    · exact (h5.block p (lt_of_block H2.out.2) (fun hx => HFP.out p hx rfl)).trans H2.out.2
  clear HL
  go_wp2_with fail
  refine HGET.out.mono ?_
  rintro e W3 ⟨a, n, c, rfl, H3⟩
  clear c0 HGET
  obtain ⟨t1, B, E⟩ := A
  simp only at HR0 H3 ⊢
  by_cases hE : E = 0
  · subst hE
    have hR : R = rdLab B := by have := HR0.out; simpa using this
    have hre := read_any a n c B W3 H3.out.2.2.1 H3.out.2.1 H3.out.1
    rw [← hR] at hre
    clear hR HR0
    obtain ⟨⟨pl, g1, m1⟩, er⟩ := R
    simp only [lbV] at hre
    obtain ⟨s, hs⟩ : ∃ s, s = strB pl := ⟨_, rfl⟩
    rw [← hs] at hre
    have HS := Lib.hid hs
    have HRE : Hid (Calls Try.prog 14 #[.slice a n c] W3 fun e W' => e = .returned (.tuple #[.agg #[.string s, .int .i64 g1, .int .i64 m1], .int .i64 (er : Int)]) ∧ W'.heap[p]? = some (.cells #[.string ⟨#[]⟩, .int .i64 0, .int .i64 0] 23 (0, 0)) ∧ Hid (Below W3.heap.size W3 W')) := by
      refine Lib.hid (hre.mono ?_)
      rintro e W' ⟨rfl, hb⟩
      exact ⟨rfl, (hb.block p (lt_of_block H3.out.2.2.2.2)).trans H3.out.2.2.2.2, Lib.hid hb⟩
    have HPD : Hid (∀ W2, Below W3.heap.size W3 W2 → ∀ o, Duos w (Go.Proofs.Ytcmbnijjkpfhlaa.put W2 p o) gl gp gt gm gq sp t1 sm tm) := Lib.hid fun W2 hb => (H3.out.2.2.2.1 W2 hb).2
    clear hre hs
    go_wp2_with fail
    refine HRE.out.mono ?_
    rintro e W4 ⟨rfl, hp4, HB4⟩
    obtain ⟨z0, z1, z2⟩ := lab_cells hp4
    obtain ⟨y0, y1, y2⟩ := lab_frozen hp4
    have hput := lab_put (v0 := .string s) (v1 := .int .i64 g1) (v2 := .int .i64 m1) hp4
    have HPUT := Lib.hid hput
    have HP4 := Lib.hid hp4
    clear hput hp4
    go_wp2_with fail
    rw [HPUT.out]
    clear z0 z1 z2 y0 y1 y2
    have hp9 := put_same (o := .cells #[.string s, .int .i64 g1, .int .i64 m1] 23) HP4.out
    have hpD : Duos w (put W4 p (.cells #[.string s, .int .i64 g1, .int .i64 m1] 23)) gl gp gt gm gq sp t1 sm tm := HPD.out _ HB4.out _
    generalize put W4 p (.cells #[.string s, .int .i64 g1, .int .i64 m1] 23) = W9 at hp9 hpD ⊢
    have HF9 := Lib.hid hpD
    clear hpD
    obtain ⟨d0, d1, d2⟩ := lab_cells hp9
    refine bodyPost_ret (v := .tuple #[.agg #[.string s, .int .i64 g1, .int .i64 m1], .int .i64 (er : Int)]) (by simp [results, Try.results27, go_sem, d0, d1, d2]; try rfl) rfl ?_
    exact ⟨by simp only [lbV, ← HS.out], HF9⟩
  · have hE3 : ((E : Int) != 0) = true := by simp; omega
    have hR : R = (lab0, E) := by have := HR0.out; simpa [hE] using this
    subst hR
    clear hE HR0
    have hpz := H3.out.2.2.2.2
    obtain ⟨z0, z1, z2⟩ := lab_cells hpz
    obtain ⟨y0, y1, y2⟩ := lab_frozen hpz
    have hput := lab_put (v0 := .string ⟨#[]⟩) (v1 := .int .i64 0) (v2 := .int .i64 0) hpz
    rw [put_self hpz] at hput
    have HPUT := Lib.hid hput
    clear hput hpz
    go_wp2_with fail
    rw [HPUT.out]
    refine bodyPost_ret (v := .tuple #[.agg #[.string ⟨#[]⟩, .int .i64 0, .int .i64 0], .int .i64 (E : Int)]) (by simp [results, Try.results27, go_sem, z0, z1, z2]; try rfl) rfl ?_
    exact ⟨by rw [lbV_zero], Lib.hid (H3.out.2.2.2.1 _ (Below.refl _ _)).1⟩

end Go.Proofs.Ytcmbnijjkpfhlaa
