/- What bytes come to: the contracts of parseData, parse, over any world. -/
import Derived.Test.YtaijldcfoaeogaaGreatGRcParseToSmAdd
import Derived.Test.YtaijldcfoaeogaaGreatGCheckOfToVRdrBytesC
import Derived.Test.YtaijldcfoaeogaaGreatGRefNextToRefRdrBytes
namespace Go.Proofs.YtaijldcfoaeogaaGreat
open Go.RowKit
set_option maxRecDepth 100000
set_option linter.unusedSimpArgs false

/-- Where bytes lie that are part of others. -/
def Part (a a2 : Option Addr) (n2 c2 : Nat) : Prop := n2 ≤ c2 ∧ ∀ b o, a2 = some ⟨b, o, none⟩ → 0 < n2 → ∃ o', a = some ⟨b, o', none⟩

theorem part_cut {w : World} {a : Option Addr} {n c k : Nat} {l : List Nat} (h : Rd w a n l) (hk : k ≤ n) (hc : n ≤ c) : Part a (cutA a c k) (n - k) (c - k) := by
  refine ⟨by omega, ?_⟩
  intro b o he hn
  unfold cutA at he
  rw [if_neg (by omega)] at he
  obtain ⟨b', o', rfl, _⟩ := h.2.2 (by omega)
  simp only [Option.map_some, add_plain] at he
  injection he with he
  injection he with e1 e2
  subst e1
  exact ⟨o', rfl⟩

set_option maxHeartbeats 2000000 in
set_option maxRecDepth 100000 in
theorem parseD_bad (a : Option Addr) (n c : Nat) (r : List Nat) (w : World) (h : Rd w a n r) (hn : n ≤ 1000000) (hbad : ¬ (vErr r = 0 ∧ vNum r < 256)) :
    Calls Tryz.prog 91 #[.slice a n c] w fun e w' => e = .returned (.tuple #[rcV (rec0 0) none 0 0, .bool false]) ∧ Below w.heap.size w w' := by
  have hN : ∀ o, Calls Tryz.prog 98 #[.slice a n c] (w.alloc o) fun e w' => e = .returned (.tuple #[.int .u64 (vNum r : Nat), .int .i64 (vLen r : Nat), .int .i64 (vErr r : Nat)]) ∧ w.alloc o = w' :=
    fun o => next_any a n c r _ (h.later (Below.alloc0 _ _)) hn
  obtain ⟨X, hX⟩ : ∃ X, X = vNum r := ⟨_, rfl⟩
  obtain ⟨K, hK⟩ : ∃ K, K = vLen r := ⟨_, rfl⟩
  obtain ⟨E, hE⟩ : ∃ E, E = vErr r := ⟨_, rfl⟩
  rw [← hX, ← hE] at hbad
  rw [← hX, ← hK, ← hE] at hN
  have HN := Lib.hid hN
  clear hX hK hE hN h
  by_cases hE0 : E = 0
  · subst hE0
    have hX9 : 256 ≤ (X : Int) := by omega
    clear hbad
    go_enter Tryz.func91, Tryz.ntmps91
    go_wp2_with fail
    refine (HN.out _).mono ?_
    rintro e w1 ⟨rfl, rfl⟩
    go_wp2
    go_returns
    exact ⟨rfl, Below.alloc0 _ _⟩
  · have hE1 : ((E : Int) != 0) = true := by simp; omega
    clear hbad
    go_enter Tryz.func91, Tryz.ntmps91
    go_wp2_with fail
    refine (HN.out _).mono ?_
    rintro e w1 ⟨rfl, rfl⟩
    go_wp2
    go_returns
    exact ⟨rfl, Below.alloc0 _ _⟩

set_option maxHeartbeats 4000000 in
set_option maxRecDepth 100000 in
theorem parseD_good (a : Option Addr) (n c : Nat) (r : List Nat) (w : World) (h : Rd w a n r) (hn : n ≤ 1000000) (hc : n ≤ c) (hgood : vErr r = 0 ∧ vNum r < 256) :
    Calls Tryz.prog 91 #[.slice a n c] w fun e w' => ∃ a2 n2 c2, e = .returned (.tuple #[rcV (candD r).1 a2 n2 c2, .bool ((candD r).1.ok)]) ∧ Hid (Below w.heap.size w w' ∧ Rd w' a2 n2 (candD r).1.l ∧ Part a a2 n2 c2) := by
  have hK : vLen r ≤ n := by have := (vOne h.2.1 hgood.1).2.2.2.1; have := h.1; omega
  have hcd : candD r = (⟨2, 0, 0, (vNum r : Nat), ((vNum r + (r.length - vLen r) / 32 : Nat) : Int), r.drop (vLen r), 0, 0, 0⟩, true) := by unfold candD; rw [if_pos hgood]
  rw [hcd]
  have hN : ∀ o, Calls Tryz.prog 98 #[.slice a n c] (w.alloc o) fun e w' => e = .returned (.tuple #[.int .u64 (vNum r : Nat), .int .i64 (vLen r : Nat), .int .i64 (vErr r : Nat)]) ∧ w.alloc o = w' :=
    fun o => next_any a n c r _ (h.later (Below.alloc0 _ _)) hn
  rw [hgood.1, h.1] at *
  have hX9 := hgood.2
  have hcut := h.cut hK hc
  have hpart := part_cut h hK hc
  obtain ⟨X, hX⟩ : ∃ X, X = vNum r := ⟨_, rfl⟩
  obtain ⟨K, hKe⟩ : ∃ K, K = vLen r := ⟨_, rfl⟩
  obtain ⟨D, hD⟩ : ∃ D, D = r.drop (vLen r) := ⟨_, rfl⟩
  rw [← hD] at hcut ⊢
  rw [← hX] at hX9
  rw [← hX, ← hKe] at hN ⊢
  rw [← hKe] at hK hcut hpart
  obtain ⟨A1, hA1⟩ : ∃ A1, A1 = cutA a c K := ⟨_, rfl⟩
  obtain ⟨m, hm⟩ : ∃ m, m = n - K := ⟨_, rfl⟩
  obtain ⟨c1, hc1⟩ : ∃ c1, c1 = c - K := ⟨_, rfl⟩
  have hs := fun W => slice_from a n c K .i64 hK W
  rw [← hA1, ← hm] at hcut hpart hs
  rw [← hc1] at hs hpart
  rw [← hm]
  obtain ⟨T, hT⟩ : ∃ T, T = X + m / 32 := ⟨_, rfl⟩
  have hT1 : (X : Int) + (m : Int) / 32 = (T : Int) := by omega
  rw [← hT]
  have HT1 := Lib.hid hT1
  have HN := Lib.hid hN
  have HCUT := Lib.hid hcut
  have HPART := Lib.hid hpart
  have hm6 : m ≤ 1000000 := by omega
  clear hgood hcd hX hKe hD hA1 hm hc1 hT hT1 hN hcut hpart h
  obtain ⟨V, hV⟩ : ∃ V, V = Rec.ok ⟨2, 0, 0, X, T, D, 0, 0, 0⟩ := ⟨_, rfl⟩
  rw [← hV]
  have HVE := Lib.hid hV
  clear hV
  go_enter Tryz.func91, Tryz.ntmps91
  go_wp2_with fail
  refine (HN.out _).mono ?_
  rintro e w2 ⟨rfl, rfl⟩
  go_wp2_with fail
  go_quiet (fail)
  go_upto_region 6 with fail
  rw [HT1.out]
  obtain ⟨p, hp⟩ : ∃ p, p = w.heap.size := ⟨_, rfl⟩
  obtain ⟨w1, hw1⟩ : ∃ w1, w1 = ((w.alloc (.cells #[.int .u8 0, .int .i64 0, .int .i64 0, .int .i64 0, .int .i64 0, .slice none 0 0, .int .i64 0, .int .u64 0, .int .u64 0] 57)).drewN nq).alloc (.cells #[.int .u8 2, .int .i64 0, .int .i64 0, .int .i64 (X : Int), .int .i64 (T : Int), .slice A1 m c1, .int .i64 0, .int .u64 0, .int .u64 0] 57) := ⟨_, rfl⟩
  have HW : Hid ((((w.alloc (.cells #[.int .u8 0, .int .i64 0, .int .i64 0, .int .i64 0, .int .i64 0, .slice none 0 0, .int .i64 0, .int .u64 0, .int .u64 0] 57)).drewN nq).alloc (.cells #[.int .u8 2, .int .i64 0, .int .i64 0, .int .i64 (X : Int), .int .i64 (T : Int), .slice A1 m c1, .int .i64 0, .int .u64 0, .int .u64 0] 57)) = w1 ∧ w.heap.size = p) := Lib.hid ⟨hw1.symm, hp.symm⟩
  have hB1 : Below w.heap.size w w1 := by rw [hw1]; exact (Below.drewN' ((Below.refl _ _).alloc (Nat.le_refl _) _) nq).alloc (by simp) _
  have hsz : w1.heap.size = p + 2 := by rw [hw1, hp]; simp
  have hp1 : w1.heap[p]? = some (.cells #[.int .u8 0, .int .i64 0, .int .i64 0, .int .i64 0, .int .i64 0, .slice none 0 0, .int .i64 0, .int .u64 0, .int .u64 0] 57 (0, 0)) := by rw [hw1, hp]; exact (heap_alloc_old ((w.alloc (.cells #[.int .u8 0, .int .i64 0, .int .i64 0, .int .i64 0, .int .i64 0, .slice none 0 0, .int .i64 0, .int .u64 0, .int .u64 0] 57)).drewN nq) _ (by simp)).trans (heap_alloc_new w _)
  have hq1 : w1.heap[p + 1]? = some (.cells #[.int .u8 2, .int .i64 0, .int .i64 0, .int .i64 (X : Int), .int .i64 (T : Int), .slice A1 m c1, .int .i64 0, .int .u64 0, .int .u64 0] 57 (0, 0)) := by
    rw [hw1, hp]
    have e := heap_alloc_new ((w.alloc (.cells #[.int .u8 0, .int .i64 0, .int .i64 0, .int .i64 0, .int .i64 0, .slice none 0 0, .int .i64 0, .int .u64 0, .int .u64 0] 57)).drewN nq) (.cells #[.int .u8 2, .int .i64 0, .int .i64 0, .int .i64 (X : Int), .int .i64 (T : Int), .slice A1 m c1, .int .i64 0, .int .u64 0, .int .u64 0] 57)
    have e2 : ((w.alloc (.cells #[.int .u8 0, .int .i64 0, .int .i64 0, .int .i64 0, .int .i64 0, .slice none 0 0, .int .i64 0, .int .u64 0, .int .u64 0] 57)).drewN nq).heap.size = w.heap.size + 1 := World.size_alloc _ _
    rw [e2] at e
    exact e
  have hrd1 : Rd w1 A1 m D := by rw [hw1]; exact HCUT.out.later ((Below.drewN' ((Below.refl _ _).alloc (Nat.le_refl _) _) nq).alloc (by simp) _)
  have HK : Hid (∀ W, Below w1.heap.size w1 W → W.cell? ⟨(p + 1), 0, none⟩ = some (.int .u8 2) ∧ W.cell? ⟨(p + 1), 1, none⟩ = some (.int .i64 0) ∧ W.cell? ⟨(p + 1), 2, none⟩ = some (.int .i64 0) ∧ W.cell? ⟨(p + 1), 3, none⟩ = some (.int .i64 (X : Int)) ∧ W.cell? ⟨(p + 1), 4, none⟩ = some (.int .i64 (T : Int)) ∧ W.cell? ⟨(p + 1), 5, none⟩ = some (.slice A1 m c1) ∧ W.cell? ⟨(p + 1), 6, none⟩ = some (.int .i64 0) ∧ W.cell? ⟨(p + 1), 7, none⟩ = some (.int .u64 0) ∧ W.cell? ⟨(p + 1), 8, none⟩ = some (.int .u64 0)) := Lib.hid fun W hW => rec_cells ((hW.block (p + 1) (lt_of_block hq1)).trans hq1)
  have HQW : Hid (∀ W, Below w1.heap.size w1 W → W.heap[p + 1]? = some (.cells #[.int .u8 2, .int .i64 0, .int .i64 0, .int .i64 (X : Int), .int .i64 (T : Int), .slice A1 m c1, .int .i64 0, .int .u64 0, .int .u64 0] 57 (0, 0))) := Lib.hid fun W hW => (hW.block (p + 1) (lt_of_block hq1)).trans hq1
  have HPW : Hid (∀ W, Below w1.heap.size w1 W → W.heap[p]? = some (.cells #[.int .u8 0, .int .i64 0, .int .i64 0, .int .i64 0, .int .i64 0, .slice none 0 0, .int .i64 0, .int .u64 0, .int .u64 0] 57 (0, 0))) := Lib.hid fun W hW => (hW.block p (lt_of_block hp1)).trans hp1
  have HV : Hid (∀ W, Below w1.heap.size w1 W → Calls Tryz.prog 59 #[.agg #[.int .u8 2, .int .i64 0, .int .i64 0, .int .i64 (X : Int), .int .i64 (T : Int), .slice A1 m c1, .int .i64 0, .int .u64 0, .int .u64 0]] W fun e w' => e = .returned (.bool (Rec.ok ⟨2, 0, 0, X, T, D, 0, 0, 0⟩)) ∧ Hid (Below w1.heap.size w1 w')) := by
    refine Lib.hid fun W hW => (valid_any ⟨2, 0, 0, X, T, D, 0, 0, 0⟩ A1 m c1 W (hrd1.later hW)).mono ?_
    rintro e w' ⟨rfl, hb⟩
    exact ⟨rfl, Lib.hid (hW.trans (hb.mono hW.size))⟩
  have HFIN : Hid (∀ W o, Below w1.heap.size w1 W → Below w.heap.size w (put W p o) ∧ Rd (put W p o) A1 m D) := by
    refine Lib.hid fun W o hW => ?_
    have hx := (hB1.trans (hW.mono hB1.size)).trans (put_below o (Nat.le_of_eq hp.symm))
    exact ⟨hx, HCUT.out.later hx⟩
  rw [← HVE.out] at HV
  have H : Hid (Below w1.heap.size w1 w1.drew) := Lib.hid (Below.refl _ _).drew
  clear hw1 hp hB1 hsz hp1 hq1 hrd1
  rw [HW.out.1]
  try rw [HW.out.2]
  refine wp_region_held_drew (S := fun W => W.cell? ⟨(p + 1), 0, none⟩ = some (.int .u8 2) ∧ W.cell? ⟨(p + 1), 1, none⟩ = some (.int .i64 0) ∧ W.cell? ⟨(p + 1), 2, none⟩ = some (.int .i64 0) ∧ W.cell? ⟨(p + 1), 3, none⟩ = some (.int .i64 (X : Int)) ∧ W.cell? ⟨(p + 1), 4, none⟩ = some (.int .i64 (T : Int)) ∧ W.cell? ⟨(p + 1), 5, none⟩ = some (.slice A1 m c1) ∧ W.cell? ⟨(p + 1), 6, none⟩ = some (.int .i64 0) ∧ W.cell? ⟨(p + 1), 7, none⟩ = some (.int .u64 0) ∧ W.cell? ⟨(p + 1), 8, none⟩ = some (.int .u64 0)) (by kernel_rfl) (HK.out _ H.out) (fun _ => ?_)
  obtain ⟨w3, hw3⟩ : ∃ w3, w3 = w1.drew := ⟨_, rfl⟩
  rw [← hw3] at H ⊢
  clear hw3
  refine wpAnyH_take (i := 0) (v := ?vd0) rfl (by kernel_rfl) (by kernel_rfl) (by kernel_rfl) (fun _ _ _ h => h) (Or.inl ⟨by rfl, ?hd0⟩) (HK.out _ H.out) ?rd0
  case hd0 => (intro W hW; (try dsimp only at hW); go_simp; try with_reducible rfl)
  simp only [Act.put, List.getElem_toArray, List.getElem_cons_succ, List.getElem_cons_zero, List.setIfInBounds_toArray, List.set_cons_zero, List.set_cons_succ]
  refine wpAnyH_take (i := 1) (v := ?vd1) rfl (by kernel_rfl) (by kernel_rfl) (by kernel_rfl) (fun _ _ _ h => h) (Or.inl ⟨by rfl, ?hd1⟩) (HK.out _ H.out) ?rd1
  case hd1 => (intro W hW; (try dsimp only at hW); go_simp; try with_reducible rfl)
  simp only [Act.put, List.getElem_toArray, List.getElem_cons_succ, List.getElem_cons_zero, List.setIfInBounds_toArray, List.set_cons_zero, List.set_cons_succ]
  refine wpAnyH_ready (rs := [2]) (by kernel_rfl) (by simp) ?_
  refine AllReadyH.cons rfl (fun K hK => ?_) AllReadyH.nil
  refine ready_call (f := 59) (vs := #[.agg #[.int .u8 2, .int .i64 0, .int .i64 0, .int .i64 (X : Int), .int .i64 (T : Int), .slice A1 m c1, .int .i64 0, .int .u64 0, .int .u64 0]]) (by rfl) (by (go_simp; try with_reducible rfl)) ?_
  refine (HV.out _ H.out).mono ?_
  rintro e w4 ⟨rfl, H4⟩
  refine ⟨_, rfl, hK.out _ _ (HK.out _ H4.out) (fun _ => ?_)⟩
  clear hK K
  simp only [Act.put, List.getElem_toArray, List.getElem_cons_succ, List.getElem_cons_zero, List.setIfInBounds_toArray, List.set_cons_zero, List.set_cons_succ]
  have hpw := HPW.out _ H4.out
  obtain ⟨z0, z1, z2, z3, z4, z5, z6, z7, z8⟩ := rec_cells hpw
  have y0 : w4.frozen? ⟨p, 0, none⟩ = false := by simp [World.frozen?, hpw]
  have y1 : w4.frozen? ⟨p, 1, none⟩ = false := by simp [World.frozen?, hpw]
  have y2 : w4.frozen? ⟨p, 2, none⟩ = false := by simp [World.frozen?, hpw]
  have y3 : w4.frozen? ⟨p, 3, none⟩ = false := by simp [World.frozen?, hpw]
  have y4 : w4.frozen? ⟨p, 4, none⟩ = false := by simp [World.frozen?, hpw]
  have y5 : w4.frozen? ⟨p, 5, none⟩ = false := by simp [World.frozen?, hpw]
  have y6 : w4.frozen? ⟨p, 6, none⟩ = false := by simp [World.frozen?, hpw]
  have y7 : w4.frozen? ⟨p, 7, none⟩ = false := by simp [World.frozen?, hpw]
  have y8 : w4.frozen? ⟨p, 8, none⟩ = false := by simp [World.frozen?, hpw]
  have hput := rec_put (v0 := .int .u8 2) (v1 := .int .i64 0) (v2 := .int .i64 0) (v3 := .int .i64 (X : Int)) (v4 := .int .i64 (T : Int)) (v5 := .slice A1 m c1) (v6 := .int .i64 0) (v7 := .int .u64 0) (v8 := .int .u64 0) hpw
  have HPUT := Lib.hid hput
  have HPW2 := Lib.hid hpw
  clear hput hpw
  refine wpAnyH_ready (rs := [3]) (by kernel_rfl) (by simp) ?_
  refine AllReadyH.cons rfl (fun K hK => ?_) AllReadyH.nil
  refine ready_skp (w' := put (w4) p (.cells #[.int .u8 2, .int .i64 0, .int .i64 0, .int .i64 (X : Int), .int .i64 (T : Int), .slice A1 m c1, .int .i64 0, .int .u64 0, .int .u64 0] 57 (0, 0))) (by rfl) (by rw [← HPUT.out]; (go_simp; try with_reducible rfl)) ?_
  refine hK.out _ _ ?hS (fun _ => ?_)
  case hS => exact rec_cells ((put_other (by omega)).trans (HQW.out _ H4.out))
  clear hK K
  simp only [Act.put, List.getElem_toArray, List.getElem_cons_succ, List.getElem_cons_zero, List.setIfInBounds_toArray, List.set_cons_zero, List.set_cons_succ]
  clear z0 z1 z2 z3 z4 z5 z6 z7 z8 y0 y1 y2 y3 y4 y5 y6 y7 y8
  refine wpAnyH_take (i := 4) (v := ?vd4) rfl (by kernel_rfl) (by kernel_rfl) (by kernel_rfl) (fun _ _ _ h => h) (Or.inl ⟨by rfl, ?hd4⟩) (rec_cells ((put_other (by omega)).trans (HQW.out _ H4.out))) ?rd4
  case hd4 => (intro W hW; (try dsimp only at hW); go_simp; try with_reducible rfl)
  simp only [Act.put, List.getElem_toArray, List.getElem_cons_succ, List.getElem_cons_zero, List.setIfInBounds_toArray, List.set_cons_zero, List.set_cons_succ]
  refine wpAnyH_done (by kernel_rfl) ?_ _
  have HFF := HFIN.out _ (.cells #[.int .u8 2, .int .i64 0, .int .i64 0, .int .i64 (X : Int), .int .i64 (T : Int), .slice A1 m c1, .int .i64 0, .int .u64 0, .int .u64 0] 57 (0, 0)) H4.out
  have hp9 := put_same (o := (.cells #[.int .u8 2, .int .i64 0, .int .i64 0, .int .i64 (X : Int), .int .i64 (T : Int), .slice A1 m c1, .int .i64 0, .int .u64 0, .int .u64 0] 57 (0, 0))) HPW2.out
  generalize put w4 p (.cells #[.int .u8 2, .int .i64 0, .int .i64 0, .int .i64 (X : Int), .int .i64 (T : Int), .slice A1 m c1, .int .i64 0, .int .u64 0, .int .u64 0] 57 (0, 0)) = w9 at HFF hp9 ⊢
  have HF9 := Lib.hid HFF
  clear HFF
  obtain ⟨d0, d1, d2, d3, d4, d5, d6, d7, d8⟩ := rec_cells hp9
  go_wp2
  refine bodyPost_ret (v := .tuple #[.agg #[.int .u8 2, .int .i64 0, .int .i64 0, .int .i64 (X : Int), .int .i64 (T : Int), .slice A1 m c1, .int .i64 0, .int .u64 0, .int .u64 0], .bool V]) (by simp [results, Tryz.results91, go_sem, d0, d1, d2, d3, d4, d5, d6, d7, d8]; try rfl) rfl ?_
  exact ⟨A1, m, c1, rfl, Lib.hid ⟨HF9.out.1, HF9.out.2, HPART.out⟩⟩


/-- Whatever the fields are. -/
theorem parseD_any (a : Option Addr) (n c : Nat) (r : List Nat) (w : World) (h : Rd w a n r) (hn : n ≤ 1000000) (hc : n ≤ c) :
    Calls Tryz.prog 91 #[.slice a n c] w fun e w' => ∃ a2 n2 c2, e = .returned (.tuple #[rcV (candD r).1 a2 n2 c2, .bool ((candD r).2 && (candD r).1.ok)]) ∧ Hid (Below w.heap.size w w' ∧ Rd w' a2 n2 (candD r).1.l ∧ Part a a2 n2 c2) := by
  by_cases hg : vErr r = 0 ∧ vNum r < 256
  · have e2 : (candD r).2 = true := by unfold candD; rw [if_pos hg]
    rw [e2, Bool.true_and]
    exact parseD_good a n c r w h hn hc hg
  · have e2 : candD r = (rec0 0, false) := by unfold candD; rw [if_neg hg]
    rw [e2]
    refine (parseD_bad a n c r w h hn hg).mono ?_
    rintro e w' ⟨rfl, hb⟩
    exact ⟨none, 0, 0, rfl, Lib.hid ⟨hb, ⟨rfl, by simp [rec0], by omega⟩, ⟨Nat.le_refl _, fun b o he => by cases he⟩⟩⟩

set_option maxHeartbeats 4000000 in
set_option maxRecDepth 100000 in
theorem parse_two (bb oo n cap : Nat) (r : List Nat) (w : World) (h : Rd w (some ⟨bb, oo, none⟩) n (2 :: r)) (hn : n ≤ 1000000) (hc : n ≤ cap) :
    Calls Tryz.prog 73 #[.slice (some ⟨bb, oo, none⟩) n cap] w fun e w' => ∃ a2 n2 c2, e = .returned (.tuple #[rcV (candD r).1 a2 n2 c2, .bool ((candD r).2 && (candD r).1.ok)]) ∧ Hid (Below w.heap.size w w' ∧ Rd w' a2 n2 (candD r).1.l ∧ Part (some ⟨bb, oo, none⟩) a2 n2 c2) := by
  have hbb : bb < w.heap.size := by
    obtain ⟨b', o', he, hcell⟩ := h.2.2 (by have := h.1; simp at this; omega)
    injection he with he
    injection he with e1 e2
    subst e1
    exact World.block_lt_of_cell? w _ (hcell 0 (by have := h.1; simp at this; omega))
  have hpt := part_cut (k := 1) h (by have := h.1; simp at this; omega) hc
  have hn1 : 1 ≤ n := by have := h.1; simp at this; omega
  have hc0 : ∀ ob, (w.alloc ob).cell? ⟨bb, oo, none⟩ = some (.int .u8 2) := by
    intro ob
    obtain ⟨b', o', he, hcell⟩ := h.2.2 hn1
    injection he with he
    injection he with e1 e2
    subst e1 e2
    exact Lib.cell?_alloc_some _ (hcell 0 hn1)
  have hc1 : ∀ o1 o2, ((w.alloc o1).alloc o2).cell? ⟨bb, oo, none⟩ = some (.int .u8 2) := fun o1 o2 => Lib.cell?_alloc_some _ (hc0 o1)
  have hs := fun W => slice_from (some ⟨bb, oo, none⟩) n cap 1 .i64 hn1 W
  obtain ⟨A1, hA1⟩ : ∃ A1, A1 = cutA (some ⟨bb, oo, none⟩) cap 1 := ⟨_, rfl⟩
  rw [← hA1] at hs
  have HCUT : Hid ((if cap = 1 then some (⟨bb, oo, none⟩ : Addr) else some ⟨bb, oo + 1, none⟩) = A1) := Lib.hid (by rw [hA1]; simp [cutA, Addr.add])
  rw [← hA1] at hpt
  have HPT := Lib.hid hpt
  have hr1 : Rd w A1 (n - 1) r := by rw [hA1]; have := h.cut (k := 1) (c := cap) (by omega) hc; simpa using this
  have HR1 := Lib.hid hr1
  have hcap := hc
  clear hA1 hr1 h hc hpt
  obtain ⟨p, hp⟩ : ∃ p, p = w.heap.size := ⟨_, rfl⟩
  obtain ⟨w1, hw1⟩ : ∃ w1, w1 = ((w.alloc (.cells #[.int .u8 0, .int .i64 0, .int .i64 0, .int .i64 0, .int .i64 0, .slice none 0 0, .int .i64 0, .int .u64 0, .int .u64 0] 57)).alloc (.cells #[.int .u8 2, .int .i64 0, .int .i64 0, .int .i64 0, .int .i64 0, .slice none 0 0, .int .i64 0, .int .u64 0, .int .u64 0] 57)).drew := ⟨_, rfl⟩
  have HBB : Hid (bb < p) := Lib.hid (by rw [hp]; exact hbb)
  clear hbb
  have HW : Hid (((w.alloc (.cells #[.int .u8 0, .int .i64 0, .int .i64 0, .int .i64 0, .int .i64 0, .slice none 0 0, .int .i64 0, .int .u64 0, .int .u64 0] 57)).alloc (.cells #[.int .u8 2, .int .i64 0, .int .i64 0, .int .i64 0, .int .i64 0, .slice none 0 0, .int .i64 0, .int .u64 0, .int .u64 0] 57)).drew = w1 ∧ w.heap.size = p) := Lib.hid ⟨hw1.symm, hp.symm⟩
  have hB1 : Below w.heap.size w w1 := by rw [hw1]; exact (((Below.refl _ _).alloc (Nat.le_refl _) _).alloc (by simp) _).drew
  have hsz : w1.heap.size = p + 2 := by rw [hw1, hp]; simp
  have hp1 : w1.heap[p]? = some (.cells #[.int .u8 0, .int .i64 0, .int .i64 0, .int .i64 0, .int .i64 0, .slice none 0 0, .int .i64 0, .int .u64 0, .int .u64 0] 57 (0, 0)) := by rw [hw1, hp]; exact (heap_alloc_old _ _ (by simp)).trans (heap_alloc_new w _)
  have hq1 : w1.heap[p + 1]? = some (.cells #[.int .u8 2, .int .i64 0, .int .i64 0, .int .i64 0, .int .i64 0, .slice none 0 0, .int .i64 0, .int .u64 0, .int .u64 0] 57 (0, 0)) := by
    rw [hw1, hp]
    have e := heap_alloc_new (w.alloc (.cells #[.int .u8 0, .int .i64 0, .int .i64 0, .int .i64 0, .int .i64 0, .slice none 0 0, .int .i64 0, .int .u64 0, .int .u64 0] 57)) (.cells #[.int .u8 2, .int .i64 0, .int .i64 0, .int .i64 0, .int .i64 0, .slice none 0 0, .int .i64 0, .int .u64 0, .int .u64 0] 57)
    rw [World.size_alloc] at e
    exact e
  have HB1 := Lib.hid hB1
  have HP1 := Lib.hid hp1
  have HQ1 := Lib.hid hq1
  have HSZ := Lib.hid hsz
  clear hw1 hp hB1 hsz hp1 hq1
  have HPD : Hid (Calls Tryz.prog 91 #[.slice A1 (n - 1) (cap - 1)] w1 fun e w' => ∃ a2 n2 c2, e = .returned (.tuple #[rcV (candD r).1 a2 n2 c2, .bool ((candD r).2 && (candD r).1.ok)]) ∧ Hid (Below w1.heap.size w1 w' ∧ Rd w' a2 n2 (candD r).1.l ∧ Part (some ⟨bb, oo, none⟩) a2 n2 c2)) := by
    refine Lib.hid ((parseD_any A1 (n - 1) (cap - 1) r w1 (HR1.out.later HB1.out) (by omega) (by omega)).mono ?_)
    rintro e w' ⟨a2, n2, c2, rfl, hx⟩
    refine ⟨a2, n2, c2, rfl, Lib.hid ⟨hx.out.1, hx.out.2.1, hx.out.2.2.1, ?_⟩⟩
    intro b o he h0
    obtain ⟨o1, h1⟩ := hx.out.2.2.2 b o he h0
    exact HPT.out.2 b o1 h1 (by
      have h9 := hx.out.2.1
      rcases Nat.eq_zero_or_pos (n - 1) with hz | hz
      · exfalso
        have h8 := HR1.out
        have hr0 : r = [] := List.eq_nil_of_length_eq_zero (by rw [h8.1]; exact hz)
        subst hr0
        have hcd : (candD []).1.l = [] := by rfl
        rw [hcd] at h9
        have := h9.1
        simp at this
        omega
      · exact hz)
  clear hcap
  obtain ⟨B, hB⟩ : ∃ B, B = ((candD r).2 && (candD r).1.ok) := ⟨_, rfl⟩
  rw [← hB] at HPD ⊢
  clear hB
  obtain ⟨⟨k', i', b', f', t', l', c', dn', ds'⟩, hy⟩ : ∃ y, y = (candD r).1 := ⟨_, rfl⟩
  rw [← hy] at HPD ⊢
  clear hy
  simp only [rcV] at HPD ⊢
  go_enter Tryz.func73, Tryz.ntmps73
  go_upto_region 3 with fail
  go_region
  rw [HCUT.out, HW.out.1, HW.out.2]
  have c0 := (rec_cells HQ1.out).1
  go_wp2_with fail
  refine HPD.out.mono ?_
  rintro e w2 ⟨a2, n2, c2, rfl, HX⟩
  have hp2 := (HX.out.1.block p (lt_of_block HP1.out)).trans HP1.out
  obtain ⟨z0, z1, z2, z3, z4, z5, z6, z7, z8⟩ := rec_cells hp2
  have y0 : w2.frozen? ⟨p, 0, none⟩ = false := by simp [World.frozen?, hp2]
  have y1 : w2.frozen? ⟨p, 1, none⟩ = false := by simp [World.frozen?, hp2]
  have y2 : w2.frozen? ⟨p, 2, none⟩ = false := by simp [World.frozen?, hp2]
  have y3 : w2.frozen? ⟨p, 3, none⟩ = false := by simp [World.frozen?, hp2]
  have y4 : w2.frozen? ⟨p, 4, none⟩ = false := by simp [World.frozen?, hp2]
  have y5 : w2.frozen? ⟨p, 5, none⟩ = false := by simp [World.frozen?, hp2]
  have y6 : w2.frozen? ⟨p, 6, none⟩ = false := by simp [World.frozen?, hp2]
  have y7 : w2.frozen? ⟨p, 7, none⟩ = false := by simp [World.frozen?, hp2]
  have y8 : w2.frozen? ⟨p, 8, none⟩ = false := by simp [World.frozen?, hp2]
  have hput := rec_put (v0 := .int .u8 (k' : Int)) (v1 := .int .i64 i') (v2 := .int .i64 b') (v3 := .int .i64 f') (v4 := .int .i64 t') (v5 := .slice a2 n2 c2) (v6 := .int .i64 c') (v7 := .int .u64 (dn' : Int)) (v8 := .int .u64 (ds' : Int)) hp2
  have HPUT := Lib.hid hput
  have HP2 := Lib.hid hp2
  have HFIN : Hid (∀ o, Below w.heap.size w (put w2 p o) ∧ Rd (put w2 p o) a2 n2 l') := by
    refine Lib.hid fun o => ?_
    have hx := (HB1.out.trans (HX.out.1.mono HB1.out.size)).trans (put_below o (Nat.le_of_eq HW.out.2))
    refine ⟨hx, ?_⟩
    rcases Nat.eq_zero_or_pos n2 with h0 | h0
    · exact ⟨HX.out.2.1.1, HX.out.2.1.2.1, by omega⟩
    refine HX.out.2.1.save (X := [p]) ((Save.refl _ _).put (by simp) _) ?_
    intro b o' he hb
    simp only [List.mem_singleton] at hb
    obtain ⟨o1, h1⟩ := HX.out.2.2.2 b o' he h0
    injection h1 with h1
    injection h1 with h1 h2
    have := HBB.out
    omega
  clear hput hp2
  go_wp2_with fail
  rw [HPUT.out]
  clear z0 z1 z2 z3 z4 z5 z6 z7 z8 y0 y1 y2 y3 y4 y5 y6 y7 y8
  have hp9 := put_same (o := .cells #[.int .u8 (k' : Int), .int .i64 i', .int .i64 b', .int .i64 f', .int .i64 t', .slice a2 n2 c2, .int .i64 c', .int .u64 (dn' : Int), .int .u64 (ds' : Int)] 57 (0, 0)) HP2.out
  have HFF := HFIN.out (.cells #[.int .u8 (k' : Int), .int .i64 i', .int .i64 b', .int .i64 f', .int .i64 t', .slice a2 n2 c2, .int .i64 c', .int .u64 (dn' : Int), .int .u64 (ds' : Int)] 57 (0, 0))
  generalize put w2 p (.cells #[.int .u8 (k' : Int), .int .i64 i', .int .i64 b', .int .i64 f', .int .i64 t', .slice a2 n2 c2, .int .i64 c', .int .u64 (dn' : Int), .int .u64 (ds' : Int)] 57 (0, 0)) = w9 at hp9 HFF ⊢
  have HF9 := Lib.hid HFF
  clear HFF
  obtain ⟨d0, d1, d2, d3, d4, d5, d6, d7, d8⟩ := rec_cells hp9
  refine bodyPost_ret (v := .tuple #[.agg #[.int .u8 (k' : Int), .int .i64 i', .int .i64 b', .int .i64 f', .int .i64 t', .slice a2 n2 c2, .int .i64 c', .int .u64 (dn' : Int), .int .u64 (ds' : Int)], .bool B]) (by simp [results, Tryz.results73, go_sem, d0, d1, d2, d3, d4, d5, d6, d7, d8]; try rfl) rfl ?_
  exact ⟨a2, n2, c2, rfl, Lib.hid ⟨HF9.out.1, HF9.out.2, HX.out.2.2⟩⟩

theorem cand_nil {k : Nat} {r : List Nat} (hk : k ≠ 2) : (cand (k :: r)).1.l = [] := by
  unfold cand
  simp only [hk, if_false]
  split
  · rfl
  · split
    · rfl
    · split
      · rfl
      · rfl

/-- What bytes come to. -/
theorem parse_any (a : Option Addr) (n c : Nat) (l : List Nat) (w : World) (h : Rd w a n l) (hn : n ≤ 1000000) (hc : n ≤ c) :
    Calls Tryz.prog 73 #[.slice a n c] w fun e w' => ∃ a2 n2 c2, e = .returned (.tuple #[rcV (cand l).1 a2 n2 c2, .bool (pars l).isSome]) ∧ Hid (Below w.heap.size w w' ∧ Rd w' a2 n2 (cand l).1.l ∧ Part a a2 n2 c2) := by
  match l with
  | [] =>
    obtain rfl : n = 0 := by have := h.1; simpa using this.symm
    refine (parse_empty a c w).mono ?_
    rintro e w' ⟨rfl, hb⟩
    exact ⟨none, 0, 0, rfl, Lib.hid ⟨hb, ⟨rfl, by simp [cand, rec0], by omega⟩, ⟨Nat.le_refl _, fun b o he => by cases he⟩⟩⟩
  | k :: r =>
    obtain ⟨b, o, rfl, _⟩ := h.2.2 (by have := h.1; simp at this; omega)
    by_cases hk : k = 2
    · subst hk
      have e1 : cand (2 :: r) = candD r := by simp [cand]
      rw [pars_isSome, e1]
      exact parse_two b o n c r w h hn hc
    · refine (parse_rest b o n c k r w h hn hc hk).mono ?_
      rintro e w' ⟨y, rfl, hb, rfl⟩
      exact ⟨none, 0, 0, rfl, Lib.hid ⟨hb, ⟨by rw [cand_nil hk]; rfl, by rw [cand_nil hk]; simp, by omega⟩, ⟨Nat.le_refl _, fun b o he => by cases he⟩⟩⟩

end Go.Proofs.YtaijldcfoaeogaaGreat

/- The contract of a reader's Bytes, of a reader that lies below a block. -/
namespace Go.Proofs.YtaijldcfoaeogaaGreat
open Go.RowKit
set_option maxRecDepth 100000

set_option maxHeartbeats 400000 in
theorem bytesHi_any (w : World) (g E : Nat) (l : List Nat) (m : Int) (most B : Nat) (hm : m = most ∨ (m < 0 ∧ most = 0)) (hm2 : most ≤ 1000000) (h : RdrHi w 128 g E l B) :
    Calls Tryz.prog 70 #[.pointer (some ⟨g, 0, none⟩), .int .i64 m] w fun e w' => ∃ a n c, e = .returned (.slice a n c) ∧ n ≤ c ∧ Rd w' a n (rByt E l most).1 ∧ RdrHi w' 128 g (rByt E l most).2.1 (rByt E l most).2.2 B ∧ w.grownBy w' (some g) := by
  have hN := numberHi_any w g E l most B h
  obtain ⟨⟨k, E1, l1⟩, hk⟩ : ∃ k, k = rNum E l most := ⟨_, rfl⟩
  rw [← hk] at hN
  dsimp only at hN
  have HN : Hid (∀ x : Int, x = most → Calls Tryz.prog 89 #[.pointer (some ⟨g, 0, none⟩), .int .u64 x] w fun e w' => e = .returned (.int .u64 (k : Int)) ∧ RdrHi w' 128 g E1 l1 B ∧ w.grownBy w' (some g)) := by
    intro x hx
    rw [hx]; exact hN
  have HK := Lib.hid hk.symm
  clear hN hk h
  go_enter Tryz.func70, Tryz.ntmps70
  go_wp2_with fail
  all_goals
    refine (HN.out _ (by omega)).mono ?_
    rintro e w1 ⟨rfl, hr1, hg1⟩
    have HR := Lib.hid hr1
    obtain ⟨a, n, c, hg, hr, hc, hmx, hgB, hbB⟩ := hr1
    have HHi := Lib.hid (And.intro hgB hbB)
    clear hgB hbB
    have h0 : w1.cell? ⟨g, 0, none⟩ = some (.slice a n c) := by rw [cell_of_row w1 g 0 _ 128 (0, 0) hg]; rfl
    have h1 : w1.cell? ⟨g, 1, none⟩ = some (.int .i64 (E1 : Int)) := by rw [cell_of_row w1 g 1 _ 128 (0, 0) hg]; rfl
    have f0 : w1.frozen? ⟨g, 0, none⟩ = false := by simp [World.frozen?, hg]
    have f1 : w1.frozen? ⟨g, 1, none⟩ = false := by simp [World.frozen?, hg]
    have HG := Lib.hid hg
    have HRd := Lib.hid hr
    have HL := Lib.hid hr.1
    clear hg hr
    by_cases hE : E1 = 0
    · subst hE
      by_cases hk : n < k
      · have hk' : (n : Int) < (k : Int) := by omega
        have HB := Lib.hid (rByt_cut HK.out (by have := HL.out; omega))
        go_wp2_with fail
        refine (failed_any w1 g 0 l1 HR.out.rdr).mono ?_
        rintro e w' ⟨rfl, rfl⟩
        go_wp2
        go_ret
        rw [HB.out]
        exact ⟨_, _, _, rfl, by omega, ⟨rfl, by simp, by omega⟩, RdrHi.fail 2 HG.out HRd.out hc hmx HHi.out, hg1.trans (grown_set _ _ _ _)⟩
      · have hk' : (k : Int) ≤ (n : Int) := by omega
        have HB := Lib.hid (rByt_ok HK.out (by have := HL.out; omega))
        have hs := fun W => slice_from a n c k .u64 (by omega) W
        have hs2 := fun W => slice_to a n c k .u64 (by omega) W
        go_wp2_with fail
        refine (failed_any w1 g 0 l1 HR.out.rdr).mono ?_
        rintro e w' ⟨rfl, rfl⟩
        go_wp2_with fail
        refine (clone_sl a k c (l1.take k) w1 (HRd.out.first (by omega)) (by omega)).mono ?_
        rintro e w2 ⟨a2, c2, rfl, hr2, hc2, hb2⟩
        have hgl : g < w1.heap.size := World.block_lt_of_cell? w1 _ h0
        have HG2 : Hid (w2.heap[g]? = some (.cells #[.slice a n c, .int .i64 ((0 : Nat) : Int)] 128 (0, 0))) := (hb2.block g hgl).trans HG.out
        have HRd2 := Lib.hid (HRd.out.later hb2)
        have HR2 := Lib.hid hr2
        have HW := Lib.hid hb2
        have g0 : w2.cell? ⟨g, 0, none⟩ = some (.slice a n c) := by rw [cell_of_row w2 g 0 _ 128 (0, 0) HG2.out]; rfl
        have g1 : w2.frozen? ⟨g, 0, none⟩ = false := by simp [World.frozen?, HG2.out]
        clear hr2 hb2 h0 h1 f0 f1
        go_wp2
        go_ret
        rw [HB.out]
        exact ⟨_, _, _, rfl, by omega, HR2.out.beside HG2.out (grown_set _ _ _ _), RdrHi.move (E := 0) (by omega) HG2.out HRd2.out hc hmx HHi.out, (hg1.trans (grownBy_of_below HW.out _)).trans (grown_set _ _ _ _)⟩
    · have hE' : ((E1 : Int) != 0) = true := by simp; omega
      have HB := Lib.hid (rByt_err HK.out hE)
      go_wp2_with fail
      refine (failed_any w1 g E1 l1 HR.out.rdr).mono ?_
      rintro e w' ⟨rfl, rfl⟩
      go_wp2
      go_ret
      rw [HB.out]
      exact ⟨_, _, _, rfl, by omega, ⟨rfl, by simp, by omega⟩, HR.out, hg1⟩

end Go.Proofs.YtaijldcfoaeogaaGreat

/- A record that is read: the contract of Read, over any world. -/
namespace Go.Proofs.YtaijldcfoaeogaaGreat
open Go.RowKit
set_option maxRecDepth 100000
set_option linter.unusedSimpArgs false

instance (l : List Nat) : Decidable (Sealed l) := by unfold Sealed; infer_instance

/-- The record that sealed bytes are, and what is wrong. -/
def rdSeal (s : List Nat) : Rec × Nat :=
  if Sealed s then (if (pars (s.take (s.length - 4))).isSome then ((cand (s.take (s.length - 4))).1, 0) else (rec0 0, 3)) else (rec0 0, 4)

/-- The record that is read, and what is wrong. -/
def rdRec (E : Nat) (l : List Nat) : Rec × Nat :=
  if (rByt E l 200).2.1 ≠ 0 then (rec0 0, (rByt E l 200).2.1) else rdSeal (rByt E l 200).1

theorem rNum_max (E : Nat) (l : List Nat) (most : Nat) : (rByt E l most).1.length ≤ most := by
  unfold rByt
  split
  · simp
  · split
    · simp
    · have := rNum_le E l most
      simp only [List.length_take]
      omega

set_option maxHeartbeats 4000000 in
set_option maxRecDepth 100000 in
theorem rreadHi_any (w : World) (g E : Nat) (l : List Nat) (ub : Nat) (h : RdrHi w 128 g E l ub) (hle : ub ≤ w.heap.size) :
    Calls Tryz.prog 52 #[.pointer (some ⟨g, 0, none⟩)] w fun e w' => ∃ a2 n2 c2, e = .returned (.tuple #[rcV (rdRec E l).1 a2 n2 c2, .int .i64 ((rdRec E l).2 : Int)]) ∧ Hid (Save [g] w w' ∧ RdrHi w' 128 g (rByt E l 200).2.1 (rByt E l 200).2.2 ub ∧ Rd w' a2 n2 (rdRec E l).1.l ∧ (∀ b o, a2 = some ⟨b, o, none⟩ → 0 < n2 → w.heap.size ≤ b) ∧ n2 ≤ c2) := by
  obtain ⟨w1, hw1⟩ : ∃ w1, w1 = w.alloc (.cells #[.int .u8 0, .int .i64 0, .int .i64 0, .int .i64 0, .int .i64 0, .slice none 0 0, .int .i64 0, .int .u64 0, .int .u64 0] 57) := ⟨_, rfl⟩
  obtain ⟨p, hp⟩ : ∃ p, p = w.heap.size := ⟨_, rfl⟩
  have HW : Hid (w.alloc (.cells #[.int .u8 0, .int .i64 0, .int .i64 0, .int .i64 0, .int .i64 0, .slice none 0 0, .int .i64 0, .int .u64 0, .int .u64 0] 57) = w1 ∧ w.heap.size = p) := Lib.hid ⟨hw1.symm, hp.symm⟩
  have hb1 : Below p w w1 := by rw [hw1, hp]; exact Below.alloc0 _ _
  have HLE : Hid (ub ≤ p) := Lib.hid (by rw [hp]; exact hle)
  have hh1 : RdrHi w1 128 g E l ub := h.below (hb1.mono HLE.out)
  have hp1 : w1.heap[p]? = some (.cells #[.int .u8 0, .int .i64 0, .int .i64 0, .int .i64 0, .int .i64 0, .slice none 0 0, .int .i64 0, .int .u64 0, .int .u64 0] 57 (0, 0)) := by rw [hw1, hp]; exact heap_alloc_new w _
  have hgp : g < p := by obtain ⟨_, _, _, hg, _⟩ := h.rdr; rw [hp]; exact lt_of_block hg
  have hby := bytesHi_any w1 g E l 200 200 ub (.inl rfl) (by omega) hh1
  have hmx := rNum_max E l 200
  have HRR : Hid (rdRec E l = if (rByt E l 200).2.1 ≠ 0 then (rec0 0, (rByt E l 200).2.1) else rdSeal (rByt E l 200).1) := Lib.hid rfl
  obtain ⟨⟨S, E1, l1⟩, hY⟩ : ∃ Y, Y = rByt E l 200 := ⟨_, rfl⟩
  rw [← hY] at hby hmx HRR ⊢
  simp only at hby hmx HRR ⊢
  obtain ⟨Q, hQ⟩ : ∃ Q, Q = rdRec E l := ⟨_, rfl⟩
  rw [← hQ] at HRR ⊢
  have HBY := Lib.hid hby
  have HB1 := Lib.hid hb1
  have HP1 := Lib.hid hp1
  have HGP := Lib.hid hgp
  rw [← hp]
  clear hw1 hp hb1 hh1 hp1 hby h hle hY hQ hgp
  go_enter Tryz.func52, Tryz.ntmps52
  go_upto_region 1 with fail
  change Code.wp _ _ _ _ (w.alloc (.cells #[.int .u8 0, .int .i64 0, .int .i64 0, .int .i64 0, .int .i64 0, .slice none 0 0, .int .i64 0, .int .u64 0, .int .u64 0] 57))
  rw [HW.out.1, HW.out.2]
  go_wp2_with fail
  refine HBY.out.mono ?_
  rintro e w2 ⟨aS, nS, cS, rfl, hcS, hrS, hrd, hgr⟩
  have HRD := Lib.hid hrd
  have HRS := Lib.hid hrS
  have hsv1 : Save [g] w1 w2 := ⟨hgr.os, hgr.tape, hgr.output, hgr.size, fun k hk hx => hgr.block k hk (by intro e; injection e with e; exact hx (by simp [e]))⟩
  have hp2 : w2.heap[p]? = some (.cells #[.int .u8 0, .int .i64 0, .int .i64 0, .int .i64 0, .int .i64 0, .slice none 0 0, .int .i64 0, .int .u64 0, .int .u64 0] 57 (0, 0)) := (hsv1.block p (lt_of_block HP1.out) (by have := HGP.out; simp; omega)).trans HP1.out
  have hsv2 : Save [g] w w2 := (Save.of_below (HB1.out.mono (Nat.le_of_eq HW.out.2)) [g]).trans hsv1
  have HSV := Lib.hid hsv2
  have HP2 := Lib.hid hp2
  have hz2 : p < w2.heap.size := lt_of_block hp2
  have HZ2 := Lib.hid hz2
  clear hsv1 hsv2 hp2 hgr hrd hrS hz2
  go_wp2_with fail
  refine (failed_any w2 g E1 l1 HRD.out.rdr).mono ?_
  rintro e w3 ⟨rfl, rfl⟩
  by_cases hE : E1 = 0
  · subst hE
    have hQ : Q = rdSeal S := by have := HRR.out; simpa using this
    go_wp2_with fail
    refine (chkOpen_any aS nS cS S w2 HRS.out (by have := HRS.out.1; omega) hcS).mono ?_
    rintro e w3 ⟨hb3, hor⟩
    have hp3 := (hb3.block p HZ2.out).trans HP2.out
    have HB3 := Lib.hid hb3
    have HP3 := Lib.hid hp3
    have HQ := Lib.hid hQ
    clear hb3 hp3 hQ
    rcases hor with ⟨hns, rfl⟩ | ⟨hsd, v, rfl, hov⟩
    · have hQ4 : Q = (rec0 0, 4) := by rw [HQ.out]; unfold rdSeal; rw [if_neg hns]
      subst hQ4
      clear hns
      have hpz := HP3.out
      obtain ⟨z0, z1, z2, z3, z4, z5, z6, z7, z8⟩ := rec_cells hpz
      have y0 : w3.frozen? ⟨p, 0, none⟩ = false := by simp [World.frozen?, hpz]
      have y1 : w3.frozen? ⟨p, 1, none⟩ = false := by simp [World.frozen?, hpz]
      have y2 : w3.frozen? ⟨p, 2, none⟩ = false := by simp [World.frozen?, hpz]
      have y3 : w3.frozen? ⟨p, 3, none⟩ = false := by simp [World.frozen?, hpz]
      have y4 : w3.frozen? ⟨p, 4, none⟩ = false := by simp [World.frozen?, hpz]
      have y5 : w3.frozen? ⟨p, 5, none⟩ = false := by simp [World.frozen?, hpz]
      have y6 : w3.frozen? ⟨p, 6, none⟩ = false := by simp [World.frozen?, hpz]
      have y7 : w3.frozen? ⟨p, 7, none⟩ = false := by simp [World.frozen?, hpz]
      have y8 : w3.frozen? ⟨p, 8, none⟩ = false := by simp [World.frozen?, hpz]
      have hput := rec_put (v0 := .int .u8 0) (v1 := .int .i64 0) (v2 := .int .i64 0) (v3 := .int .i64 0) (v4 := .int .i64 0) (v5 := .slice none 0 0) (v6 := .int .i64 0) (v7 := .int .u64 0) (v8 := .int .u64 0) hpz
      rw [put_self hpz] at hput
      have HPUT := Lib.hid hput
      clear hput hpz
      go_wp2_with fail
      rw [HPUT.out]
      refine bodyPost_ret (v := .tuple #[.agg #[.int .u8 0, .int .i64 0, .int .i64 0, .int .i64 0, .int .i64 0, .slice none 0 0, .int .i64 0, .int .u64 0, .int .u64 0], .int .i64 4]) (by simp [results, Tryz.results52, go_sem, z0, z1, z2, z3, z4, z5, z6, z7, z8]; try rfl) rfl ?_
      refine ⟨none, 0, 0, by simp [rcV, rec0], Lib.hid ⟨HSV.out.trans (Save.of_below HB3.out _), HRD.out.below ((HB3.out.mono (Nat.le_of_lt HZ2.out)).mono HLE.out), ⟨rfl, by simp [rec0], by omega⟩, (fun b o he => by cases he), Nat.le_refl _⟩⟩
    · obtain ⟨aV, cV, rfl, hrV, hcV, hlV⟩ := hov.lies
      have hnS : nS = S.length := HRS.out.1.symm
      have hQ3 : Q = if (pars (S.take (S.length - 4))).isSome then ((cand (S.take (S.length - 4))).1, 0) else (rec0 0, 3) := by rw [HQ.out]; unfold rdSeal; rw [if_pos hsd]
      rw [← hnS] at hQ3
      obtain ⟨P, hP⟩ : ∃ P, P = S.take (nS - 4) := ⟨_, rfl⟩
      rw [← hP] at hQ3 hrV hcV ⊢
      have hPl : P.length ≤ 1000000 := by rw [hP]; simp; omega
      have hpa := parse_any aV P.length cV P w3 hrV hPl hcV
      obtain ⟨y, hy⟩ : ∃ y, y = (cand P).1 := ⟨_, rfl⟩
      obtain ⟨B, hB⟩ : ∃ B, B = (pars P).isSome := ⟨_, rfl⟩
      rw [← hy, ← hB] at hpa hQ3
      have HPA := Lib.hid hpa
      have HLV : Hid (∀ b o, aV = some ⟨b, o, none⟩ → p < b) := Lib.hid fun b o he => Nat.lt_of_lt_of_le HZ2.out (hlV b o he)
      have HQ3 := Lib.hid hQ3
      clear hov hrV hcV hlV hnS hQ3 hP hPl hpa hy hB hsd
      obtain ⟨k, i, b, f, t, lb, c, dn, ds⟩ := y
      simp only [rcV] at HPA
      go_wp2_with fail
      refine HPA.out.mono ?_
      rintro e w4 ⟨a2, n2, c2, rfl, HX⟩
      have HB4 : Hid (Below w2.heap.size w2 w4) := Lib.hid (HB3.out.trans (HX.out.1.mono HB3.out.size))
      obtain ⟨w5, hw5⟩ : ∃ w5, w5 = w4.alloc (.cells #[.int .u8 (k : Int), .int .i64 i, .int .i64 b, .int .i64 f, .int .i64 t, .slice a2 n2 c2, .int .i64 c, .int .u64 (dn : Int), .int .u64 (ds : Int)] 57) := ⟨_, rfl⟩
      obtain ⟨q, hq⟩ : ∃ q, q = w4.heap.size := ⟨_, rfl⟩
      have HW5 : Hid (w4.alloc (.cells #[.int .u8 (k : Int), .int .i64 i, .int .i64 b, .int .i64 f, .int .i64 t, .slice a2 n2 c2, .int .i64 c, .int .u64 (dn : Int), .int .u64 (ds : Int)] 57) = w5 ∧ w4.heap.size = q) := Lib.hid ⟨hw5.symm, hq.symm⟩
      have hb5 : Below w4.heap.size w4 w5 := by rw [hw5]; exact Below.alloc0 _ _
      have HB5 : Hid (Below w2.heap.size w2 w5) := Lib.hid (HB4.out.trans (hb5.mono HB4.out.size))
      have HQ5 : Hid (w5.heap[q]? = some (.cells #[.int .u8 (k : Int), .int .i64 i, .int .i64 b, .int .i64 f, .int .i64 t, .slice a2 n2 c2, .int .i64 c, .int .u64 (dn : Int), .int .u64 (ds : Int)] 57 (0, 0))) := Lib.hid (by rw [hw5, hq]; exact heap_alloc_new w4 _)
      have HP5 : Hid (w5.heap[p]? = some (.cells #[.int .u8 0, .int .i64 0, .int .i64 0, .int .i64 0, .int .i64 0, .slice none 0 0, .int .i64 0, .int .u64 0, .int .u64 0] 57 (0, 0))) := Lib.hid ((HB5.out.block p HZ2.out).trans HP2.out)
      have HRB : Hid (Rd w5 a2 n2 lb) := Lib.hid (HX.out.2.1.later hb5)
      have HPQ : Hid (p < q) := Lib.hid (by rw [hq]; exact Nat.lt_of_lt_of_le HZ2.out HB4.out.size)
      have HLB : Hid (∀ b o, a2 = some ⟨b, o, none⟩ → 0 < n2 → p < b) := Lib.hid fun b o he h0 => by
        obtain ⟨o1, h1⟩ := HX.out.2.2.2 b o he h0
        exact HLV.out b o1 h1
      clear hw5 hq hb5
      cases B
      · have hQ5 : Q = (rec0 0, 3) := by have := HQ3.out; simpa using this
        subst hQ5
        go_upto_region 9 with fail
        change Code.wp _ _ _ _ (w4.alloc (.cells #[.int .u8 (k : Int), .int .i64 i, .int .i64 b, .int .i64 f, .int .i64 t, .slice a2 n2 c2, .int .i64 c, .int .u64 (dn : Int), .int .u64 (ds : Int)] 57))
        rw [HW5.out.1]
        try rw [HW5.out.2]
        have hpz := HP5.out
        obtain ⟨z0, z1, z2, z3, z4, z5, z6, z7, z8⟩ := rec_cells hpz
        have y0 : w5.frozen? ⟨p, 0, none⟩ = false := by simp [World.frozen?, hpz]
        have y1 : w5.frozen? ⟨p, 1, none⟩ = false := by simp [World.frozen?, hpz]
        have y2 : w5.frozen? ⟨p, 2, none⟩ = false := by simp [World.frozen?, hpz]
        have y3 : w5.frozen? ⟨p, 3, none⟩ = false := by simp [World.frozen?, hpz]
        have y4 : w5.frozen? ⟨p, 4, none⟩ = false := by simp [World.frozen?, hpz]
        have y5 : w5.frozen? ⟨p, 5, none⟩ = false := by simp [World.frozen?, hpz]
        have y6 : w5.frozen? ⟨p, 6, none⟩ = false := by simp [World.frozen?, hpz]
        have y7 : w5.frozen? ⟨p, 7, none⟩ = false := by simp [World.frozen?, hpz]
        have y8 : w5.frozen? ⟨p, 8, none⟩ = false := by simp [World.frozen?, hpz]
        have hput := rec_put (v0 := .int .u8 0) (v1 := .int .i64 0) (v2 := .int .i64 0) (v3 := .int .i64 0) (v4 := .int .i64 0) (v5 := .slice none 0 0) (v6 := .int .i64 0) (v7 := .int .u64 0) (v8 := .int .u64 0) hpz
        rw [put_self hpz] at hput
        have HPUT := Lib.hid hput
        clear hput hpz
        go_wp2_with fail
        rw [HPUT.out]
        refine bodyPost_ret (v := .tuple #[.agg #[.int .u8 0, .int .i64 0, .int .i64 0, .int .i64 0, .int .i64 0, .slice none 0 0, .int .i64 0, .int .u64 0, .int .u64 0], .int .i64 3]) (by simp [results, Tryz.results52, go_sem, z0, z1, z2, z3, z4, z5, z6, z7, z8]; try rfl) rfl ?_
        refine ⟨none, 0, 0, by simp [rcV, rec0], Lib.hid ⟨HSV.out.trans (Save.of_below HB5.out _), HRD.out.below ((HB5.out.mono (Nat.le_of_lt HZ2.out)).mono HLE.out), ⟨rfl, by simp [rec0], by omega⟩, (fun b o he => by cases he), Nat.le_refl _⟩⟩
      · have hQ5 : Q = (⟨k, i, b, f, t, lb, c, dn, ds⟩, 0) := by have := HQ3.out; simpa using this
        subst hQ5
        go_upto_region 9 with fail
        change Code.wp _ _ _ _ (w4.alloc (.cells #[.int .u8 (k : Int), .int .i64 i, .int .i64 b, .int .i64 f, .int .i64 t, .slice a2 n2 c2, .int .i64 c, .int .u64 (dn : Int), .int .u64 (ds : Int)] 57))
        rw [HW5.out.1]
        try rw [HW5.out.2]
        obtain ⟨e0, e1, e2, e3, e4, e5, e6, e7, e8⟩ := rec_cells HQ5.out
        obtain ⟨z0, z1, z2, z3, z4, z5, z6, z7, z8⟩ := rec_cells HP5.out
        have hpz := HP5.out
        have y0 : w5.frozen? ⟨p, 0, none⟩ = false := by simp [World.frozen?, hpz]
        have y1 : w5.frozen? ⟨p, 1, none⟩ = false := by simp [World.frozen?, hpz]
        have y2 : w5.frozen? ⟨p, 2, none⟩ = false := by simp [World.frozen?, hpz]
        have y3 : w5.frozen? ⟨p, 3, none⟩ = false := by simp [World.frozen?, hpz]
        have y4 : w5.frozen? ⟨p, 4, none⟩ = false := by simp [World.frozen?, hpz]
        have y5 : w5.frozen? ⟨p, 5, none⟩ = false := by simp [World.frozen?, hpz]
        have y6 : w5.frozen? ⟨p, 6, none⟩ = false := by simp [World.frozen?, hpz]
        have y7 : w5.frozen? ⟨p, 7, none⟩ = false := by simp [World.frozen?, hpz]
        have y8 : w5.frozen? ⟨p, 8, none⟩ = false := by simp [World.frozen?, hpz]
        have hput := rec_put (v0 := .int .u8 (k : Int)) (v1 := .int .i64 i) (v2 := .int .i64 b) (v3 := .int .i64 f) (v4 := .int .i64 t) (v5 := .slice a2 n2 c2) (v6 := .int .i64 c) (v7 := .int .u64 (dn : Int)) (v8 := .int .u64 (ds : Int)) hpz
        have HPUT := Lib.hid hput
        clear hput hpz
        go_wp2_with fail
        rw [HPUT.out]
        clear z0 z1 z2 z3 z4 z5 z6 z7 z8 y0 y1 y2 y3 y4 y5 y6 y7 y8 e0 e1 e2 e3 e4 e5 e6 e7 e8
        have hp9 := put_same (o := .cells #[.int .u8 (k : Int), .int .i64 i, .int .i64 b, .int .i64 f, .int .i64 t, .slice a2 n2 c2, .int .i64 c, .int .u64 (dn : Int), .int .u64 (ds : Int)] 57 (0, 0)) HP5.out
        have hsv9 : Save [p] w5 (put w5 p (.cells #[.int .u8 (k : Int), .int .i64 i, .int .i64 b, .int .i64 f, .int .i64 t, .slice a2 n2 c2, .int .i64 c, .int .u64 (dn : Int), .int .u64 (ds : Int)] 57 (0, 0))) := (Save.refl _ _).put (by simp) _
        have hbl9 : Below p w5 (put w5 p (.cells #[.int .u8 (k : Int), .int .i64 i, .int .i64 b, .int .i64 f, .int .i64 t, .slice a2 n2 c2, .int .i64 c, .int .u64 (dn : Int), .int .u64 (ds : Int)] 57 (0, 0))) := put_below _ (Nat.le_refl _)
        generalize put w5 p (.cells #[.int .u8 (k : Int), .int .i64 i, .int .i64 b, .int .i64 f, .int .i64 t, .slice a2 n2 c2, .int .i64 c, .int .u64 (dn : Int), .int .u64 (ds : Int)] 57 (0, 0)) = w9 at hp9 hsv9 hbl9 ⊢
        have HF9 : Hid (Save [p] w5 w9 ∧ Below p w5 w9) := Lib.hid ⟨hsv9, hbl9⟩
        clear hsv9 hbl9
        obtain ⟨d0, d1, d2, d3, d4, d5, d6, d7, d8⟩ := rec_cells hp9
        refine bodyPost_ret (v := .tuple #[.agg #[.int .u8 (k : Int), .int .i64 i, .int .i64 b, .int .i64 f, .int .i64 t, .slice a2 n2 c2, .int .i64 c, .int .u64 (dn : Int), .int .u64 (ds : Int)], .int .i64 0]) (by simp [results, Tryz.results52, go_sem, d0, d1, d2, d3, d4, d5, d6, d7, d8]; try rfl) rfl ?_
        refine ⟨a2, n2, c2, rfl, Lib.hid ⟨?_, ?_, ?_, (fun b o he h0 => Nat.le_of_lt (HLB.out b o he h0)), HX.out.2.2.1⟩⟩
        · have h1 : Below p w2 w9 := (HB5.out.mono (Nat.le_of_lt HZ2.out)).trans HF9.out.2
          have h2 := HSV.out
          exact ⟨h1.os.trans h2.os, h1.tape.trans h2.tape, h1.output.trans h2.output, Nat.le_trans h2.size h1.size, fun k' hk' hx => (h1.block k' (by have := HW.out.2; omega)).trans (h2.block k' hk' hx)⟩
        · exact HRD.out.below (((HB5.out.mono (Nat.le_of_lt HZ2.out)).trans HF9.out.2).mono HLE.out)
        · rcases Nat.eq_zero_or_pos n2 with h0 | h0
          · exact ⟨HRB.out.1, HRB.out.2.1, by omega⟩
          · refine HRB.out.save HF9.out.1 fun b' o he => ?_
            have := HLB.out b' o he h0
            simp only [List.mem_singleton]
            omega
  · have hE1 : ((E1 : Int) != 0) = true := by simp; omega
    have hQ : Q = (rec0 0, E1) := by have := HRR.out; simpa [hE] using this
    subst hQ
    clear hE
    have hpz := HP2.out
    obtain ⟨z0, z1, z2, z3, z4, z5, z6, z7, z8⟩ := rec_cells hpz
    have y0 : w2.frozen? ⟨p, 0, none⟩ = false := by simp [World.frozen?, hpz]
    have y1 : w2.frozen? ⟨p, 1, none⟩ = false := by simp [World.frozen?, hpz]
    have y2 : w2.frozen? ⟨p, 2, none⟩ = false := by simp [World.frozen?, hpz]
    have y3 : w2.frozen? ⟨p, 3, none⟩ = false := by simp [World.frozen?, hpz]
    have y4 : w2.frozen? ⟨p, 4, none⟩ = false := by simp [World.frozen?, hpz]
    have y5 : w2.frozen? ⟨p, 5, none⟩ = false := by simp [World.frozen?, hpz]
    have y6 : w2.frozen? ⟨p, 6, none⟩ = false := by simp [World.frozen?, hpz]
    have y7 : w2.frozen? ⟨p, 7, none⟩ = false := by simp [World.frozen?, hpz]
    have y8 : w2.frozen? ⟨p, 8, none⟩ = false := by simp [World.frozen?, hpz]
    have hput := rec_put (v0 := .int .u8 0) (v1 := .int .i64 0) (v2 := .int .i64 0) (v3 := .int .i64 0) (v4 := .int .i64 0) (v5 := .slice none 0 0) (v6 := .int .i64 0) (v7 := .int .u64 0) (v8 := .int .u64 0) hpz
    rw [put_self hpz] at hput
    have HPUT := Lib.hid hput
    clear hput hpz
    go_wp2_with fail
    rw [HPUT.out]
    refine bodyPost_ret (v := .tuple #[.agg #[.int .u8 0, .int .i64 0, .int .i64 0, .int .i64 0, .int .i64 0, .slice none 0 0, .int .i64 0, .int .u64 0, .int .u64 0], .int .i64 (E1 : Int)]) (by simp [results, Tryz.results52, go_sem, z0, z1, z2, z3, z4, z5, z6, z7, z8]; try rfl) rfl ?_
    refine ⟨none, 0, 0, by simp [rcV, rec0], Lib.hid ⟨HSV.out, HRD.out, ⟨rfl, by simp [rec0], by omega⟩, (fun b o he => by cases he), Nat.le_refl _⟩⟩

theorem rread_any (w : World) (g E : Nat) (l : List Nat) (h : Rdr w 128 g E l) :
    Calls Tryz.prog 52 #[.pointer (some ⟨g, 0, none⟩)] w fun e w' => ∃ a2 n2 c2, e = .returned (.tuple #[rcV (rdRec E l).1 a2 n2 c2, .int .i64 ((rdRec E l).2 : Int)]) ∧ Hid (Save [g] w w' ∧ RdrHi w' 128 g (rByt E l 200).2.1 (rByt E l 200).2.2 w.heap.size ∧ Rd w' a2 n2 (rdRec E l).1.l ∧ (∀ b o, a2 = some ⟨b, o, none⟩ → 0 < n2 → w.heap.size ≤ b) ∧ n2 ≤ c2) :=
  rreadHi_any w g E l w.heap.size h.hi (Nat.le_refl _)

end Go.Proofs.YtaijldcfoaeogaaGreat

/- A record's bytes are read as it. Plain mathematics. -/
namespace Go.Proofs.YtaijldcfoaeogaaGreat
open Go.RowKit
set_option maxRecDepth 100000
set_option linter.unusedSimpArgs false

theorem rNum_enc {x most : Nat} (r : List Nat) (h : x ≤ most) (hx : x < 18446744073709551616) : rNum 0 (vEnc x ++ r) most = (x, 0, r) := by
  obtain ⟨h1, h2, h3⟩ := vRead (n := x) r hx
  rw [rNum_ok h1 (by omega), h2, h3]
  simp

theorem rNum_enc0 {x most : Nat} (h : x ≤ most) (hx : x < 18446744073709551616) : rNum 0 (vEnc x) most = (x, 0, []) := by
  have := rNum_enc (x := x) (most := most) [] h hx
  simpa using this

theorem cand_plain {x : Rec} (hx : x.ok = true) : cand x.plain = (x, true) := by
  rcases Rec.ok_cases hx with ⟨i, b, h1, h2, rfl⟩ | ⟨f, t, l, h1, h2, h3, h4, rfl⟩ | ⟨f, t, h1, h2, rfl⟩ | ⟨c, n, s, h1, h2, h3, rfl⟩
  · have e1 := rNum_enc (x := i) (most := 1099511627776) (vEnc b) h1 (by omega)
    have e2 := rNum_enc0 (x := b) (most := 1099511627776) h2 (by omega)
    have ep : Rec.plain ⟨1, i, b, 0, 0, [], 0, 0, 0⟩ = 1 :: (vEnc i ++ vEnc b) := by simp [Rec.plain]
    rw [ep]
    simp [cand, candH, e1, e2, rEnd]
  · obtain ⟨v1, v2, v3⟩ := vRead (n := f) l (by omega)
    have ep : Rec.plain ⟨2, 0, 0, f, t, l, 0, 0, 0⟩ = 2 :: (vEnc f ++ l) := by simp [Rec.plain]
    rw [ep]
    have e1 : cand (2 :: (vEnc f ++ l)) = candD (vEnc f ++ l) := by simp [cand]
    rw [e1]
    unfold candD
    rw [if_pos ⟨v1, by rw [v3]; omega⟩, v2, v3]
    have e2 : (vEnc f ++ l).drop (vEnc f).length = l := by simp
    have e3 : f + ((vEnc f ++ l).length - (vEnc f).length) / 32 = t := by simp; omega
    rw [e2, e3]
  · have e1 := rNum_enc (x := f) (most := 1099511627776) (vEnc t) (by omega) (by omega)
    have e2 := rNum_enc0 (x := t) (most := 1099511627776) (by omega) (by omega)
    have ep : Rec.plain ⟨3, 0, 0, f, t, [], 0, 0, 0⟩ = 3 :: (vEnc f ++ vEnc t) := by simp [Rec.plain]
    rw [ep]
    simp [cand, candO, e1, e2, rEnd]
  · have e1 := rNum_enc (x := c) (most := 1099511627776) (vEnc n ++ vEnc s) h1 (by omega)
    have e2 := rNum_enc (x := n) (most := 1099511627776) (vEnc s) h2 (by omega)
    have e3 := rNum_enc0 (x := s) (most := 2305843009213693950) (by omega) (by omega)
    have ep : Rec.plain ⟨4, 0, 0, 0, 0, [], c, n, s⟩ = 4 :: (vEnc c ++ (vEnc n ++ vEnc s)) := by simp [Rec.plain]
    rw [ep]
    simp [cand, candT, threeN, e1, e2, e3, rEnd]

theorem rdRec_bytes {x : Rec} (hx : x.ok = true) : rdRec 0 x.bytes = (x, 0) := by
  obtain ⟨l1, l2⟩ := Rec.plain_len hx
  obtain ⟨P, hP⟩ : ∃ P, P = x.plain := ⟨_, rfl⟩
  rw [← hP] at l1 l2
  obtain ⟨Z, hZ⟩ : ∃ Z, Z = P ++ sumB (cSum P) := ⟨_, rfl⟩
  have hZl : Z.length = P.length + 4 := by rw [hZ]; simp [sumB]
  have hb : x.bytes = vEnc Z.length ++ Z := by rw [hZ, hP]; rfl
  have e1 : rByt 0 x.bytes 200 = (Z, 0, []) := by
    have h1 := rNum_enc (x := Z.length) (most := 200) Z (by omega) (by omega)
    rw [hb, rByt_ok h1 (by omega)]
    simp
  have ht : Z.take (Z.length - 4) = P := by rw [hZl, hZ]; simp
  have hs : Sealed Z := by
    refine ⟨by omega, ?_⟩
    rw [ht, hZl, hZ]
    have : (P ++ sumB (cSum P)).drop (P.length + 4 - 4) = sumB (cSum P) := by simp
    rw [this, numB_sumB]
  unfold rdRec
  rw [e1]
  simp only [ne_eq, not_true_eq_false, if_false]
  unfold rdSeal
  rw [if_pos hs, ht, hP, pars_isSome, cand_plain hx, hx]
  rfl

end Go.Proofs.YtaijldcfoaeogaaGreat

/- Bytes that are a record are its bytes: each record has but one row. Plain mathematics. -/
namespace Go.Proofs.YtaijldcfoaeogaaGreat
open Go.RowKit
set_option maxRecDepth 100000
set_option linter.unusedSimpArgs false

theorem rNum_inv {l : List Nat} {m : Nat} (hb : ∀ z ∈ l, z < 256) (h : (rNum 0 l m).2.1 = 0) : l = vEnc (rNum 0 l m).1 ++ (rNum 0 l m).2.2 ∧ (rNum 0 l m).1 < 18446744073709551616 := by
  by_cases h1 : vErr l = 0
  · by_cases h2 : m < vNum l
    · rw [rNum_long h1 h2] at h; simp at h
    · obtain ⟨g1, _, _, _, g5⟩ := vOne hb h1
      rw [rNum_ok h1 h2]
      simp only
      rw [g1, List.take_append_drop]
      exact ⟨rfl, g5⟩
  · rw [rNum_err h1] at h
    exact absurd h h1

theorem rNum_next {E m : Nat} {l : List Nat} (h : (rNum E l m).2.1 = 0) : E = 0 := by
  by_cases hE : E = 0
  · exact hE
  · rw [rNum_failed hE] at h
    exact absurd h hE

theorem rEnd_nil {E : Nat} {l : List Nat} (h : rEnd E l = 0) : E = 0 ∧ l = [] := by
  unfold rEnd at h
  split at h
  · omega
  · split at h
    · rename_i h1 h2
      exact ⟨by omega, h2⟩
    · cases h

/-- Bytes that are a record are what is sealed of it. -/
theorem cand_inv {l : List Nat} (hb : ∀ z ∈ l, z < 256) (h2 : (cand l).2 = true) (hk : (cand l).1.ok = true) : l = (cand l).1.plain := by
  match l, hb, h2, hk with
  | [], _, h2, _ => cases h2
  | k :: r, hb, h2, hk =>
    have hbr : ∀ z ∈ r, z < 256 := fun z hz => hb z (by simp [hz])
    by_cases e2 : k = 2
    · subst e2
      have e : cand (2 :: r) = candD r := by simp [cand]
      rw [e] at h2 hk ⊢
      unfold candD at h2 hk ⊢
      by_cases hg : vErr r = 0 ∧ vNum r < 256
      · rw [if_pos hg]
        obtain ⟨g1, _⟩ := vOne hbr hg.1
        simp only [Rec.plain]
        simp [g1, List.take_append_drop]
      · rw [if_neg hg] at h2; cases h2
    by_cases e1 : k = 1
    · subst e1
      have e : cand (1 :: r) = candH r := by simp [cand]
      rw [e] at h2 hk ⊢
      simp only [candH, decide_eq_true_eq] at h2
      have h4 : (rNum (rNum 0 r 1099511627776).2.1 (rNum 0 r 1099511627776).2.2 1099511627776).2.1 = 0 ∧ (rNum (rNum 0 r 1099511627776).2.1 (rNum 0 r 1099511627776).2.2 1099511627776).2.2 = [] := rEnd_nil h2
      have h5 := rNum_next h4.1
      have h6 := rNum_inv hbr h5
      have hb1 : ∀ z ∈ (rNum 0 r 1099511627776).2.2, z < 256 := rNum_bytes hbr
      rw [h5] at h4
      have h7 := rNum_inv hb1 h4.1
      simp only [candH, Rec.plain]
      rw [h5]
      simp
      rw [h4.2] at h7
      simp at h7
      rw [← h7.1]
      exact h6.1
    by_cases e3 : k = 3
    · subst e3
      have e : cand (3 :: r) = candO r := by simp [cand]
      rw [e] at h2 hk ⊢
      simp only [candO, decide_eq_true_eq] at h2
      have h4 : (rNum (rNum 0 r 1099511627776).2.1 (rNum 0 r 1099511627776).2.2 1099511627776).2.1 = 0 ∧ (rNum (rNum 0 r 1099511627776).2.1 (rNum 0 r 1099511627776).2.2 1099511627776).2.2 = [] := rEnd_nil h2
      have h5 := rNum_next h4.1
      have h6 := rNum_inv hbr h5
      have hb1 : ∀ z ∈ (rNum 0 r 1099511627776).2.2, z < 256 := rNum_bytes hbr
      rw [h5] at h4
      have h7 := rNum_inv hb1 h4.1
      simp only [candO, Rec.plain]
      rw [h5]
      simp
      rw [h4.2] at h7
      simp at h7
      rw [← h7.1]
      exact h6.1
    by_cases e4 : k = 4
    · subst e4
      have e : cand (4 :: r) = candT r := by simp [cand]
      rw [e] at h2 hk ⊢
      simp only [candT] at h2
      have h9 := of_decide_eq_true h2
      simp only [threeN] at h9
      obtain ⟨g1, g2⟩ := rEnd_nil h9
      have g3 := rNum_next g1
      rw [g3] at g1 g2
      have g4 := rNum_next g3
      have h6 := rNum_inv hbr g4
      have hb1 : ∀ z ∈ (rNum 0 r 1099511627776).2.2, z < 256 := rNum_bytes hbr
      rw [g4] at g1 g2 g3
      have h7 := rNum_inv hb1 g3
      have hb2 : ∀ z ∈ (rNum 0 (rNum 0 r 1099511627776).2.2 1099511627776).2.2, z < 256 := rNum_bytes hb1
      have h8 := rNum_inv hb2 g1
      simp only [candT, threeN, Rec.plain]
      rw [g4, g3]
      simp
      rw [g2] at h8
      simp at h8
      rw [← h8.1, ← h7.1]
      exact h6.1
    exfalso
    have : (cand (k :: r)).1 = rec0 k := by simp [cand, e1, e2, e3, e4]
    rw [this] at hk
    simp [Rec.ok, rec0, e1, e2, e3, e4] at hk

end Go.Proofs.YtaijldcfoaeogaaGreat
