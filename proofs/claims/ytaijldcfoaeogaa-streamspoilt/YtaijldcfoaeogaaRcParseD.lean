/- What bytes come to: the contracts of parseData, parse, over any world. -/
import Derived.Test.YtaijldcfoaeogaaGRcParseToSmAdd
namespace Go.Proofs.Ytaijldcfoaeogaa
open Go.RowKit
set_option linter.unusedSimpArgs false

/-- Where bytes lie that are part of others. -/
def Part (a a2 : Option Addr) (n2 : Nat) : Prop := ∀ b o, a2 = some ⟨b, o, none⟩ → 0 < n2 → ∃ o', a = some ⟨b, o', none⟩

theorem part_cut {w : World} {a : Option Addr} {n c k : Nat} {l : List Nat} (h : Rd w a n l) (hk : k ≤ n) (hc : n ≤ c) : Part a (cutA a c k) (n - k) := by
  intro b o he hn
  unfold cutA at he
  rw [if_neg (by omega)] at he
  obtain ⟨b', o', rfl, _⟩ := h.2.2 (by omega)
  simp only [Option.map_some, add_plain] at he
  injection he with he
  injection he with e1 e2
  subst e1
  exact ⟨o', rfl⟩

set_option maxHeartbeats 2000000 in
set_option maxRecDepth 100000 in
theorem parseD_bad (a : Option Addr) (n c : Nat) (r : List Nat) (w : World) (h : Rd w a n r) (hn : n ≤ 1000000) (hbad : ¬ (vErr r = 0 ∧ vNum r < 256)) :
    Calls Try.prog 68 #[.slice a n c] w fun e w' => e = .returned (.tuple #[rcV (rec0 0) none 0 0, .bool false]) ∧ Below w.heap.size w w' := by
  have hN : ∀ o, Calls Try.prog 74 #[.slice a n c] (w.alloc o) fun e w' => e = .returned (.tuple #[.int .u64 (vNum r : Nat), .int .i64 (vLen r : Nat), .int .i64 (vErr r : Nat)]) ∧ w.alloc o = w' :=
    fun o => next_any a n c r _ (h.later (Below.alloc0 _ _)) hn
  obtain ⟨X, hX⟩ : ∃ X, X = vNum r := ⟨_, rfl⟩
  obtain ⟨K, hK⟩ : ∃ K, K = vLen r := ⟨_, rfl⟩
  obtain ⟨E, hE⟩ : ∃ E, E = vErr r := ⟨_, rfl⟩
  rw [← hX, ← hE] at hbad
  rw [← hX, ← hK, ← hE] at hN
  have HN := Lib.hid hN
  clear hX hK hE hN h
  by_cases hE0 : E = 0
  · subst hE0
    have hX9 : 256 ≤ (X : Int) := by omega
    clear hbad
    go_enter Try.func68, Try.ntmps68
    go_wp2_with fail
    refine (HN.out _).mono ?_
    rintro e w1 ⟨rfl, rfl⟩
    go_wp2
    go_returns
    exact ⟨rfl, Below.alloc0 _ _⟩
  · have hE1 : ((E : Int) != 0) = true := by simp; omega
    clear hbad
    go_enter Try.func68, Try.ntmps68
    go_wp2_with fail
    refine (HN.out _).mono ?_
    rintro e w1 ⟨rfl, rfl⟩
    go_wp2
    go_returns
    exact ⟨rfl, Below.alloc0 _ _⟩

set_option maxHeartbeats 4000000 in
set_option maxRecDepth 100000 in
theorem parseD_good (a : Option Addr) (n c : Nat) (r : List Nat) (w : World) (h : Rd w a n r) (hn : n ≤ 1000000) (hc : n ≤ c) (hgood : vErr r = 0 ∧ vNum r < 256) :
    Calls Try.prog 68 #[.slice a n c] w fun e w' => ∃ a2 n2 c2, e = .returned (.tuple #[rcV (candD r).1 a2 n2 c2, .bool ((candD r).1.ok)]) ∧ Hid (Below w.heap.size w w' ∧ Rd w' a2 n2 (candD r).1.l ∧ Part a a2 n2) := by
  have hK : vLen r ≤ n := by have := (vOne h.2.1 hgood.1).2.2.2.1; have := h.1; omega
  have hcd : candD r = (⟨2, 0, 0, (vNum r : Nat), ((vNum r + (r.length - vLen r) / 32 : Nat) : Int), r.drop (vLen r), 0, 0, 0⟩, true) := by unfold candD; rw [if_pos hgood]
  rw [hcd]
  have hN : ∀ o, Calls Try.prog 74 #[.slice a n c] (w.alloc o) fun e w' => e = .returned (.tuple #[.int .u64 (vNum r : Nat), .int .i64 (vLen r : Nat), .int .i64 (vErr r : Nat)]) ∧ w.alloc o = w' :=
    fun o => next_any a n c r _ (h.later (Below.alloc0 _ _)) hn
  rw [hgood.1, h.1] at *
  have hX9 := hgood.2
  have hcut := h.cut hK hc
  have hpart := part_cut h hK hc
  obtain ⟨X, hX⟩ : ∃ X, X = vNum r := ⟨_, rfl⟩
  obtain ⟨K, hKe⟩ : ∃ K, K = vLen r := ⟨_, rfl⟩
  obtain ⟨D, hD⟩ : ∃ D, D = r.drop (vLen r) := ⟨_, rfl⟩
  rw [← hD] at hcut ⊢
  rw [← hX] at hX9
  rw [← hX, ← hKe] at hN ⊢
  rw [← hKe] at hK hcut hpart
  obtain ⟨A1, hA1⟩ : ∃ A1, A1 = cutA a c K := ⟨_, rfl⟩
  obtain ⟨m, hm⟩ : ∃ m, m = n - K := ⟨_, rfl⟩
  obtain ⟨c1, hc1⟩ : ∃ c1, c1 = c - K := ⟨_, rfl⟩
  have hs := fun W => slice_from a n c K .i64 hK W
  rw [← hA1, ← hm] at hcut hpart hs
  rw [← hc1] at hs
  rw [← hm]
  obtain ⟨T, hT⟩ : ∃ T, T = X + m / 32 := ⟨_, rfl⟩
  have hT1 : (X : Int) + (m : Int) / 32 = (T : Int) := by omega
  rw [← hT]
  have HT1 := Lib.hid hT1
  have HN := Lib.hid hN
  have HCUT := Lib.hid hcut
  have HPART := Lib.hid hpart
  have hm6 : m ≤ 1000000 := by omega
  clear hgood hcd hX hKe hD hA1 hm hc1 hT hT1 hN hcut hpart h
  obtain ⟨V, hV⟩ : ∃ V, V = Rec.ok ⟨2, 0, 0, X, T, D, 0, 0, 0⟩ := ⟨_, rfl⟩
  rw [← hV]
  have HVE := Lib.hid hV
  clear hV
  go_enter Try.func68, Try.ntmps68
  go_wp2_with fail
  refine (HN.out _).mono ?_
  rintro e w2 ⟨rfl, rfl⟩
  go_wp2_with fail
  go_quiet (fail)
  go_upto_region 6 with fail
  rw [HT1.out]
  obtain ⟨p, hp⟩ : ∃ p, p = w.heap.size := ⟨_, rfl⟩
  obtain ⟨w1, hw1⟩ : ∃ w1, w1 = ((w.alloc (.cells #[.int .u8 0, .int .i64 0, .int .i64 0, .int .i64 0, .int .i64 0, .slice none 0 0, .int .i64 0, .int .u64 0, .int .u64 0] 57)).drewN nq).alloc (.cells #[.int .u8 2, .int .i64 0, .int .i64 0, .int .i64 (X : Int), .int .i64 (T : Int), .slice A1 m c1, .int .i64 0, .int .u64 0, .int .u64 0] 57) := ⟨_, rfl⟩
  have HW : Hid ((((w.alloc (.cells #[.int .u8 0, .int .i64 0, .int .i64 0, .int .i64 0, .int .i64 0, .slice none 0 0, .int .i64 0, .int .u64 0, .int .u64 0] 57)).drewN nq).alloc (.cells #[.int .u8 2, .int .i64 0, .int .i64 0, .int .i64 (X : Int), .int .i64 (T : Int), .slice A1 m c1, .int .i64 0, .int .u64 0, .int .u64 0] 57)) = w1 ∧ w.heap.size = p) := Lib.hid ⟨hw1.symm, hp.symm⟩
  have hB1 : Below w.heap.size w w1 := by rw [hw1]; exact (Below.drewN' ((Below.refl _ _).alloc (Nat.le_refl _) _) nq).alloc (by simp) _
  have hsz : w1.heap.size = p + 2 := by rw [hw1, hp]; simp
  have hp1 : w1.heap[p]? = some (.cells #[.int .u8 0, .int .i64 0, .int .i64 0, .int .i64 0, .int .i64 0, .slice none 0 0, .int .i64 0, .int .u64 0, .int .u64 0] 57 (0, 0)) := by rw [hw1, hp]; exact (heap_alloc_old ((w.alloc (.cells #[.int .u8 0, .int .i64 0, .int .i64 0, .int .i64 0, .int .i64 0, .slice none 0 0, .int .i64 0, .int .u64 0, .int .u64 0] 57)).drewN nq) _ (by simp)).trans (heap_alloc_new w _)
  have hq1 : w1.heap[p + 1]? = some (.cells #[.int .u8 2, .int .i64 0, .int .i64 0, .int .i64 (X : Int), .int .i64 (T : Int), .slice A1 m c1, .int .i64 0, .int .u64 0, .int .u64 0] 57 (0, 0)) := by
    rw [hw1, hp]
    have e := heap_alloc_new ((w.alloc (.cells #[.int .u8 0, .int .i64 0, .int .i64 0, .int .i64 0, .int .i64 0, .slice none 0 0, .int .i64 0, .int .u64 0, .int .u64 0] 57)).drewN nq) (.cells #[.int .u8 2, .int .i64 0, .int .i64 0, .int .i64 (X : Int), .int .i64 (T : Int), .slice A1 m c1, .int .i64 0, .int .u64 0, .int .u64 0] 57)
    have e2 : ((w.alloc (.cells #[.int .u8 0, .int .i64 0, .int .i64 0, .int .i64 0, .int .i64 0, .slice none 0 0, .int .i64 0, .int .u64 0, .int .u64 0] 57)).drewN nq).heap.size = w.heap.size + 1 := World.size_alloc _ _
    rw [e2] at e
    exact e
  have hrd1 : Rd w1 A1 m D := by rw [hw1]; exact HCUT.out.later ((Below.drewN' ((Below.refl _ _).alloc (Nat.le_refl _) _) nq).alloc (by simp) _)
  have HK : Hid (∀ W, Below w1.heap.size w1 W → W.cell? ⟨(p + 1), 0, none⟩ = some (.int .u8 2) ∧ W.cell? ⟨(p + 1), 1, none⟩ = some (.int .i64 0) ∧ W.cell? ⟨(p + 1), 2, none⟩ = some (.int .i64 0) ∧ W.cell? ⟨(p + 1), 3, none⟩ = some (.int .i64 (X : Int)) ∧ W.cell? ⟨(p + 1), 4, none⟩ = some (.int .i64 (T : Int)) ∧ W.cell? ⟨(p + 1), 5, none⟩ = some (.slice A1 m c1) ∧ W.cell? ⟨(p + 1), 6, none⟩ = some (.int .i64 0) ∧ W.cell? ⟨(p + 1), 7, none⟩ = some (.int .u64 0) ∧ W.cell? ⟨(p + 1), 8, none⟩ = some (.int .u64 0)) := Lib.hid fun W hW => rec_cells ((hW.block (p + 1) (lt_of_block hq1)).trans hq1)
  have HQW : Hid (∀ W, Below w1.heap.size w1 W → W.heap[p + 1]? = some (.cells #[.int .u8 2, .int .i64 0, .int .i64 0, .int .i64 (X : Int), .int .i64 (T : Int), .slice A1 m c1, .int .i64 0, .int .u64 0, .int .u64 0] 57 (0, 0))) := Lib.hid fun W hW => (hW.block (p + 1) (lt_of_block hq1)).trans hq1
  have HPW : Hid (∀ W, Below w1.heap.size w1 W → W.heap[p]? = some (.cells #[.int .u8 0, .int .i64 0, .int .i64 0, .int .i64 0, .int .i64 0, .slice none 0 0, .int .i64 0, .int .u64 0, .int .u64 0] 57 (0, 0))) := Lib.hid fun W hW => (hW.block p (lt_of_block hp1)).trans hp1
  have HV : Hid (∀ W, Below w1.heap.size w1 W → Calls Try.prog 39 #[.agg #[.int .u8 2, .int .i64 0, .int .i64 0, .int .i64 (X : Int), .int .i64 (T : Int), .slice A1 m c1, .int .i64 0, .int .u64 0, .int .u64 0]] W fun e w' => e = .returned (.bool (Rec.ok ⟨2, 0, 0, X, T, D, 0, 0, 0⟩)) ∧ Hid (Below w1.heap.size w1 w')) := by
    refine Lib.hid fun W hW => (valid_any ⟨2, 0, 0, X, T, D, 0, 0, 0⟩ A1 m c1 W (hrd1.later hW)).mono ?_
    rintro e w' ⟨rfl, hb⟩
    exact ⟨rfl, Lib.hid (hW.trans (hb.mono hW.size))⟩
  have HFIN : Hid (∀ W o, Below w1.heap.size w1 W → Below w.heap.size w (put W p o) ∧ Rd (put W p o) A1 m D) := by
    refine Lib.hid fun W o hW => ?_
    have hx := (hB1.trans (hW.mono hB1.size)).trans (put_below o (Nat.le_of_eq hp.symm))
    exact ⟨hx, HCUT.out.later hx⟩
  rw [← HVE.out] at HV
  have H : Hid (Below w1.heap.size w1 w1.drew) := Lib.hid (Below.refl _ _).drew
  clear hw1 hp hB1 hsz hp1 hq1 hrd1
  rw [HW.out.1]
  try rw [HW.out.2]
  refine wp_region_held_drew (S := fun W => W.cell? ⟨(p + 1), 0, none⟩ = some (.int .u8 2) ∧ W.cell? ⟨(p + 1), 1, none⟩ = some (.int .i64 0) ∧ W.cell? ⟨(p + 1), 2, none⟩ = some (.int .i64 0) ∧ W.cell? ⟨(p + 1), 3, none⟩ = some (.int .i64 (X : Int)) ∧ W.cell? ⟨(p + 1), 4, none⟩ = some (.int .i64 (T : Int)) ∧ W.cell? ⟨(p + 1), 5, none⟩ = some (.slice A1 m c1) ∧ W.cell? ⟨(p + 1), 6, none⟩ = some (.int .i64 0) ∧ W.cell? ⟨(p + 1), 7, none⟩ = some (.int .u64 0) ∧ W.cell? ⟨(p + 1), 8, none⟩ = some (.int .u64 0)) (by kernel_rfl) (HK.out _ H.out) (fun _ => ?_)
  obtain ⟨w3, hw3⟩ : ∃ w3, w3 = w1.drew := ⟨_, rfl⟩
  rw [← hw3] at H ⊢
  clear hw3
  refine wpAnyH_take (i := 0) (v := ?vd0) rfl (by kernel_rfl) (by kernel_rfl) (by kernel_rfl) (fun _ _ _ h => h) (Or.inl ⟨by rfl, ?hd0⟩) (HK.out _ H.out) ?rd0
  case hd0 => (intro W hW; (try dsimp only at hW); go_simp; try with_reducible rfl)
  simp only [Act.put, List.getElem_toArray, List.getElem_cons_succ, List.getElem_cons_zero, List.setIfInBounds_toArray, List.set_cons_zero, List.set_cons_succ]
  refine wpAnyH_take (i := 1) (v := ?vd1) rfl (by kernel_rfl) (by kernel_rfl) (by kernel_rfl) (fun _ _ _ h => h) (Or.inl ⟨by rfl, ?hd1⟩) (HK.out _ H.out) ?rd1
  case hd1 => (intro W hW; (try dsimp only at hW); go_simp; try with_reducible rfl)
  simp only [Act.put, List.getElem_toArray, List.getElem_cons_succ, List.getElem_cons_zero, List.setIfInBounds_toArray, List.set_cons_zero, List.set_cons_succ]
  refine wpAnyH_ready (rs := [2]) (by kernel_rfl) (by simp) ?_
  refine AllReadyH.cons rfl (fun K hK => ?_) AllReadyH.nil
  refine ready_call (f := 39) (vs := #[.agg #[.int .u8 2, .int .i64 0, .int .i64 0, .int .i64 (X : Int), .int .i64 (T : Int), .slice A1 m c1, .int .i64 0, .int .u64 0, .int .u64 0]]) (by rfl) (by (go_simp; try with_reducible rfl)) ?_
  refine (HV.out _ H.out).mono ?_
  rintro e w4 ⟨rfl, H4⟩
  refine ⟨_, rfl, hK.out _ _ (HK.out _ H4.out) (fun _ => ?_)⟩
  clear hK K
  simp only [Act.put, List.getElem_toArray, List.getElem_cons_succ, List.getElem_cons_zero, List.setIfInBounds_toArray, List.set_cons_zero, List.set_cons_succ]
  have hpw := HPW.out _ H4.out
  obtain ⟨z0, z1, z2, z3, z4, z5, z6, z7, z8⟩ := rec_cells hpw
  have y0 : w4.frozen? ⟨p, 0, none⟩ = false := by simp [World.frozen?, hpw]
  have y1 : w4.frozen? ⟨p, 1, none⟩ = false := by simp [World.frozen?, hpw]
  have y2 : w4.frozen? ⟨p, 2, none⟩ = false := by simp [World.frozen?, hpw]
  have y3 : w4.frozen? ⟨p, 3, none⟩ = false := by simp [World.frozen?, hpw]
  have y4 : w4.frozen? ⟨p, 4, none⟩ = false := by simp [World.frozen?, hpw]
  have y5 : w4.frozen? ⟨p, 5, none⟩ = false := by simp [World.frozen?, hpw]
  have y6 : w4.frozen? ⟨p, 6, none⟩ = false := by simp [World.frozen?, hpw]
  have y7 : w4.frozen? ⟨p, 7, none⟩ = false := by simp [World.frozen?, hpw]
  have y8 : w4.frozen? ⟨p, 8, none⟩ = false := by simp [World.frozen?, hpw]
  have hput := rec_put (v0 := .int .u8 2) (v1 := .int .i64 0) (v2 := .int .i64 0) (v3 := .int .i64 (X : Int)) (v4 := .int .i64 (T : Int)) (v5 := .slice A1 m c1) (v6 := .int .i64 0) (v7 := .int .u64 0) (v8 := .int .u64 0) hpw
  have HPUT := Lib.hid hput
  have HPW2 := Lib.hid hpw
  clear hput hpw
  refine wpAnyH_ready (rs := [3]) (by kernel_rfl) (by simp) ?_
  refine AllReadyH.cons rfl (fun K hK => ?_) AllReadyH.nil
  refine ready_skp (w' := put (w4) p (.cells #[.int .u8 2, .int .i64 0, .int .i64 0, .int .i64 (X : Int), .int .i64 (T : Int), .slice A1 m c1, .int .i64 0, .int .u64 0, .int .u64 0] 57 (0, 0))) (by rfl) (by rw [← HPUT.out]; (go_simp; try with_reducible rfl)) ?_
  refine hK.out _ _ ?hS (fun _ => ?_)
  case hS => exact rec_cells ((put_other (by omega)).trans (HQW.out _ H4.out))
  clear hK K
  simp only [Act.put, List.getElem_toArray, List.getElem_cons_succ, List.getElem_cons_zero, List.setIfInBounds_toArray, List.set_cons_zero, List.set_cons_succ]
  clear z0 z1 z2 z3 z4 z5 z6 z7 z8 y0 y1 y2 y3 y4 y5 y6 y7 y8
  refine wpAnyH_take (i := 4) (v := ?vd4) rfl (by kernel_rfl) (by kernel_rfl) (by kernel_rfl) (fun _ _ _ h => h) (Or.inl ⟨by rfl, ?hd4⟩) (rec_cells ((put_other (by omega)).trans (HQW.out _ H4.out))) ?rd4
  case hd4 => (intro W hW; (try dsimp only at hW); go_simp; try with_reducible rfl)
  simp only [Act.put, List.getElem_toArray, List.getElem_cons_succ, List.getElem_cons_zero, List.setIfInBounds_toArray, List.set_cons_zero, List.set_cons_succ]
  refine wpAnyH_done (by kernel_rfl) ?_ _
  have HFF := HFIN.out _ (.cells #[.int .u8 2, .int .i64 0, .int .i64 0, .int .i64 (X : Int), .int .i64 (T : Int), .slice A1 m c1, .int .i64 0, .int .u64 0, .int .u64 0] 57 (0, 0)) H4.out
  have hp9 := put_same (o := (.cells #[.int .u8 2, .int .i64 0, .int .i64 0, .int .i64 (X : Int), .int .i64 (T : Int), .slice A1 m c1, .int .i64 0, .int .u64 0, .int .u64 0] 57 (0, 0))) HPW2.out
  generalize put w4 p (.cells #[.int .u8 2, .int .i64 0, .int .i64 0, .int .i64 (X : Int), .int .i64 (T : Int), .slice A1 m c1, .int .i64 0, .int .u64 0, .int .u64 0] 57 (0, 0)) = w9 at HFF hp9 ⊢
  have HF9 := Lib.hid HFF
  clear HFF
  obtain ⟨d0, d1, d2, d3, d4, d5, d6, d7, d8⟩ := rec_cells hp9
  go_wp2
  refine bodyPost_ret (v := .tuple #[.agg #[.int .u8 2, .int .i64 0, .int .i64 0, .int .i64 (X : Int), .int .i64 (T : Int), .slice A1 m c1, .int .i64 0, .int .u64 0, .int .u64 0], .bool V]) (by simp [results, Try.results68, go_sem, d0, d1, d2, d3, d4, d5, d6, d7, d8]; try rfl) rfl ?_
  exact ⟨A1, m, c1, rfl, Lib.hid ⟨HF9.out.1, HF9.out.2, HPART.out⟩⟩


/-- Whatever the fields are. -/
theorem parseD_any (a : Option Addr) (n c : Nat) (r : List Nat) (w : World) (h : Rd w a n r) (hn : n ≤ 1000000) (hc : n ≤ c) :
    Calls Try.prog 68 #[.slice a n c] w fun e w' => ∃ a2 n2 c2, e = .returned (.tuple #[rcV (candD r).1 a2 n2 c2, .bool ((candD r).2 && (candD r).1.ok)]) ∧ Hid (Below w.heap.size w w' ∧ Rd w' a2 n2 (candD r).1.l ∧ Part a a2 n2) := by
  by_cases hg : vErr r = 0 ∧ vNum r < 256
  · have e2 : (candD r).2 = true := by unfold candD; rw [if_pos hg]
    rw [e2, Bool.true_and]
    exact parseD_good a n c r w h hn hc hg
  · have e2 : candD r = (rec0 0, false) := by unfold candD; rw [if_neg hg]
    rw [e2]
    refine (parseD_bad a n c r w h hn hg).mono ?_
    rintro e w' ⟨rfl, hb⟩
    exact ⟨none, 0, 0, rfl, Lib.hid ⟨hb, ⟨rfl, by simp [rec0], by omega⟩, fun b o he => by cases he⟩⟩

set_option maxHeartbeats 4000000 in
set_option maxRecDepth 100000 in
theorem parse_two (bb oo n cap : Nat) (r : List Nat) (w : World) (h : Rd w (some ⟨bb, oo, none⟩) n (2 :: r)) (hn : n ≤ 1000000) (hc : n ≤ cap) :
    Calls Try.prog 52 #[.slice (some ⟨bb, oo, none⟩) n cap] w fun e w' => ∃ a2 n2 c2, e = .returned (.tuple #[rcV (candD r).1 a2 n2 c2, .bool ((candD r).2 && (candD r).1.ok)]) ∧ Hid (Below w.heap.size w w' ∧ Rd w' a2 n2 (candD r).1.l ∧ Part (some ⟨bb, oo, none⟩) a2 n2) := by
  have hbb : bb < w.heap.size := by
    obtain ⟨b', o', he, hcell⟩ := h.2.2 (by have := h.1; simp at this; omega)
    injection he with he
    injection he with e1 e2
    subst e1
    exact World.block_lt_of_cell? w _ (hcell 0 (by have := h.1; simp at this; omega))
  have hpt := part_cut (k := 1) h (by have := h.1; simp at this; omega) hc
  have hn1 : 1 ≤ n := by have := h.1; simp at this; omega
  have hc0 : ∀ ob, (w.alloc ob).cell? ⟨bb, oo, none⟩ = some (.int .u8 2) := by
    intro ob
    obtain ⟨b', o', he, hcell⟩ := h.2.2 hn1
    injection he with he
    injection he with e1 e2
    subst e1 e2
    exact Lib.cell?_alloc_some _ (hcell 0 hn1)
  have hc1 : ∀ o1 o2, ((w.alloc o1).alloc o2).cell? ⟨bb, oo, none⟩ = some (.int .u8 2) := fun o1 o2 => Lib.cell?_alloc_some _ (hc0 o1)
  have hs := fun W => slice_from (some ⟨bb, oo, none⟩) n cap 1 .i64 hn1 W
  obtain ⟨A1, hA1⟩ : ∃ A1, A1 = cutA (some ⟨bb, oo, none⟩) cap 1 := ⟨_, rfl⟩
  rw [← hA1] at hs
  have HCUT : Hid ((if cap = 1 then some (⟨bb, oo, none⟩ : Addr) else some ⟨bb, oo + 1, none⟩) = A1) := Lib.hid (by rw [hA1]; simp [cutA, Addr.add])
  rw [← hA1] at hpt
  have HPT := Lib.hid hpt
  have hr1 : Rd w A1 (n - 1) r := by rw [hA1]; have := h.cut (k := 1) (c := cap) (by omega) hc; simpa using this
  have HR1 := Lib.hid hr1
  have hcap := hc
  clear hA1 hr1 h hc hpt
  obtain ⟨p, hp⟩ : ∃ p, p = w.heap.size := ⟨_, rfl⟩
  obtain ⟨w1, hw1⟩ : ∃ w1, w1 = ((w.alloc (.cells #[.int .u8 0, .int .i64 0, .int .i64 0, .int .i64 0, .int .i64 0, .slice none 0 0, .int .i64 0, .int .u64 0, .int .u64 0] 57)).alloc (.cells #[.int .u8 2, .int .i64 0, .int .i64 0, .int .i64 0, .int .i64 0, .slice none 0 0, .int .i64 0, .int .u64 0, .int .u64 0] 57)).drew := ⟨_, rfl⟩
  have HBB : Hid (bb < p) := Lib.hid (by rw [hp]; exact hbb)
  clear hbb
  have HW : Hid (((w.alloc (.cells #[.int .u8 0, .int .i64 0, .int .i64 0, .int .i64 0, .int .i64 0, .slice none 0 0, .int .i64 0, .int .u64 0, .int .u64 0] 57)).alloc (.cells #[.int .u8 2, .int .i64 0, .int .i64 0, .int .i64 0, .int .i64 0, .slice none 0 0, .int .i64 0, .int .u64 0, .int .u64 0] 57)).drew = w1 ∧ w.heap.size = p) := Lib.hid ⟨hw1.symm, hp.symm⟩
  have hB1 : Below w.heap.size w w1 := by rw [hw1]; exact (((Below.refl _ _).alloc (Nat.le_refl _) _).alloc (by simp) _).drew
  have hsz : w1.heap.size = p + 2 := by rw [hw1, hp]; simp
  have hp1 : w1.heap[p]? = some (.cells #[.int .u8 0, .int .i64 0, .int .i64 0, .int .i64 0, .int .i64 0, .slice none 0 0, .int .i64 0, .int .u64 0, .int .u64 0] 57 (0, 0)) := by rw [hw1, hp]; exact (heap_alloc_old _ _ (by simp)).trans (heap_alloc_new w _)
  have hq1 : w1.heap[p + 1]? = some (.cells #[.int .u8 2, .int .i64 0, .int .i64 0, .int .i64 0, .int .i64 0, .slice none 0 0, .int .i64 0, .int .u64 0, .int .u64 0] 57 (0, 0)) := by
    rw [hw1, hp]
    have e := heap_alloc_new (w.alloc (.cells #[.int .u8 0, .int .i64 0, .int .i64 0, .int .i64 0, .int .i64 0, .slice none 0 0, .int .i64 0, .int .u64 0, .int .u64 0] 57)) (.cells #[.int .u8 2, .int .i64 0, .int .i64 0, .int .i64 0, .int .i64 0, .slice none 0 0, .int .i64 0, .int .u64 0, .int .u64 0] 57)
    rw [World.size_alloc] at e
    exact e
  have HB1 := Lib.hid hB1
  have HP1 := Lib.hid hp1
  have HQ1 := Lib.hid hq1
  have HSZ := Lib.hid hsz
  clear hw1 hp hB1 hsz hp1 hq1
  have HPD : Hid (Calls Try.prog 68 #[.slice A1 (n - 1) (cap - 1)] w1 fun e w' => ∃ a2 n2 c2, e = .returned (.tuple #[rcV (candD r).1 a2 n2 c2, .bool ((candD r).2 && (candD r).1.ok)]) ∧ Hid (Below w1.heap.size w1 w' ∧ Rd w' a2 n2 (candD r).1.l ∧ Part (some ⟨bb, oo, none⟩) a2 n2)) := by
    refine Lib.hid ((parseD_any A1 (n - 1) (cap - 1) r w1 (HR1.out.later HB1.out) (by omega) (by omega)).mono ?_)
    rintro e w' ⟨a2, n2, c2, rfl, hx⟩
    refine ⟨a2, n2, c2, rfl, Lib.hid ⟨hx.out.1, hx.out.2.1, ?_⟩⟩
    intro b o he h0
    obtain ⟨o1, h1⟩ := hx.out.2.2 b o he h0
    exact HPT.out b o1 h1 (by
      have h9 := hx.out.2.1
      rcases Nat.eq_zero_or_pos (n - 1) with hz | hz
      · exfalso
        have h8 := HR1.out
        have hr0 : r = [] := List.eq_nil_of_length_eq_zero (by rw [h8.1]; exact hz)
        subst hr0
        have hcd : (candD []).1.l = [] := by rfl
        rw [hcd] at h9
        have := h9.1
        simp at this
        omega
      · exact hz)
  clear hcap
  obtain ⟨B, hB⟩ : ∃ B, B = ((candD r).2 && (candD r).1.ok) := ⟨_, rfl⟩
  rw [← hB] at HPD ⊢
  clear hB
  obtain ⟨⟨k', i', b', f', t', l', c', dn', ds'⟩, hy⟩ : ∃ y, y = (candD r).1 := ⟨_, rfl⟩
  rw [← hy] at HPD ⊢
  clear hy
  simp only [rcV] at HPD ⊢
  go_enter Try.func52, Try.ntmps52
  go_upto_region 3 with fail
  go_region
  rw [HCUT.out, HW.out.1, HW.out.2]
  have c0 := (rec_cells HQ1.out).1
  go_wp2_with fail
  refine HPD.out.mono ?_
  rintro e w2 ⟨a2, n2, c2, rfl, HX⟩
  have hp2 := (HX.out.1.block p (lt_of_block HP1.out)).trans HP1.out
  obtain ⟨z0, z1, z2, z3, z4, z5, z6, z7, z8⟩ := rec_cells hp2
  have y0 : w2.frozen? ⟨p, 0, none⟩ = false := by simp [World.frozen?, hp2]
  have y1 : w2.frozen? ⟨p, 1, none⟩ = false := by simp [World.frozen?, hp2]
  have y2 : w2.frozen? ⟨p, 2, none⟩ = false := by simp [World.frozen?, hp2]
  have y3 : w2.frozen? ⟨p, 3, none⟩ = false := by simp [World.frozen?, hp2]
  have y4 : w2.frozen? ⟨p, 4, none⟩ = false := by simp [World.frozen?, hp2]
  have y5 : w2.frozen? ⟨p, 5, none⟩ = false := by simp [World.frozen?, hp2]
  have y6 : w2.frozen? ⟨p, 6, none⟩ = false := by simp [World.frozen?, hp2]
  have y7 : w2.frozen? ⟨p, 7, none⟩ = false := by simp [World.frozen?, hp2]
  have y8 : w2.frozen? ⟨p, 8, none⟩ = false := by simp [World.frozen?, hp2]
  have hput := rec_put (v0 := .int .u8 (k' : Int)) (v1 := .int .i64 i') (v2 := .int .i64 b') (v3 := .int .i64 f') (v4 := .int .i64 t') (v5 := .slice a2 n2 c2) (v6 := .int .i64 c') (v7 := .int .u64 (dn' : Int)) (v8 := .int .u64 (ds' : Int)) hp2
  have HPUT := Lib.hid hput
  have HP2 := Lib.hid hp2
  have HFIN : Hid (∀ o, Below w.heap.size w (put w2 p o) ∧ Rd (put w2 p o) a2 n2 l') := by
    refine Lib.hid fun o => ?_
    have hx := (HB1.out.trans (HX.out.1.mono HB1.out.size)).trans (put_below o (Nat.le_of_eq HW.out.2))
    refine ⟨hx, ?_⟩
    rcases Nat.eq_zero_or_pos n2 with h0 | h0
    · exact ⟨HX.out.2.1.1, HX.out.2.1.2.1, by omega⟩
    refine HX.out.2.1.save (X := [p]) ((Save.refl _ _).put (by simp) _) ?_
    intro b o' he hb
    simp only [List.mem_singleton] at hb
    obtain ⟨o1, h1⟩ := HX.out.2.2 b o' he h0
    injection h1 with h1
    injection h1 with h1 h2
    have := HBB.out
    omega
  clear hput hp2
  go_wp2_with fail
  rw [HPUT.out]
  clear z0 z1 z2 z3 z4 z5 z6 z7 z8 y0 y1 y2 y3 y4 y5 y6 y7 y8
  have hp9 := put_same (o := .cells #[.int .u8 (k' : Int), .int .i64 i', .int .i64 b', .int .i64 f', .int .i64 t', .slice a2 n2 c2, .int .i64 c', .int .u64 (dn' : Int), .int .u64 (ds' : Int)] 57 (0, 0)) HP2.out
  have HFF := HFIN.out (.cells #[.int .u8 (k' : Int), .int .i64 i', .int .i64 b', .int .i64 f', .int .i64 t', .slice a2 n2 c2, .int .i64 c', .int .u64 (dn' : Int), .int .u64 (ds' : Int)] 57 (0, 0))
  generalize put w2 p (.cells #[.int .u8 (k' : Int), .int .i64 i', .int .i64 b', .int .i64 f', .int .i64 t', .slice a2 n2 c2, .int .i64 c', .int .u64 (dn' : Int), .int .u64 (ds' : Int)] 57 (0, 0)) = w9 at hp9 HFF ⊢
  have HF9 := Lib.hid HFF
  clear HFF
  obtain ⟨d0, d1, d2, d3, d4, d5, d6, d7, d8⟩ := rec_cells hp9
  refine bodyPost_ret (v := .tuple #[.agg #[.int .u8 (k' : Int), .int .i64 i', .int .i64 b', .int .i64 f', .int .i64 t', .slice a2 n2 c2, .int .i64 c', .int .u64 (dn' : Int), .int .u64 (ds' : Int)], .bool B]) (by simp [results, Try.results52, go_sem, d0, d1, d2, d3, d4, d5, d6, d7, d8]; try rfl) rfl ?_
  exact ⟨a2, n2, c2, rfl, Lib.hid ⟨HF9.out.1, HF9.out.2, HX.out.2.2⟩⟩

theorem cand_nil {k : Nat} {r : List Nat} (hk : k ≠ 2) : (cand (k :: r)).1.l = [] := by
  unfold cand
  simp only [hk, if_false]
  split
  · rfl
  · split
    · rfl
    · split
      · rfl
      · rfl

/-- What bytes come to. -/
theorem parse_any (a : Option Addr) (n c : Nat) (l : List Nat) (w : World) (h : Rd w a n l) (hn : n ≤ 1000000) (hc : n ≤ c) :
    Calls Try.prog 52 #[.slice a n c] w fun e w' => ∃ a2 n2 c2, e = .returned (.tuple #[rcV (cand l).1 a2 n2 c2, .bool (pars l).isSome]) ∧ Hid (Below w.heap.size w w' ∧ Rd w' a2 n2 (cand l).1.l ∧ Part a a2 n2) := by
  match l with
  | [] =>
    obtain rfl : n = 0 := by have := h.1; simpa using this.symm
    refine (parse_empty a c w).mono ?_
    rintro e w' ⟨rfl, hb⟩
    exact ⟨none, 0, 0, rfl, Lib.hid ⟨hb, ⟨rfl, by simp [cand, rec0], by omega⟩, fun b o he => by cases he⟩⟩
  | k :: r =>
    obtain ⟨b, o, rfl, _⟩ := h.2.2 (by have := h.1; simp at this; omega)
    by_cases hk : k = 2
    · subst hk
      have e1 : cand (2 :: r) = candD r := by simp [cand]
      rw [pars_isSome, e1]
      exact parse_two b o n c r w h hn hc
    · refine (parse_rest b o n c k r w h hn hc hk).mono ?_
      rintro e w' ⟨y, rfl, hb, rfl⟩
      exact ⟨none, 0, 0, rfl, Lib.hid ⟨hb, ⟨by rw [cand_nil hk]; rfl, by rw [cand_nil hk]; simp, by omega⟩, fun b o he => by cases he⟩⟩

end Go.Proofs.Ytaijldcfoaeogaa
