/- The chapter's example, run. -/
import Derived.Test.YtcofjhiienifmaaLbrAdd
import Derived.Lib.SlBytesConst
namespace Go.Proofs.Ytcofjhiienifmaa
open Go.RowKit
set_option linter.unusedSimpArgs false

theorem pow_laid (w : World) (s : Pw) : Pow (w.alloc (powObj s)) w.heap.size s := heap_alloc_new w _

theorem rdI_nil (w : World) : RdI w none 0 [] := ⟨rfl, by simp, by omega⟩

/-- A library of the call's own: all that it has lies behind w. -/
structure Lbo (w W : World) (gl gp : Nat) (s : Pw) (d : Option Nat) (n : Nat) (g : Nat → Nat) (t : Nat → Tst) (F : Nat → List Nat) (v : Value) (H : List Nat) : Prop where
  lib : Lbr W gl gp s d n g t F v H
  own : ∀ k ∈ H, w.heap.size ≤ k
  gpo : w.heap.size ≤ gp
  bel : Below w.heap.size w W

section
variable {w W W' : World} {gl gp : Nat} {s s' : Pw} {d d' : Option Nat} {n n' : Nat} {g g' : Nat → Nat} {t t' : Nat → Tst} {F F' : Nat → List Nat} {v v' : Value} {H H' : List Nat}

theorem Lbo.next (h : Lbo w W gl gp s d n g t F v H) (hL : Lbr W' gl gp s' d' n' g' t' F' v' H') (hs : Save (gp :: H) W W') (hH : ∀ k ∈ H', k ∈ H ∨ W.heap.size ≤ k) : Lbo w W' gl gp s' d' n' g' t' F' v' H' := by
  refine ⟨hL, fun k hk => (hH k hk).elim (h.own k) (fun h2 => Nat.le_trans h.bel.size h2), h.gpo, h.bel.trans (hs.below h.bel.size ?_)⟩
  intro k hk
  simp only [List.mem_cons] at hk
  rcases hk with rfl | hk
  · exact h.gpo
  · exact h.own k hk

theorem Lbo.later (h : Lbo w W gl gp s d n g t F v H) (hb : Below W.heap.size W W') : Lbo w W' gl gp s d n g t F v H :=
  ⟨h.lib.later hb, h.own, h.gpo, h.bel.trans (hb.mono h.bel.size)⟩

end

/-- A library of one tape, which is in the drive, in state x. -/
def One (w W : World) (gl gp gt : Nat) (s : Pw) (x : Tst) : Prop := ∃ g t F v H, Lbo w W gl gp s (some 0) 1 g t F v H ∧ g 0 = gt ∧ t 0 = x

section
variable {w W W' : World} {gl gp gt : Nat} {s s' : Pw} {x x' : Tst}

theorem One.drive (h : One w W gl gp gt s x) : W.cell? ⟨gl, 0, none⟩ = some (.pointer (some ⟨gt, 0, none⟩)) := by
  obtain ⟨g, t, F, v, H, h, rfl, _⟩ := h
  exact h.lib.cells.1

theorem One.bel (h : One w W gl gp gt s x) : Below w.heap.size w W := by
  obtain ⟨g, t, F, v, H, h, _, _⟩ := h
  exact h.bel

theorem One.later (h : One w W gl gp gt s x) (hb : Below W.heap.size W W') : One w W' gl gp gt s x := by
  obtain ⟨g, t, F, v, H, h, h1, h2⟩ := h
  exact ⟨g, t, F, v, H, h.later hb, h1, h2⟩

theorem One.tap (h : One w W gl gp gt s x) : ∃ K, (∀ k ∈ gp :: K, k < W.heap.size) ∧ ∀ W1, Below W.heap.size W W1 → Tap W1 gt gp s x K ∧ ∀ W' s' x' K', Tap W' gt gp s' x' K' → Save (gp :: K) W1 W' → (∀ k ∈ K', k ∈ K ∨ W1.heap.size ≤ k) → One w W' gl gp gt s' x' := by
  obtain ⟨g, t, F, v, H, h0, rfl, rfl⟩ := h
  refine ⟨F 0, ?_, fun W1 hb => ?_⟩
  · intro k hk
    simp only [List.mem_cons] at hk
    rcases hk with rfl | hk
    · exact h0.lib.pow.lt
    · exact h0.lib.lt k (h0.lib.fit 0 (by omega) k hk).1
  · have h := h0.later hb
    refine ⟨h.lib.taps 0 (by omega), fun W' s' x' K' hT hs hK => ?_⟩
    have hL := h.lib.tape (i := 0) (by omega) hT hs (fun k hk hH => by
      simp only [List.mem_cons] at hk
      rcases hk with rfl | hk
      · exact absurd hH h.lib.fp
      · exact hk) (fun k hk => (hK k hk).imp id (fun h2 hH => absurd (h.lib.lt k hH) (Nat.not_lt.2 h2))) (H' := H ++ K') (by simp +contextual) (by simp +contextual) (by simp)
    refine ⟨g, _, _, v, _, h.next hL (hs.mono ?_) ?_, rfl, upd_same _ _ _⟩
    · intro k hk
      simp only [List.mem_cons] at hk ⊢
      exact hk.imp id (fun hk => (h.lib.fit 0 (by omega) k hk).1)
    · intro k hk
      simp only [List.mem_append] at hk
      rcases hk with hk | hk
      · exact .inl hk
      · exact (hK k hk).imp (fun hk => (h.lib.fit 0 (by omega) k hk).1) id

theorem One.load (h : One w W gl gp gt s x) (ho : s.on = true) : Calls Try.prog 9 #[.pointer (some ⟨gl, 0, none⟩), .int .i64 0] W fun e W' => e = .returned (.int .i64 0) ∧ Hid (One w W' gl gp gt s x.rewound) := by
  obtain ⟨g, t, F, v, H, h, rfl, rfl⟩ := h
  refine (load_yes h.lib 0 (by omega) ho).mono ?_
  rintro e W' ⟨rfl, h1, h2⟩
  exact ⟨rfl, Lib.hid ⟨g, _, F, v, H, h.next h1 (h2.mono (by simp +contextual)) (fun k hk => .inl hk), rfl, upd_same _ _ _⟩⟩

end

set_option maxHeartbeats 1000000 in
set_option maxRecDepth 100000 in
theorem lives_any (w : World) : Calls Try.prog 5 #[] w fun e w' => e = .returned (.bool true) ∧ Below w.heap.size w w' := by
  have HN := Lib.hid (new_any w)
  obtain ⟨w1, h1⟩ : ∃ w1, w1 = w.alloc (powObj ⟨true, none, 0⟩) := ⟨_, rfl⟩
  obtain ⟨gp, hgp⟩ : ∃ gp, gp = w.heap.size := ⟨_, rfl⟩
  have hp1 : Pow w1 gp ⟨true, none, 0⟩ := by rw [h1, hgp]; exact pow_laid w _
  have hb1 : Below w.heap.size w w1 := by rw [h1]; exact Below.alloc0 _ _
  rw [← h1, ← hgp] at HN
  have HT : Hid (Calls Try.prog 6 #[.pointer (some ⟨gp, 0, none⟩)] w1 fun e w' => ∃ gl, e = .returned (.tuple #[.pointer (some ⟨gl, 0, none⟩), .int .i64 0]) ∧ Hid (Lbo w w' gl gp ⟨true, none, 0⟩ none 0 (fun _ => 0) (fun _ => ⟨0, 0, [], [], [], 0⟩) (fun _ => []) (.slice none 0 0) [gl])) := by
    refine Lib.hid ((lnew_any w1 gp).mono ?_)
    rintro e w' ⟨rfl, rfl⟩
    refine ⟨_, rfl, Lib.hid ⟨lbr_new hp1 _ _ _, ?_, by rw [hgp]; exact Nat.le_refl _, hb1.alloc hb1.size _⟩⟩
    intro k hk
    simp only [List.mem_singleton] at hk
    rw [hk]
    exact hb1.size
  clear h1 hgp hp1 hb1
  go_enter Try.func5, Try.ntmps5
  go_wp2_with fail
  refine HN.out.mono ?_
  rintro e w' ⟨rfl, rfl⟩
  go_wp2_with fail
  refine HT.out.mono ?_
  rintro e w2 ⟨gl, rfl, H2⟩
  have HADD : Hid (Calls Try.prog 8 #[.pointer (some ⟨gl, 0, none⟩), .agg #[.int .i64 100, .int .i64 0, .slice none 0 0, .slice none 0 0]] w2 fun e w' => e = .returned (.tuple #[.int .i64 0, .int .i64 0]) ∧ Hid (∃ g t F v H, Lbo w w' gl gp ⟨true, none, 0⟩ none 1 g t F v H ∧ t 0 = ⟨100, 0, [], [], [], 0⟩)) := by
    refine Lib.hid ((ladd_yes H2.out.lib (by omega) 100 0 none none 0 0 0 0 [] [] (by omega) (by omega) (by omega) (rdI_nil _) (rdI_nil _) (by omega) (by omega)).mono ?_)
    rintro e w' ⟨rfl, gt, F', v', H', h1, h2, h3⟩
    exact ⟨rfl, Lib.hid ⟨_, _, _, _, _, H2.out.next h1 (h2.mono (by simp +contextual)) h3, upd_same _ _ _⟩⟩
  clear HN HT
  go_wp2_with fail
  refine HADD.out.mono ?_
  rintro e w3 ⟨rfl, H3⟩
  have HLOAD : Hid (Calls Try.prog 9 #[.pointer (some ⟨gl, 0, none⟩), .int .i64 0] w3 fun e W' => e = .returned (.int .i64 0) ∧ Hid (∃ gt, One w W' gl gp gt ⟨true, none, 0⟩ ⟨100, 0, [], [], [], 0⟩)) := by
    obtain ⟨g, t, F, v, H, h, ht⟩ := H3.out
    refine Lib.hid ((load_yes h.lib 0 (by omega) rfl).mono ?_)
    rintro e W' ⟨rfl, h1, h2⟩
    exact ⟨rfl, Lib.hid ⟨g 0, g, _, F, v, H, h.next h1 (h2.mono (by simp +contextual)) (fun k hk => .inl hk), rfl, by rw [upd_same, ht]; rfl⟩⟩
  clear HADD
  go_wp2_with fail
  refine HLOAD.out.mono ?_
  rintro e w4 ⟨rfl, H4⟩
  obtain ⟨gt, h4⟩ := H4.out
  have c4 := h4.drive
  have HPUT : Hid (Calls Try.prog 17 #[.pointer (some ⟨gt, 0, none⟩), .slice (some ⟨w4.heap.size, 0, none⟩) 1 1] (w4.alloc (.cells #[.int .u8 122] 5 (1, 2))) fun e w' => e = .returned (.int .i64 0) ∧ Hid (One w w' gl gp gt ⟨true, none, 1⟩ ⟨100, 0, [], [], [[122]], 1⟩)) := by
    obtain ⟨K, hlt, hK⟩ := h4.tap
    obtain ⟨hT, hnx⟩ := hK _ (Below.alloc0 w4 (.cells #[.int .u8 122] 5 (1, 2)))
    have hr : Rd (w4.alloc (.cells #[.int .u8 122] 5 (1, 2))) (some ⟨w4.heap.size, 0, none⟩) 1 [122] := by
      refine ⟨rfl, by simp, fun _ => ⟨_, _, rfl, fun j hj => ?_⟩⟩
      rw [Nat.zero_add, cell_of_row _ w4.heap.size j #[.int .u8 122] 5 (1, 2) (heap_alloc_new w4 _)]
      rcases j with _ | j
      · rfl
      · omega
    have hp := tput_any _ gt gp _ _ K hT _ 1 1 [122] hr (by
      intro _ b o e
      injection e with e
      injection e with e
      subst e
      intro hx
      exact absurd (hlt _ hx) (Nat.lt_irrefl _)) (by omega) ⟨by simp, by simp⟩
    have e : Tst.put ⟨true, none, 0⟩ ⟨100, 0, [], [], [], 0⟩ [122] = (⟨true, none, 1⟩, ⟨100, 0, [], [], [[122]], 1⟩, 0) := rfl
    rw [e] at hp
    refine Lib.hid (hp.mono ?_)
    rintro e w' ⟨rfl, F', h1, h2, h3⟩
    exact ⟨rfl, Lib.hid (hnx _ _ _ _ h1 h2 h3)⟩
  have kc := fun (w : World) (C : Array Value) (n c : Nat) => Lib.run_convert_bytes_const (P := Try.prog) w 37 5 C n c Try.underlying37 Try.underlying5
  clear h4 HLOAD
  go_wp2_with fail
  refine HPUT.out.mono ?_
  rintro e w5 ⟨rfl, H5⟩
  have HLOAD : Hid (Calls Try.prog 9 #[.pointer (some ⟨gl, 0, none⟩), .int .i64 0] w5 fun e W' => e = .returned (.int .i64 0) ∧ Hid (One w W' gl gp gt ⟨true, none, 1⟩ ⟨100, 0, [], [], [[122]], 0⟩)) := Lib.hid (H5.out.load rfl)
  clear HPUT c4
  go_wp2_with fail
  refine HLOAD.out.mono ?_
  rintro e w6 ⟨rfl, H6⟩
  have c6 := H6.out.drive
  have HGET : Hid (Calls Try.prog 18 #[.pointer (some ⟨gt, 0, none⟩)] w6 fun e w' => ∃ a c, e = .returned (.tuple #[.slice a 1 c, .int .i64 0]) ∧ Hid (Rd w' a 1 [122] ∧ Below w.heap.size w w')) := by
    obtain ⟨K, hlt, hK⟩ := H6.out.tap
    obtain ⟨hT, hnx⟩ := hK _ (Below.refl _ _)
    have hp := get_any w6 gt gp _ _ K hT (by simp)
    have e : Tst.get ⟨true, none, 1⟩ ⟨100, 0, [], [], [[122]], 0⟩ = (⟨100, 0, [], [], [[122]], 1⟩, [122], 0) := rfl
    rw [e] at hp
    refine Lib.hid (hp.mono ?_)
    rintro e w' ⟨v, rfl, h1, h2, h3⟩
    obtain ⟨a, c, rfl, hr, _⟩ := h1.sl
    exact ⟨a, c, rfl, Lib.hid ⟨hr, (hnx _ _ _ _ h2 (h3.mono (fun k hk => by simp [hk])) (fun k hk => .inl hk)).bel⟩⟩
  clear HLOAD
  go_wp2_with fail
  refine HGET.out.mono ?_
  rintro e w7 ⟨a7, c7, rfl, H7⟩
  have hcv := fun c => conv_rd H7.out.1 c
  have hst : strB [122] = ⟨#[122]⟩ := rfl
  rw [hst] at hcv
  clear HGET hst c6
  go_wp2
  go_ret
  exact ⟨rfl, H7.out.2⟩

end Go.Proofs.Ytcofjhiienifmaa
