/- The chapter's example, run. -/
import Derived.Test.YtpkfpdklolkgeaaTapeNew
import Derived.Lib.SlBytesConst
namespace Go.Proofs.Ytpkfpdklolkgeaa
open Go.RowKit
set_option linter.unusedSimpArgs false

theorem pow_laid (w : World) (s : Pw) : Pow (w.alloc (powObj s)) w.heap.size s := heap_alloc_new w _

theorem rdI_nil (w : World) : RdI w none 0 [] := ⟨rfl, by simp, by omega⟩

/-- A tape of the call's own: all that it has lies behind w. -/
structure Liv (w W : World) (gt gp : Nat) (s : Pw) (t : Tst) (F : List Nat) : Prop where
  tap : Tap W gt gp s t F
  own : ∀ k ∈ F, w.heap.size ≤ k
  gpo : w.heap.size ≤ gp
  bel : Below w.heap.size w W

theorem Liv.later {w W W' : World} {gt gp : Nat} {s : Pw} {t : Tst} {F : List Nat} (h : Liv w W gt gp s t F) (hb : Below W.heap.size W W') : Liv w W' gt gp s t F :=
  ⟨h.tap.later hb, h.own, h.gpo, h.bel.trans (hb.mono h.bel.size)⟩

theorem Liv.gplt {w W : World} {gt gp : Nat} {s : Pw} {t : Tst} {F : List Nat} (h : Liv w W gt gp s t F) : gp < W.heap.size := by
  obtain ⟨v, X, bW, bR, h⟩ := h.tap
  exact h.pow.lt

theorem Liv.fl {w W : World} {gt gp : Nat} {s : Pw} {t : Tst} {F : List Nat} (h : Liv w W gt gp s t F) : ∀ k ∈ F, k < W.heap.size := by
  obtain ⟨v, X, bW, bR, h⟩ := h.tap
  exact h.fl

theorem Liv.belF {w W W' : World} {gt gp : Nat} {s : Pw} {t : Tst} {F : List Nat} (h : Liv w W gt gp s t F) (hs : Save (gp :: F) W W') : Below w.heap.size w W' := by
  refine h.bel.trans (hs.below h.bel.size ?_)
  intro k hk
  simp only [List.mem_cons] at hk
  rcases hk with rfl | hk
  · exact h.gpo
  · exact h.own k hk

theorem Liv.next {w W W' : World} {gt gp : Nat} {s s' : Pw} {t t' : Tst} {F F' : List Nat} (h : Liv w W gt gp s t F) (hT : Tap W' gt gp s' t' F') (hs : Save (gp :: F) W W') (hF : ∀ k ∈ F', k ∈ F ∨ W.heap.size ≤ k) : Liv w W' gt gp s' t' F' :=
  ⟨hT, fun k hk => (hF k hk).elim (h.own k) (fun h2 => Nat.le_trans h.bel.size h2), h.gpo, h.belF hs⟩

set_option maxHeartbeats 1000000 in
set_option maxRecDepth 100000 in
theorem lives_any (w : World) : Calls Try.prog 5 #[] w fun e w' => e = .returned (.bool true) ∧ Below w.heap.size w w' := by
  have HN := Lib.hid (new_any w)
  obtain ⟨w1, h1⟩ : ∃ w1, w1 = w.alloc (powObj ⟨true, none, 0⟩) := ⟨_, rfl⟩
  obtain ⟨gp, hgp⟩ : ∃ gp, gp = w.heap.size := ⟨_, rfl⟩
  have hp1 : Pow w1 gp ⟨true, none, 0⟩ := by rw [h1, hgp]; exact pow_laid w _
  have hb1 : Below w.heap.size w w1 := by rw [h1]; exact Below.alloc0 _ _
  rw [← h1, ← hgp] at HN
  have HT : Hid (Calls Try.prog 6 #[.agg #[.int .i64 100, .int .i64 0, .slice none 0 0, .slice none 0 0], .pointer (some ⟨gp, 0, none⟩)] w1 fun e w' => ∃ gt F, e = .returned (.tuple #[.pointer (some ⟨gt, 0, none⟩), .int .i64 0]) ∧ Hid (Liv w w' gt gp ⟨true, none, 0⟩ ⟨100, 0, [], [], [], 0⟩ F)) := by
    refine Lib.hid ((tnew_yes w1 100 0 gp none none 0 0 0 0 [] [] ⟨true, none, 0⟩ (by omega) (by omega) (by omega) (rdI_nil _) (rdI_nil _) (by omega) (by omega) hp1).mono ?_)
    rintro e w' ⟨gt, F, rfl, h2, h3, h4⟩
    exact ⟨gt, F, rfl, Lib.hid ⟨h2, fun k hk => Nat.le_trans hb1.size (h4 k hk), by rw [hgp]; exact Nat.le_refl _, hb1.trans (h3.mono hb1.size)⟩⟩
  clear h1 hgp hp1 hb1
  go_enter Try.func5, Try.ntmps5
  go_wp2_with fail
  refine HN.out.mono ?_
  rintro e w' ⟨rfl, rfl⟩
  go_wp2_with fail
  refine HT.out.mono ?_
  rintro e w2 ⟨gt, F2, rfl, H2⟩
  have HPUT : Hid (Calls Try.prog 15 #[.pointer (some ⟨gt, 0, none⟩), .slice (some ⟨w2.heap.size, 0, none⟩) 2 2] (w2.alloc (.cells #[.int .u8 120, .int .u8 121] 5 (2, 3))) fun e w' => e = .returned (.int .i64 0) ∧ Hid (∃ F, Liv w w' gt gp ⟨true, none, 1⟩ ⟨100, 0, [], [], [[120, 121]], 1⟩ F)) := by
    have hL := H2.out.later (Below.alloc0 w2 (.cells #[.int .u8 120, .int .u8 121] 5 (2, 3)))
    have hr : Rd (w2.alloc (.cells #[.int .u8 120, .int .u8 121] 5 (2, 3))) (some ⟨w2.heap.size, 0, none⟩) 2 [120, 121] := by
      refine ⟨rfl, by simp, fun _ => ⟨_, _, rfl, fun j hj => ?_⟩⟩
      rw [Nat.zero_add, cell_of_row _ w2.heap.size j #[.int .u8 120, .int .u8 121] 5 (2, 3) (heap_alloc_new w2 _)]
      rcases j with _ | _ | j
      · rfl
      · rfl
      · omega
    have hp := tput_any _ gt gp _ _ F2 hL.tap _ 2 2 [120, 121] hr (by
      intro _ b o e
      injection e with e
      injection e with e
      subst e
      simp only [List.mem_cons, not_or]
      exact ⟨fun e => by have := H2.out.gplt; omega, fun h => by have := H2.out.fl _ h; omega⟩) (by omega) ⟨by simp, by simp⟩
    have e : Tst.put ⟨true, none, 0⟩ ⟨100, 0, [], [], [], 0⟩ [120, 121] = (⟨true, none, 1⟩, ⟨100, 0, [], [], [[120, 121]], 1⟩, 0) := rfl
    rw [e] at hp
    refine Lib.hid (hp.mono ?_)
    rintro e w' ⟨rfl, F', h1, h2, h3⟩
    exact ⟨rfl, Lib.hid ⟨F', hL.next h1 h2 h3⟩⟩
  have kc := fun (w : World) (C : Array Value) (n c : Nat) => Lib.run_convert_bytes_const (P := Try.prog) w 41 5 C n c Try.underlying41 Try.underlying5
  clear HN HT
  go_wp2_with fail
  refine HPUT.out.mono ?_
  rintro e w3 ⟨rfl, H3⟩
  obtain ⟨F3, h3⟩ := H3.out
  have HMARK : Hid (Calls Try.prog 16 #[.pointer (some ⟨gt, 0, none⟩)] w3 fun e w' => e = .returned (.int .i64 0) ∧ Hid (∃ F, Liv w w' gt gp ⟨true, none, 2⟩ ⟨100, 0, [], [], [[120, 121], []], 2⟩ F)) := by
    have hp := mark_any w3 gt gp _ _ F3 h3.tap ⟨by simp, by simp⟩
    have e : Tst.write ⟨true, none, 1⟩ ⟨100, 0, [], [], [[120, 121]], 1⟩ [] = (⟨true, none, 2⟩, ⟨100, 0, [], [], [[120, 121], []], 2⟩, 0) := rfl
    rw [e] at hp
    refine Lib.hid (hp.mono ?_)
    rintro e w' ⟨rfl, F', h1, h2, h4⟩
    exact ⟨rfl, Lib.hid ⟨F', h3.next h1 h2 h4⟩⟩
  clear h3 HPUT
  go_wp2_with fail
  refine HMARK.out.mono ?_
  rintro e w4 ⟨rfl, H4⟩
  obtain ⟨F4, h4⟩ := H4.out
  have HSEEK : Hid (Calls Try.prog 17 #[.pointer (some ⟨gt, 0, none⟩), .int .i64 0] w4 fun e w' => e = .returned (.int .i64 0) ∧ Hid (Liv w w' gt gp ⟨true, none, 2⟩ ⟨100, 0, [], [], [[120, 121], []], 0⟩ F4)) := by
    have hp := seek_any w4 gt gp _ _ F4 h4.tap 0
    have e : Tst.seek ⟨true, none, 2⟩ ⟨100, 0, [], [], [[120, 121], []], 2⟩ 0 = (⟨100, 0, [], [], [[120, 121], []], 0⟩, 0) := rfl
    rw [e] at hp
    refine Lib.hid (hp.mono ?_)
    rintro e w' ⟨rfl, h1, h2⟩
    exact ⟨rfl, Lib.hid (h4.next h1 (h2.mono (fun k hk => by simp [hk])) (fun k hk => .inl hk))⟩
  clear h4 HMARK
  go_wp2_with fail
  refine HSEEK.out.mono ?_
  rintro e w5 ⟨rfl, H5⟩
  have HGET : Hid (Calls Try.prog 14 #[.pointer (some ⟨gt, 0, none⟩)] w5 fun e w' => ∃ a c, e = .returned (.tuple #[.slice a 2 c, .int .i64 0]) ∧ Hid (Rd w' a 2 [120, 121] ∧ (∀ b o, a = some ⟨b, o, none⟩ → w5.heap.size ≤ b ∧ b < w'.heap.size) ∧ Liv w w' gt gp ⟨true, none, 2⟩ ⟨100, 0, [], [], [[120, 121], []], 1⟩ F4)) := by
    have hp := get_any w5 gt gp _ _ F4 H5.out.tap (by simp)
    have e : Tst.get ⟨true, none, 2⟩ ⟨100, 0, [], [], [[120, 121], []], 0⟩ = (⟨100, 0, [], [], [[120, 121], []], 1⟩, [120, 121], 0) := rfl
    rw [e] at hp
    refine Lib.hid (hp.mono ?_)
    rintro e w' ⟨v, rfl, h1, h2, h3⟩
    obtain ⟨a, c, rfl, hr, _⟩ := h1.sl
    refine ⟨a, c, rfl, Lib.hid ⟨hr, ?_, H5.out.next h2 (h3.mono (fun k hk => by simp [hk])) (fun k hk => .inl hk)⟩⟩
    rintro b o rfl
    exact h1.2.lt b rfl
  clear HSEEK
  go_wp2_with fail
  refine HGET.out.mono ?_
  rintro e w6 ⟨a6, c6, rfl, H6⟩
  have HGET2 : Hid (Calls Try.prog 14 #[.pointer (some ⟨gt, 0, none⟩)] w6 fun e w' => ∃ v, e = .returned (.tuple #[v, .int .i64 10]) ∧ Hid (Rd w' a6 2 [120, 121] ∧ Liv w w' gt gp ⟨true, none, 2⟩ ⟨100, 0, [], [], [[120, 121], []], 2⟩ F4)) := by
    have hp := get_any w6 gt gp _ _ F4 H6.out.2.2.tap (by simp)
    have e : Tst.get ⟨true, none, 2⟩ ⟨100, 0, [], [], [[120, 121], []], 1⟩ = (⟨100, 0, [], [], [[120, 121], []], 2⟩, [], 10) := rfl
    rw [e] at hp
    refine Lib.hid (hp.mono ?_)
    rintro e w' ⟨v, rfl, h1, h2, h3⟩
    refine ⟨v, rfl, Lib.hid ⟨H6.out.1.save h3 ?_, H6.out.2.2.next h2 (h3.mono (fun k hk => by simp [hk])) (fun k hk => .inl hk)⟩⟩
    intro b o e hb
    have h5 := (H6.out.2.1 b o e).1
    have h6 := H5.out.fl b hb
    omega
  clear HGET
  go_wp2_with fail
  refine HGET2.out.mono ?_
  rintro e w7 ⟨v7, rfl, H7⟩
  have hcv := fun c => conv_rd H7.out.1 c
  have hst : strB [120, 121] = ⟨#[120, 121]⟩ := rfl
  rw [hst] at hcv
  have HPL := Lib.hid (place_any w7 gt gp _ _ F4 H7.out.2.tap)
  clear HGET2 hst
  go_wp2_with fail
  refine HPL.out.mono ?_
  rintro e w8 ⟨rfl, rfl⟩
  go_wp2
  go_ret
  exact ⟨rfl, H7.out.2.bel⟩

end Go.Proofs.Ytpkfpdklolkgeaa
