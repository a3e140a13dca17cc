/- The contracts of a tape's Put, Mark, Get, Seek, Skip. -/
import Derived.Test.YtkfnjekeegebaaaTapeWrite
namespace Go.Proofs.Ytkfnjekeegebaaa
open Go.RowKit
set_option linter.unusedSimpArgs false

theorem wpiece_any (w : World) (gt gp : Nat) (s : Pw) (t : Tst) (F : List Nat) (h : Tap w gt gp s t F) (a : Option Addr) (n c : Nat) (l : List Nat) (hrd : Rd w a n l) (hoff : 0 < n → ∀ b o, a = some ⟨b, o, none⟩ → b ∉ gp :: F) (hnc : n ≤ c) (hok : s.ok) (hn : n ≤ 200) :
    Calls Try.prog 44 #[.pointer (some ⟨gt, 0, none⟩), .slice a n c] w fun e w' => e = .returned (.int .i64 ((Tst.write s t l).2.2 : Int)) ∧ ∃ F', Tap w' gt gp (Tst.write s t l).1 (Tst.write s t l).2.1 F' ∧ Save (gp :: F) w w' ∧ ∀ k ∈ F', k ∈ F ∨ w.heap.size ≤ k := by
  have hln := hrd.1
  by_cases ho : s.on = true
  · by_cases hf : t.room < t.used + (4 + n)
    · have e : Tst.write s t l = (s, t, 9) := by unfold Tst.write; rw [if_neg (by simp [ho]), hln, if_pos hf]
      rw [e]
      refine (wpiece_end w gt gp s t F h a n c ho hn hf).mono ?_
      rintro e w' ⟨rfl, m, rfl⟩
      exact ⟨rfl, F, h.drewN m, (Save.refl _ _).drewN m, fun k hk => .inl hk⟩
    · exact wpiece_room w gt gp s t F h a n c l hrd hoff hnc ho hok hn (by omega)
  · have e : Tst.write s t l = (s, t, 11) := by unfold Tst.write; rw [if_pos (by simpa using ho)]
    rw [e]
    refine (wpiece_off w gt gp s t F h a n c (by simpa using ho)).mono ?_
    rintro e w' ⟨rfl, rfl⟩
    exact ⟨rfl, F, h, Save.refl _ _, fun k hk => .inl hk⟩

/-- Put, whatever the bytes. -/
def Tst.put (s : Pw) (t : Tst) (l : List Nat) : Pw × Tst × Nat := if l.length = 0 then (s, t, 1) else if 200 < l.length then (s, t, 5) else Tst.write s t l

theorem tput_any (w : World) (gt gp : Nat) (s : Pw) (t : Tst) (F : List Nat) (h : Tap w gt gp s t F) (a : Option Addr) (n c : Nat) (l : List Nat) (hrd : Rd w a n l) (hoff : 0 < n → ∀ b o, a = some ⟨b, o, none⟩ → b ∉ gp :: F) (hnc : n ≤ c) (hok : s.ok) :
    Calls Try.prog 32 #[.pointer (some ⟨gt, 0, none⟩), .slice a n c] w fun e w' => e = .returned (.int .i64 ((Tst.put s t l).2.2 : Int)) ∧ ∃ F', Tap w' gt gp (Tst.put s t l).1 (Tst.put s t l).2.1 F' ∧ Save (gp :: F) w w' ∧ ∀ k ∈ F', k ∈ F ∨ w.heap.size ≤ k := by
  have hln := hrd.1
  have HH := Lib.hid h
  by_cases h0 : n = 0
  · have e : Tst.put s t l = (s, t, 1) := by unfold Tst.put; rw [if_pos (by omega)]
    rw [e]
    subst h0
    clear h hrd hoff hnc hok hln e
    go_enter Try.func32, Try.ntmps32
    go_wp2
    go_ret
    exact ⟨rfl, F, HH.out, Save.refl _ _, fun k hk => .inl hk⟩
  · have hne : ((n : Int) == 0) = false := by simp; omega
    by_cases h2 : 200 < n
    · have e : Tst.put s t l = (s, t, 5) := by unfold Tst.put; rw [if_neg (by omega), if_pos (by omega)]
      rw [e]
      clear h hrd hoff hnc hok hln e h0
      go_enter Try.func32, Try.ntmps32
      go_wp2
      go_ret
      exact ⟨rfl, F, HH.out, Save.refl _ _, fun k hk => .inl hk⟩
    · have e : Tst.put s t l = Tst.write s t l := by unfold Tst.put; rw [if_neg (by omega), if_neg (by omega)]
      have hle : n ≤ 200 := by omega
      have HW := Lib.hid (wpiece_any w gt gp s t F h a n c l hrd hoff hnc hok hle)
      rw [e]
      clear h hrd hoff hnc hok hln e h0 h2 HH
      go_enter Try.func32, Try.ntmps32
      go_wp2_with fail
      refine HW.out.mono ?_
      rintro e w1 ⟨rfl, H1⟩
      have H11 := Lib.hid H1
      clear H1 HW
      go_wp2
      go_ret
      exact ⟨rfl, H11.out⟩

theorem put_nil (w : World) (a : Option Addr) (n c : Nat) : Calls Try.prog 32 #[.pointer none, .slice a n c] w fun e w' => e = .returned (.int .i64 1) ∧ w' = w := by
  go_enter Try.func32, Try.ntmps32
  go_wp2
  go_ret
  exact ⟨rfl, rfl⟩

theorem get_nil (w : World) : Calls Try.prog 34 #[.pointer none] w fun e w' => e = .returned (.tuple #[.slice none 0 0, .int .i64 1]) ∧ w' = w := by
  go_enter Try.func34, Try.ntmps34
  go_wp2
  go_ret2
  exact ⟨rfl, rfl⟩

theorem seek_nil (w : World) (z : Int) : Calls Try.prog 18 #[.pointer none, .int .i64 z] w fun e w' => e = .returned (.int .i64 1) ∧ w' = w := by
  go_enter Try.func18, Try.ntmps18
  go_wp2
  go_ret
  exact ⟨rfl, rfl⟩

/-- Seek, whatever the place. -/
def Tst.seek (s : Pw) (t : Tst) (z : Int) : Tst × Nat := if z < 0 ∨ (t.P.length : Int) < z then (t, 1) else if s.on = false then (t, 11) else ({ t with pos := z.toNat }, 0)

theorem seek_any (w : World) (gt gp : Nat) (s : Pw) (t : Tst) (F : List Nat) (h : Tap w gt gp s t F) (z : Int) :
    Calls Try.prog 18 #[.pointer (some ⟨gt, 0, none⟩), .int .i64 z] w fun e w' => e = .returned (.int .i64 ((Tst.seek s t z).2 : Int)) ∧ Tap w' gt gp s (Tst.seek s t z).1 F ∧ Save F w w' := by
  have HT := Lib.hid h
  obtain ⟨v, X, bW, bR, h⟩ := h
  have HH := Lib.hid h
  have HO := Lib.hid (on_any w gp s h.pow)
  obtain ⟨c0, _, _, _, _, c5, c6⟩ := h.cells
  have f6 := h.soft 6
  have hps := h.pos_small
  obtain ⟨a, c, rfl, _⟩ := h.shape
  obtain ⟨n, hn⟩ : ∃ n, n = t.P.length := ⟨_, rfl⟩
  rw [← hn] at c5 hps
  by_cases h0 : z < 0
  · have e : Tst.seek s t z = (t, 1) := by unfold Tst.seek; rw [if_pos (.inl h0)]
    rw [e]
    clear h e hn HH HO
    go_enter Try.func18, Try.ntmps18
    go_wp2
    go_ret
    exact ⟨rfl, HT.out, Save.refl _ _⟩
  · have h0' : 0 ≤ z := by omega
    by_cases h1 : (n : Int) < z
    · have e : Tst.seek s t z = (t, 1) := by unfold Tst.seek; rw [if_pos (.inr (by rw [← hn]; exact h1))]
      rw [e]
      clear h e hn HH HO h0
      go_enter Try.func18, Try.ntmps18
      go_wp2
      go_ret
      exact ⟨rfl, HT.out, Save.refl _ _⟩
    · obtain ⟨j, rfl⟩ : ∃ j : Nat, z = (j : Int) := ⟨z.toNat, by omega⟩
      have hj : j ≤ n := by omega
      by_cases ho : s.on = true
      · have e : Tst.seek s t (j : Int) = ({ t with pos := j }, 0) := by unfold Tst.seek; rw [if_neg (by rw [← hn]; omega), if_neg (by simp [ho])]; simp
        rw [e]
        rw [ho] at HO
        have HJ := Lib.hid (show j ≤ t.P.length by omega)
        clear h e hn h0 h1 h0' ho
        go_enter Try.func18, Try.ntmps18
        go_wp2_with fail
        refine HO.out.mono ?_
        rintro e w1 ⟨rfl, rfl⟩
        go_wp2
        go_ret
        exact ⟨rfl, ⟨_, X, bW, bR, HH.out.setPos j HJ.out⟩, (Save.set w1 gt 6 _).mono (fun k hk => by simp only [List.mem_singleton] at hk; rw [hk]; exact HH.out.ft)⟩
      · have e : Tst.seek s t (j : Int) = (t, 11) := by unfold Tst.seek; rw [if_neg (by rw [← hn]; omega), if_pos (by simpa using ho)]
        rw [e]
        have ho' : s.on = false := by simpa using ho
        rw [ho'] at HO
        clear h e hn h0 h1 h0' ho ho' HH
        go_enter Try.func18, Try.ntmps18
        go_wp2_with fail
        refine HO.out.mono ?_
        rintro e w1 ⟨rfl, rfl⟩
        go_wp2
        go_ret
        exact ⟨rfl, HT.out, Save.refl _ _⟩

end Go.Proofs.Ytkfnjekeegebaaa
