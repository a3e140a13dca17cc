/- Put and Get of a segment's blocks on a tape of the call's own. -/
import Derived.Test.YtkfnjekeegebaaaSgBytes
import Derived.Test.YtkfnjekeegebaaaSgRead
import Derived.Test.YtkfnjekeegebaaaTapeLives
namespace Go.Proofs.Ytkfnjekeegebaaa
open Go.RowKit
set_option linter.unusedSimpArgs false

theorem Tap.fl {w : World} {gt gp : Nat} {s : Pw} {t : Tst} {F : List Nat} (h : Tap w gt gp s t F) : (∀ k ∈ F, k < w.heap.size) ∧ gp < w.heap.size := by
  obtain ⟨v, X, bW, bR, h⟩ := h
  exact ⟨h.fl, h.pow.lt⟩

set_option maxHeartbeats 1000000 in
set_option maxRecDepth 100000 in
theorem sput_any (w W : World) (gt gp : Nat) (s : Pw) (t : Tst) (F : List Nat) (h : Liv w W gt gp s t F) (hok : s.ok) (v : Value) (x : Sg) (hv : SgV W v (some x)) :
    Calls Try.prog 15 #[.pointer (some ⟨gt, 0, none⟩), v] W fun e w' => (x.ok = false ∧ e = .returned (.int .i64 1) ∧ Liv w w' gt gp s t F) ∨
      (x.ok = true ∧ e = .returned (.int .i64 ((Tst.put s t x.bytes).2.2 : Int)) ∧ ∃ F', Liv w w' gt gp (Tst.put s t x.bytes).1 (Tst.put s t x.bytes).2.1 F') := by
  have HA := Lib.hid (sbytes_any v x W hv)
  have HH := Lib.hid h
  have HOK := Lib.hid hok
  obtain ⟨B, hB⟩ : ∃ B, B = x.bytes := ⟨_, rfl⟩
  obtain ⟨O, hO⟩ : ∃ P, P = x.ok := ⟨_, rfl⟩
  rw [← hB, ← hO] at HA
  rw [← hB, ← hO]
  obtain ⟨R, hR⟩ : ∃ R, R = Tst.put s t B := ⟨_, rfl⟩
  rw [← hR]
  have HRR := Lib.hid hR
  clear hB hO h hv hok hR
  go_enter Try.func15, Try.ntmps15
  go_wp2_with fail
  refine HA.out.mono ?_
  rintro e w1 ⟨hb1, ⟨rfl, rfl⟩ | ⟨rfl, a, c, rfl, ho⟩⟩
  · have HF : Hid (Liv w w1 gt gp s t F) := Lib.hid (HH.out.later hb1)
    clear hb1
    go_wp2
    go_ret
    exact ⟨rfl, HF.out⟩
  · obtain ⟨a', c', hvv, hr, hc, hlo⟩ := ho.lies
    injection hvv with e1 _ e3
    subst e1 e3
    have HL1 := Lib.hid (HH.out.later hb1)
    have hp := tput_any w1 gt gp s t F HL1.out.tap a B.length c B hr (fun _ b o e hx => by
      have h1 := hlo b o e
      have h2 := Tap.fl HH.out.tap
      simp only [List.mem_cons] at hx
      rcases hx with rfl | hx
      · omega
      · have := h2.1 b hx; omega) hc HOK.out
    rw [← HRR.out] at hp
    have HP := Lib.hid hp
    clear hp hr hc hlo ho hb1
    go_wp2_with fail
    refine HP.out.mono ?_
    rintro e w2 ⟨rfl, F', hT, hs, hF⟩
    have HF : Hid (Liv w w2 gt gp R.1 R.2.1 F') := Lib.hid (HL1.out.next hT hs hF)
    clear hT hs hF
    go_wp2
    go_ret
    exact ⟨rfl, F', HF.out⟩

set_option maxHeartbeats 1000000 in
set_option maxRecDepth 100000 in
theorem sget_any (w W : World) (gt gp : Nat) (s : Pw) (t : Tst) (F : List Nat) (h : Liv w W gt gp s t F) (hroom : t.room ≤ 1000000) (hlen : (Tst.get s t).2.1.length ≤ 1000000) :
    Calls Try.prog 19 #[.pointer (some ⟨gt, 0, none⟩)] W fun e w' => Liv w w' gt gp s (Tst.get s t).1 F ∧ Save (gp :: F) W w' ∧
      (((Tst.get s t).2.2 ≠ 0 ∧ e = .returned (.tuple #[.nilIface, .int .i64 ((Tst.get s t).2.2 : Int)])) ∨
       ((Tst.get s t).2.2 = 0 ∧ ∃ v, e = .returned (.tuple #[v, .int .i64 ((rdSg (Tst.get s t).2.1).2 : Int)]) ∧ SgV w' v (rdSg (Tst.get s t).2.1).1 ∧ SgLo W.heap.size v)) := by
  have HA := Lib.hid (get_any W gt gp s t F h.tap hroom)
  have HH := Lib.hid h
  obtain ⟨R, hR⟩ : ∃ R, R = Tst.get s t := ⟨_, rfl⟩
  rw [← hR] at HA hlen ⊢
  obtain ⟨t', l, E⟩ := R
  simp only at HA hlen ⊢
  obtain ⟨Y, hY⟩ : ∃ Y, Y = rdSg l := ⟨_, rfl⟩
  rw [← hY]
  have HYY := Lib.hid hY
  clear hR h hY
  go_enter Try.func19, Try.ntmps19
  go_wp2_with fail
  refine HA.out.mono ?_
  rintro e w1 ⟨v, rfl, ho, hT, hs⟩
  have HL1 : Hid (Liv w w1 gt gp s t' F ∧ Save (gp :: F) W w1) := Lib.hid ⟨HH.out.next hT (hs.mono (by simp +contextual)) (fun k hk => .inl hk), hs.mono (by simp +contextual)⟩
  clear hT hs
  by_cases hE : E = 0
  · subst hE
    obtain ⟨a, c, rfl, hr, hc⟩ := ho.sl
    have hre := sread_any a l.length c l w1 hr hlen hc
    rw [← HYY.out] at hre
    have HRE := Lib.hid hre
    clear hre hr hc ho
    go_wp2_with fail
    refine HRE.out.mono ?_
    rintro e w2 ⟨hb2, v, rfl, hv, hlo⟩
    have HF : Hid (Liv w w2 gt gp s t' F ∧ Save (gp :: F) W w2) := Lib.hid ⟨HL1.out.1.later hb2, HL1.out.2.trans (Save.of_below hb2 _)⟩
    have HV := Lib.hid hv
    have HLO : Hid (SgLo W.heap.size v) := Lib.hid fun T a n c b o f h1 h2 => Nat.le_trans HL1.out.2.size (hlo T a n c b o f h1 h2)
    clear hb2 hv hlo
    go_wp2
    go_ret2
    exact ⟨HF.out.1, HF.out.2, v, rfl, HV.out, HLO.out⟩
  · have hE1 : ((E : Int) != 0) = true := by simp; omega
    have hE2 : ((E : Int) == 0) = false := by simp; omega
    clear ho
    go_wp2
    go_ret2
    exact ⟨HL1.out.1, HL1.out.2, .inl ⟨hE, rfl⟩⟩

end Go.Proofs.Ytkfnjekeegebaaa
