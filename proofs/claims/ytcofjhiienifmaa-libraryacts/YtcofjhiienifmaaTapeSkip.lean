/- The contract of a tape's Skip. -/
import Derived.Test.YtcofjhiienifmaaTapeGet
namespace Go.Proofs.Ytcofjhiienifmaa
open Go.RowKit
set_option linter.unusedSimpArgs false

/-- How many pieces are passed till so many marks are; none: there are fewer. -/
def skipL : List (List Nat) → Nat → Option Nat
  | _, 0 => some 0
  | [], _ + 1 => none
  | l :: r, m + 1 => if l.length = 0 then (skipL r m).map (· + 1) else (skipL r (m + 1)).map (· + 1)

/-- Skip, whatever the number. -/
def Tst.skip (s : Pw) (t : Tst) (z : Int) : Tst × Nat :=
  if z < 0 then (t, 1) else if s.on = false then (t, 11) else
  match skipL (t.P.drop t.pos) z.toNat with
  | none => (t, 6)
  | some k => ({ t with pos := t.pos + k }, 0)

theorem skipL_zero (P : List (List Nat)) : skipL P 0 = some 0 := by cases P <;> rfl

theorem skipL_end (P : List (List Nat)) (i m : Nat) (hi : i = P.length) (hm : 0 < m) : skipL (P.drop i) m = none := by
  rw [List.drop_eq_nil_of_le (by omega)]
  cases m with
  | zero => omega
  | succ m => rfl

theorem skipL_step (P : List (List Nat)) (i m : Nat) (hi : i < P.length) (hm : 0 < m) : skipL (P.drop i) m = (skipL (P.drop (i + 1)) (if (P.getD i []).length = 0 then m - 1 else m)).map (· + 1) := by
  rw [List.drop_eq_getElem_cons hi]
  have e : P.getD i [] = P[i] := by simp [List.getD, hi]
  rw [e]
  cases m with
  | zero => omega
  | succ m =>
    simp only [skipL, Nat.add_sub_cancel]
    split <;> rfl

theorem skipL_le : ∀ (P : List (List Nat)) (m k : Nat), skipL P m = some k → k ≤ P.length
  | _, 0, k, h => by rw [skipL_zero] at h; injection h with h; omega
  | [], m + 1, k, h => by simp [skipL] at h
  | l :: r, m + 1, k, h => by
    simp only [skipL] at h
    split at h
    · rw [Option.map_eq_some_iff] at h
      obtain ⟨j, h1, h2⟩ := h
      have := skipL_le r m j h1
      simp only [List.length_cons]
      omega
    · rw [Option.map_eq_some_iff] at h
      obtain ⟨j, h1, h2⟩ := h
      have := skipL_le r (m + 1) j h1
      simp only [List.length_cons]
      omega

set_option maxHeartbeats 1000000 in
set_option maxRecDepth 100000 in
theorem skip_any (w : World) (gt gp : Nat) (s : Pw) (t : Tst) (F : List Nat) (h : Tap w gt gp s t F) (z : Int) (hzb : z < 9223372036854775808) :
    Calls Try.prog 25 #[.pointer (some ⟨gt, 0, none⟩), .int .i64 z] w fun e w' => e = .returned (.int .i64 ((Tst.skip s t z).2 : Int)) ∧ Tap w' gt gp s (Tst.skip s t z).1 F ∧ Save F w w' := by
  have HT := Lib.hid h
  obtain ⟨v, X, bW, bR, h⟩ := h
  have HH := Lib.hid h
  have HO := Lib.hid (on_any w gp s h.pow)
  have c0 := h.cells.1
  have c6 := h.cells.2.2.2.2.2.2
  have HPS := Lib.hid h.pos_small
  have hpl := h.pos_le
  have HZB : Hid (∃ B : Nat, B = 9223372036854775808 ∧ z < (B : Int)) := Lib.hid ⟨_, rfl, hzb⟩
  clear hzb
  by_cases h0 : z < 0
  · have e : Tst.skip s t z = (t, 1) := by unfold Tst.skip; rw [if_pos h0]
    rw [e]
    clear h e HH HO
    go_enter Try.func25, Try.ntmps25
    go_wp2
    go_ret
    exact ⟨rfl, HT.out, Save.refl _ _⟩
  obtain ⟨M, rfl⟩ : ∃ M : Nat, z = (M : Int) := ⟨z.toNat, by omega⟩
  clear h0
  by_cases ho : s.on = false
  · have e : Tst.skip s t (M : Int) = (t, 11) := by unfold Tst.skip; rw [if_neg (by omega), if_pos ho]
    rw [e]
    rw [ho] at HO
    clear h e HH ho
    go_enter Try.func25, Try.ntmps25
    go_wp2_with fail
    refine HO.out.mono ?_
    rintro e w1 ⟨rfl, rfl⟩
    go_wp2
    go_ret
    exact ⟨rfl, HT.out, Save.refl _ _⟩
  have ho' : s.on = true := by simpa using ho
  rw [ho'] at HO
  have e : Tst.skip s t (M : Int) = match skipL (t.P.drop t.pos) M with | none => (t, 6) | some k => ({ t with pos := t.pos + k }, 0) := by
    unfold Tst.skip
    rw [if_neg (by omega), if_neg ho, Int.toNat_natCast]
  have HE := Lib.hid e
  obtain ⟨p, hp⟩ : ∃ p, p = t.pos := ⟨_, rfl⟩
  obtain ⟨n, hn⟩ : ∃ n, n = t.P.length := ⟨_, rfl⟩
  rw [← hp] at c6 hpl
  rw [← hn] at HPS hpl
  have hps := HPS.out
  have HN := Lib.hid (And.intro hp (And.intro hn (And.intro hps hpl)))
  have HMb : Hid (∃ B : Nat, B = 9223372036854775808 ∧ M < B) := Lib.hid (by obtain ⟨B, h1, h2⟩ := HZB.out; exact ⟨B, h1, by omega⟩)
  clear h e ho ho' hp hn hps
  go_enter Try.func25, Try.ntmps25
  go_wp2_with fail
  refine HO.out.mono ?_
  rintro e w1 ⟨rfl, rfl⟩
  go_wp2
  go_loopg [1, 5] (n + 1 - p) (fun gk vm vi wr => ∃ m i : Nat, gk = n + 1 - i ∧ i ≤ n ∧ Hid (∃ B : Nat, B = 9223372036854775808 ∧ m < B) ∧ vm = .int .i64 (m : Int) ∧ vi = .int .i64 (i : Int) ∧ Hid (Below w1.heap.size w1 wr ∧ p ≤ i ∧ skipL (t.P.drop p) M = (skipL (t.P.drop i) m).map (· + (i - p))))
  case atStart => exact ⟨M, p, rfl, hpl, HMb, rfl, rfl, Lib.hid ⟨Below.refl _ _, Nat.le_refl _, by rw [Nat.sub_self]; simp⟩⟩
  case round =>
    obtain ⟨m, i, hgk, hi, HMB, rfl, rfl, HI⟩ := hrel
    have HGK := Lib.hid hgk
    clear hgk
    by_cases hm : 0 < m
    · by_cases hin : i < n
      · have hx := HH.out.later HI.out.1
        obtain ⟨hp, hn, _, _⟩ := HN.out
        obtain ⟨g, c, a, q, d, y, hv, k1, k2, k3, _, _⟩ := hx.at_ i (by omega)
        have c5 := hx.cells.2.2.2.2.2.1
        rw [hv, ← hn] at c5
        have hlq := k3.1
        have HQ := Lib.hid hlq
        have HM : Hid (∀ W, _) := Lib.hid fun W => isMark_any W a q d (y : Int)
        have hne : ((i : Int) == (n : Int)) = false := by simp; omega
        clear hx hv k3 hlq hp hn
        by_cases hq : q = 0
        · have hqb : (q == 0) = true := by simp [hq]
          rw [hqb] at HM
          have HQ0 := Lib.hid hq
          have hw1 : IntKind.i64.wrap ((m : Int) - 1) = ((m - 1 : Nat) : Int) := by obtain ⟨B, h1, h2⟩ := HMB.out; rw [IntKind.wrap_i64] <;> omega
          have hw2 : IntKind.i64.wrap ((i : Int) + 1) = ((i + 1 : Nat) : Int) := by rw [IntKind.wrap_i64] <;> omega
          clear hqb hq
          go_wp2_with fail
          refine (HM.out _).mono ?_
          rintro e w3 ⟨rfl, rfl⟩
          go_wp2
          go_roundg (n + 1 - (i + 1))
          case measure => have := HGK.out; omega
          case rel =>
            refine ⟨m - 1, i + 1, rfl, by omega, Lib.hid (by obtain ⟨B, h1, h2⟩ := HMB.out; exact ⟨B, h1, by omega⟩), by go_num, by go_num, Lib.hid ⟨HI.out.1.alloc HI.out.1.size _, by have := HI.out.2.1; omega, ?_⟩⟩
            obtain ⟨hp, hn, _, _⟩ := HN.out
            rw [HI.out.2.2, skipL_step t.P i m (by omega) hm, if_pos (by rw [HQ.out]; exact HQ0.out), Option.map_map]
            have := HI.out.2.1
            congr 1
            funext x
            simp only [Function.comp_apply]
            omega
        · have hqb : (q == 0) = false := by simp [hq]
          rw [hqb] at HM
          have HQ0 := Lib.hid hq
          have hw2 : IntKind.i64.wrap ((i : Int) + 1) = ((i + 1 : Nat) : Int) := by rw [IntKind.wrap_i64] <;> omega
          clear hqb hq
          go_wp2_with fail
          refine (HM.out _).mono ?_
          rintro e w3 ⟨rfl, rfl⟩
          go_wp2
          go_roundg (n + 1 - (i + 1))
          case measure => have := HGK.out; omega
          case rel =>
            refine ⟨m, i + 1, rfl, by omega, HMB, by go_num, by go_num, Lib.hid ⟨HI.out.1.alloc HI.out.1.size _, by have := HI.out.2.1; omega, ?_⟩⟩
            obtain ⟨hp, hn, _, _⟩ := HN.out
            rw [HI.out.2.2, skipL_step t.P i m (by omega) hm, if_neg (by rw [HQ.out]; exact HQ0.out), Option.map_map]
            have := HI.out.2.1
            congr 1
            funext x
            simp only [Function.comp_apply]
            omega
      · have hie : i = n := by omega
        have hx := HH.out.later HI.out.1
        have c5 := hx.cells.2.2.2.2.2.1
        obtain ⟨a, c, hv, _⟩ := hx.shape
        obtain ⟨hp, hn, _, _⟩ := HN.out
        rw [hv, ← hn, ← hie] at c5
        have HR := Lib.hid (And.intro hie hn)
        clear hx hv hp hn hie hin
        go_wp2
        go_ret
        have e1 : skipL (t.P.drop t.pos) M = none := by
          rw [← HN.out.1, HI.out.2.2, skipL_end t.P i m (by rw [HR.out.1, HR.out.2]) hm]
          rfl
        have e2 := HE.out
        rw [e1] at e2
        rw [e2]
        exact ⟨rfl, HT.out.later HI.out.1, Save.of_below HI.out.1 _⟩
    · have hm0 : m = 0 := by omega
      subst hm0
      have hx := HH.out.later HI.out.1
      have c6' := hx.cells.2.2.2.2.2.2
      have f6 := hx.soft 6
      have HX := Lib.hid hx
      clear hx hm
      go_wp2
      go_ret
      have e1 : skipL (t.P.drop t.pos) M = some (i - p) := by
        rw [← HN.out.1, HI.out.2.2, skipL_zero]
        simp
      have e2 := HE.out
      rw [e1] at e2
      rw [e2]
      have e3 : t.pos + (i - p) = i := by
        have := HI.out.2.1
        rw [← HN.out.1]
        omega
      simp only [e3]
      exact ⟨rfl, ⟨_, X, bW, bR, HX.out.setPos i (by rw [← HN.out.2.1]; exact hi)⟩, (Save.of_below HI.out.1 _).trans ((Save.set wr gt 6 _).mono (fun k hk => by simp only [List.mem_singleton] at hk; rw [hk]; exact HH.out.ft))⟩

end Go.Proofs.Ytcofjhiienifmaa
