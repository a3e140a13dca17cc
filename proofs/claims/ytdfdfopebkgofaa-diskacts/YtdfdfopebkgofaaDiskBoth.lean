/- The program's calls and the document's, each in one contract, whatever the arguments. -/
import Derived.Test.YtdfdfopebkgofaaDiskLives
namespace Go.Proofs.Ytdfdfopebkgofaa
open Go.RowKit
set_option linter.unusedSimpArgs false

/-- Put, whatever the arguments. -/
def dPutR (s : Pw) (L : List Nat) (k : Nat) (i : Int) (n : Nat) (b : List Nat) : Pw × List Nat × Nat := if i < 0 ∨ (k : Int) ≤ i ∨ 64 < n then (s, L, 1) else dPut s L i.toNat b

/-- PutAll, whatever the arguments. -/
def dAllR (s : Pw) (L : List Nat) (k : Nat) (i : Int) (n : Nat) (b : List Nat) : Pw × List Nat × Nat := if i < 0 ∨ (k : Int) < i ∨ 64 * ((k : Int) - i) < n then (s, L, 1) else dAll s L i.toNat b

/-- GetAll's error. -/
def dErr (s : Pw) (k : Nat) (i z : Int) : Nat := if z < 0 ∨ i < 0 ∨ (k : Int) < i ∨ 64 * ((k : Int) - i) < z then 1 else if s.on = true then 0 else 11

/-- GetAll's bytes. -/
def dGot (s : Pw) (L : List Nat) (k : Nat) (i z : Int) : List Nat := if dErr s k i z = 0 then dCut L i.toNat z.toNat else []

theorem dGot_le (s : Pw) (L : List Nat) (k : Nat) (i z : Int) : (dGot s L k i z).length ≤ L.length := by
  unfold dGot
  split
  · unfold dCut
    rw [List.length_take, List.length_drop]
    omega
  · simp

theorem putR (w : World) (gd gp gb k N : Nat) (s : Pw) (L : List Nat) (i : Int) (a : Option Addr) (n c : Nat) (b : List Nat) (h : Dsk w gd gp gb s L k) (hwi : s.within N) (hN : N < 4611686018427387904) (hr : Rd w a n b) :
    Calls Try.prog 8 #[.pointer (some ⟨gd, 0, none⟩), .int .i64 i, .slice a n c] w fun e w' => e = .returned (.int .i64 ((dPutR s L k i n b).2.2 : Int)) ∧ Dsk w' gd gp gb (dPutR s L k i n b).1 (dPutR s L k i n b).2.1 k ∧ Save [gp, gb] w w' ∧ (dPutR s L k i n b).1.within (N + 1) := by
  by_cases hc : i < 0 ∨ (k : Int) ≤ i ∨ 64 < n
  · have e : dPutR s L k i n b = (s, L, 1) := if_pos hc
    rw [e]
    refine (put_no w gd gp gb k s L i a n c h hc).mono ?_
    rintro e w' ⟨rfl, rfl⟩
    exact ⟨rfl, h, Save.refl _ _, hwi.mono (by omega)⟩
  · have e : dPutR s L k i n b = dPut s L i.toNat b := if_neg hc
    obtain ⟨j, rfl⟩ : ∃ j : Nat, i = (j : Int) := ⟨i.toNat, by omega⟩
    rw [e, Int.toNat_natCast]
    refine (put_yes w gd gp gb k s L j a n c b h (hwi.ok hN) (by omega) (by omega) hr).mono ?_
    rintro e w' ⟨rfl, h1, h2⟩
    exact ⟨rfl, h1, h2, hwi.write⟩

theorem mputR (w : World) (gm gr k N : Nat) (s : Pw) (L : List Nat) (i : Int) (a : Option Addr) (n c : Nat) (b : List Nat) (h : Mod w gm gr s L k) (hwi : s.within N) (hN : N < 4611686018427387904) (hr : Rd w a n b) :
    Calls Try.prog 9 #[.pointer (some ⟨gm, 0, none⟩), .int .i64 i, .slice a n c] w fun e w' => e = .returned (.int .i64 ((dPutR s L k i n b).2.2 : Int)) ∧ Mod w' gm gr (dPutR s L k i n b).1 (dPutR s L k i n b).2.1 k ∧ Save [gm, gr] w w' := by
  by_cases hc : i < 0 ∨ (k : Int) ≤ i ∨ 64 < n
  · have e : dPutR s L k i n b = (s, L, 1) := if_pos hc
    rw [e]
    refine (mput_no w gm gr k s L i a n c h hc).mono ?_
    rintro e w' ⟨rfl, rfl⟩
    exact ⟨rfl, h, Save.refl _ _⟩
  · have e : dPutR s L k i n b = dPut s L i.toNat b := if_neg hc
    obtain ⟨j, rfl⟩ : ∃ j : Nat, i = (j : Int) := ⟨i.toNat, by omega⟩
    rw [e, Int.toNat_natCast]
    exact mput_yes w gm gr k s L j a n c b h (hwi.ok hN) (by omega) (by omega) hr

theorem allR (w : World) (gd gp gb k N : Nat) (s : Pw) (L : List Nat) (i : Int) (a : Option Addr) (n c : Nat) (b : List Nat) (h : Dsk w gd gp gb s L k) (hwi : s.within N) (hN : N + n < 4611686018427387904) (hr : Rd w a n b) (hnc : n ≤ c) (hoff : Off a [gp, gb]) :
    Calls Try.prog 13 #[.pointer (some ⟨gd, 0, none⟩), .int .i64 i, .slice a n c] w fun e w' => e = .returned (.int .i64 ((dAllR s L k i n b).2.2 : Int)) ∧ Dsk w' gd gp gb (dAllR s L k i n b).1 (dAllR s L k i n b).2.1 k ∧ Save [gp, gb] w w' ∧ (dAllR s L k i n b).1.within (N + n) := by
  by_cases hc : i < 0 ∨ (k : Int) < i ∨ 64 * ((k : Int) - i) < n
  · have e : dAllR s L k i n b = (s, L, 1) := if_pos hc
    rw [e]
    refine (putAll_no w gd gp gb k s L i a n c h hc).mono ?_
    rintro e w' ⟨rfl, rfl⟩
    exact ⟨rfl, h, Save.refl _ _, hwi.mono (by omega)⟩
  · have e : dAllR s L k i n b = dAll s L i.toNat b := if_neg hc
    obtain ⟨j, rfl⟩ : ∃ j : Nat, i = (j : Int) := ⟨i.toNat, by omega⟩
    rw [e, Int.toNat_natCast]
    exact putAll_yes w gd gp gb k s L j a n c N b h hwi hN (by omega) (by omega) hr hnc hoff

theorem mallR (w : World) (gm gr k N : Nat) (s : Pw) (L : List Nat) (i : Int) (a : Option Addr) (n c : Nat) (b : List Nat) (h : Mod w gm gr s L k) (hwi : s.within N) (hN : N + n < 4611686018427387904) (hr : Rd w a n b) (hnc : n ≤ c) (hoff : 0 < n → Off a [gm, gr]) :
    Calls Try.prog 14 #[.pointer (some ⟨gm, 0, none⟩), .int .i64 i, .slice a n c] w fun e w' => e = .returned (.int .i64 ((dAllR s L k i n b).2.2 : Int)) ∧ Mod w' gm gr (dAllR s L k i n b).1 (dAllR s L k i n b).2.1 k ∧ Save [gm, gr] w w' := by
  by_cases hc : i < 0 ∨ (k : Int) < i ∨ 64 * ((k : Int) - i) < n
  · have e : dAllR s L k i n b = (s, L, 1) := if_pos hc
    rw [e]
    refine (mall_no w gm gr k s L i a n c h hc).mono ?_
    rintro e w' ⟨rfl, rfl⟩
    exact ⟨rfl, h, Save.refl _ _⟩
  · have e : dAllR s L k i n b = dAll s L i.toNat b := if_neg hc
    obtain ⟨j, rfl⟩ : ∃ j : Nat, i = (j : Int) := ⟨i.toNat, by omega⟩
    rw [e, Int.toNat_natCast]
    exact mall_yes w gm gr k s L j a n c N b h hwi hN (by omega) (by omega) hr hnc hoff

theorem getAllR (w : World) (gd gp gb k : Nat) (s : Pw) (L : List Nat) (i z : Int) (h : Dsk w gd gp gb s L k) (hk : k ≤ 9) :
    Calls Try.prog 11 #[.pointer (some ⟨gd, 0, none⟩), .int .i64 i, .int .i64 z] w fun e w' => ∃ v, e = .returned (.tuple #[v, .int .i64 (dErr s k i z : Int)]) ∧ Own w' w.heap.size v (dGot s L k i z) ∧ Below w.heap.size w w' := by
  by_cases hc : z < 0 ∨ i < 0 ∨ (k : Int) < i ∨ 64 * ((k : Int) - i) < z
  · have e : dErr s k i z = 1 := if_pos hc
    have e2 : dGot s L k i z = [] := by unfold dGot; rw [e]; rfl
    rw [e, e2]
    refine (getAll_no w gd gp gb k s L i z h hc).mono ?_
    rintro e w' ⟨rfl, rfl⟩
    exact ⟨_, rfl, Own.nil _ _, Below.refl _ _⟩
  · obtain ⟨j, rfl⟩ : ∃ j : Nat, i = (j : Int) := ⟨i.toNat, by omega⟩
    obtain ⟨m, rfl⟩ : ∃ m : Nat, z = (m : Int) := ⟨z.toNat, by omega⟩
    by_cases ho : s.on = true
    · have e : dErr s k (j : Int) (m : Int) = 0 := by unfold dErr; rw [if_neg hc, if_pos ho]
      have e2 : dGot s L k (j : Int) (m : Int) = dCut L j m := by unfold dGot; rw [e, if_pos rfl, Int.toNat_natCast, Int.toNat_natCast]
      rw [e, e2]
      exact getAll_yes w gd gp gb k s L j m h (by omega) (by omega) ho (by omega)
    · have e : dErr s k (j : Int) (m : Int) = 11 := by unfold dErr; rw [if_neg hc, if_neg ho]
      have e2 : dGot s L k (j : Int) (m : Int) = [] := by unfold dGot; rw [e]; rfl
      rw [e, e2]
      refine (getAll_down w gd gp gb k s L j m h (by omega) (by omega) (by simpa using ho)).mono ?_
      rintro e w' ⟨rfl, rfl⟩
      exact ⟨_, rfl, Own.nil _ _, Below.refl _ _⟩

theorem getR (w : World) (gd gp gb k : Nat) (s : Pw) (L : List Nat) (i : Int) (h : Dsk w gd gp gb s L k) (hk : k ≤ 9) :
    Calls Try.prog 10 #[.pointer (some ⟨gd, 0, none⟩), .int .i64 i] w fun e w' => ∃ v, e = .returned (.tuple #[v, .int .i64 (dErr s k i 64 : Int)]) ∧ Own w' w.heap.size v (dGot s L k i 64) ∧ Below w.heap.size w w' := by
  refine get_of w gd i _ ((getAllR w gd gp gb k s L i 64 h hk).mono ?_)
  rintro e w' ⟨v, rfl, hv, hb⟩
  exact ⟨v, _, rfl, v, rfl, hv, hb⟩

theorem readR (w : World) (gm gr k : Nat) (s : Pw) (L : List Nat) (i z : Int) (h : Mod w gm gr s L k) :
    Calls Try.prog 12 #[.pointer (some ⟨gm, 0, none⟩), .int .i64 i, .int .i64 z] w fun e w' => ∃ a n c, e = .returned (.tuple #[.slice a n c, .int .i64 (dErr s k i z : Int)]) ∧ w' = w ∧ Rd w a n (dGot s L k i z) := by
  by_cases hc : z < 0 ∨ i < 0 ∨ (k : Int) < i ∨ 64 * ((k : Int) - i) < z
  · have e : dErr s k i z = 1 := if_pos hc
    have e2 : dGot s L k i z = [] := by unfold dGot; rw [e]; rfl
    rw [e, e2]
    refine (mread_no w gm gr k s L i z h hc).mono ?_
    rintro e w' ⟨rfl, rfl⟩
    exact ⟨_, _, _, rfl, rfl, rfl, by simp, by simp⟩
  · obtain ⟨j, rfl⟩ : ∃ j : Nat, i = (j : Int) := ⟨i.toNat, by omega⟩
    obtain ⟨m, rfl⟩ : ∃ m : Nat, z = (m : Int) := ⟨z.toNat, by omega⟩
    by_cases ho : s.on = true
    · have e : dErr s k (j : Int) (m : Int) = 0 := by unfold dErr; rw [if_neg hc, if_pos ho]
      have e2 : dGot s L k (j : Int) (m : Int) = dCut L j m := by unfold dGot; rw [e, if_pos rfl, Int.toNat_natCast, Int.toNat_natCast]
      rw [e, e2]
      refine (mread_yes w gm gr k s L j m h (by omega) (by omega) ho).mono ?_
      rintro e w' ⟨a, c, rfl, rfl, hr⟩
      exact ⟨a, m, c, rfl, rfl, hr⟩
    · have e : dErr s k (j : Int) (m : Int) = 11 := by unfold dErr; rw [if_neg hc, if_neg ho]
      have e2 : dGot s L k (j : Int) (m : Int) = [] := by unfold dGot; rw [e]; rfl
      rw [e, e2]
      refine (mread_down w gm gr k s L j m h (by omega) (by omega) (by simpa using ho)).mono ?_
      rintro e w' ⟨rfl, rfl⟩
      exact ⟨_, _, _, rfl, rfl, rfl, by simp, by simp⟩

/-- Where a sector behind the last one is asked for. -/
theorem err_last (s : Pw) (k : Nat) : dErr s k (k : Int) 64 = 1 := by
  unfold dErr
  rw [if_pos (by omega)]

theorem Own.save {w w' : World} {X : List Nat} {base g n c : Nat} {l : List Nat} (h : Own w base (.slice (some ⟨g, 0, none⟩) n c) l) (hs : Save X w w') (hg : g ∉ X) : Own w' base (.slice (some ⟨g, 0, none⟩) n c) l := by
  obtain ⟨hb, h0, h1⟩ := h
  refine ⟨hb, h0, ?_⟩
  rcases h1 with ⟨hv, _⟩ | ⟨g', cap', cur, hv, hbg, hgo, rest⟩
  · cases hv
  · have e := hv
    injection e with e1 e2 e3
    injection e1 with e1
    injection e1 with e1
    subst e1
    exact .inr ⟨g, cap', cur, hv, hbg, (hs.block g (lt_of_block hgo) hg).trans hgo, rest⟩

end Go.Proofs.Ytdfdfopebkgofaa
