/- The contract of a tape's writePiece. -/
import Derived.Test.YtkfnjekeegebaaaTapeOps
import Derived.Test.YtkfnjekeegebaaaTapeLay
namespace Go.Proofs.Ytkfnjekeegebaaa
open Go.RowKit
set_option linter.unusedSimpArgs false

/-- A piece written: power behind it, the tape, the error. -/
def Tst.write (s : Pw) (t : Tst) (l : List Nat) : Pw × Tst × Nat :=
  if s.on = false then (s, t, 11) else
  if t.room < t.used + (4 + l.length) then (s, t, 9) else
  if (s.write ((4 + l.length : Nat) : Int)).2.2 = 0 then
    if (t.pos : Int) ∈ t.nw then ((s.write ((4 + l.length : Nat) : Int)).1, t.cut, 8)
    else ((s.write ((4 + l.length : Nat) : Int)).1, { t.cut.add l with pos := t.pos + 1 }, 0)
  else if 4 < (s.write ((4 + l.length : Nat) : Int)).2.1 then ((s.write ((4 + l.length : Nat) : Int)).1, t.cut.add (l.take ((s.write ((4 + l.length : Nat) : Int)).2.1.toNat - 4)), 11)
  else ((s.write ((4 + l.length : Nat) : Int)).1, t.cut, 11)

theorem write_cases {s : Pw} (ho : s.on = true) (m : Nat) : ((s.write (m : Int)).2.2 = 0 ∧ (s.write (m : Int)).2.1 = (m : Int)) ∨ ∃ k : Nat, k ≤ m ∧ (s.write (m : Int)).2.1 = (k : Int) ∧ (s.write (m : Int)).2.2 = 11 := by
  unfold Pw.write
  rw [if_neg (by omega), if_neg (by simp [ho])]
  split
  · exact .inl ⟨rfl, rfl⟩
  · rename_i t _
    exact .inr ⟨(min (max t 0) (m : Int)).toNat, by omega, by simp only; omega, rfl⟩
  · exact .inl ⟨rfl, rfl⟩

theorem Rd.off {w w' : World} {X : List Nat} {a : Option Addr} {n : Nat} {l : List Nat} (h : Rd w a n l) (hs : Save X w w') (hX : 0 < n → ∀ b o, a = some ⟨b, o, none⟩ → b ∉ X) : Rd w' a n l := by
  by_cases hn : 0 < n
  · exact h.save hs (hX hn)
  · exact ⟨h.1, h.2.1, fun h0 => absurd h0 hn⟩

theorem Tp.setPos {w : World} {gt gp : Nat} {s : Pw} {t : Tst} {F : List Nat} {v : Value} {X : List PC} {bW bR : Nat} (h : Tp w gt gp s t F v X bW bR) (p : Nat) (hp : p ≤ t.P.length) : Tp (w.setCell ⟨gt, 6, none⟩ (.int .i64 (p : Int))) gt gp s { t with pos := p } F v X bW bR := by
  rw [setCell6 h.obj]
  have hrn := h.row_ne
  have hsn := h.set_ne
  refine ⟨put_same h.obj, (put_other hsn.2.2).trans h.pow, h.mw.kept (put_other hsn.1), h.mr.kept (put_other hsn.2.1), ?_, ?_, h.lst, h.ends, hp, h.fits, h.roomle, h.earlyle, h.ft, h.fw, h.fr, h.fv, h.fp, by rw [put_size]; exact h.fl⟩
  · refine ⟨h.row.1, h.row.2.imp id ?_⟩
    rintro ⟨g, cap, cur, hv, h0, hg, rest⟩
    exact ⟨g, cap, cur, hv, h0, (put_other (fun e => hrn.1 (by rw [hv, ← e]; rfl))).trans hg, rest⟩
  · intro q hq
    obtain ⟨h1, h2, h3⟩ := h.pcs q hq
    refine ⟨⟨h1.1, h1.2.1, fun hn => ?_⟩, h2, h3⟩
    obtain ⟨b, o, e, hc⟩ := h1.2.2 hn
    refine ⟨b, o, e, fun j hj => ?_⟩
    rw [← hc j hj]
    simp only [World.cell?, (put_other (h3 hn b o e).2.1 : (put w gt _).heap[b]? = _)]

theorem Tst.cut_pos {t : Tst} (h : t.pos ≤ t.P.length) : t.cut.pos = t.cut.P.length := by
  simp only [Tst.cut, List.length_take]
  omega

theorem wpiece_off (w : World) (gt gp : Nat) (s : Pw) (t : Tst) (F : List Nat) (h : Tap w gt gp s t F) (a : Option Addr) (n c : Nat) (ho : s.on = false) :
    Calls Try.prog 44 #[.pointer (some ⟨gt, 0, none⟩), .slice a n c] w fun e w' => e = .returned (.int .i64 11) ∧ w' = w := by
  obtain ⟨v, X, bW, bR, h⟩ := h
  have HO := Lib.hid (on_any w gp s h.pow)
  rw [ho] at HO
  have c0 := h.cells.1
  clear h
  go_enter Try.func44, Try.ntmps44
  go_wp2_with fail
  refine HO.out.mono ?_
  rintro e w1 ⟨rfl, rfl⟩
  go_wp2
  go_ret
  exact ⟨rfl, rfl⟩

theorem wpiece_end (w : World) (gt gp : Nat) (s : Pw) (t : Tst) (F : List Nat) (h : Tap w gt gp s t F) (a : Option Addr) (n c : Nat) (ho : s.on = true) (hn : n ≤ 200) (hfull : t.room < t.used + (4 + n)) :
    Calls Try.prog 44 #[.pointer (some ⟨gt, 0, none⟩), .slice a n c] w fun e w' => e = .returned (.int .i64 9) ∧ ∃ m, w' = w.drewN m := by
  have HU : Hid (∀ m, _) := Lib.hid fun m => used_any (w.drewN m) gt gp s t F (h.drewN m)
  obtain ⟨v, X, bW, bR, h⟩ := h
  have HO := Lib.hid (on_any w gp s h.pow)
  rw [ho] at HO
  have c0 := h.cells.1
  have c1 := h.cells.2.1
  have hr := h.roomle
  have hu := h.used_le
  obtain ⟨u, hu0⟩ : ∃ u, u = t.used := ⟨_, rfl⟩
  obtain ⟨r, hr0⟩ : ∃ r, r = t.room := ⟨_, rfl⟩
  rw [← hu0] at HU hfull hu
  rw [← hr0] at c1 hfull hr hu
  obtain ⟨z, hz⟩ : ∃ z, z = 4 + n := ⟨_, rfl⟩
  have hw1 : IntKind.i64.wrap (4 + (n : Int)) = (z : Int) := by rw [IntKind.wrap_i64] <;> omega
  obtain ⟨q, hq⟩ : ∃ q, q = u + z := ⟨_, rfl⟩
  have hw2 : IntKind.i64.wrap ((u : Int) + (z : Int)) = (q : Int) := by rw [IntKind.wrap_i64] <;> omega
  have hgt : r < q := by omega
  clear h hr hu hu0 hr0 hfull hz hq ho
  go_enter Try.func44, Try.ntmps44
  go_wp2_with fail
  refine HO.out.mono ?_
  rintro e w1 ⟨rfl, rfl⟩
  go_upto_region 4 with fail
  go_quiet ((go_at_call 53; exact Calls.quiet_of (HU.out _)))
  go_wp2
  go_ret
  exact ⟨rfl, _, rfl⟩

/-- What comes behind a piece that has room: the write of power, and the cut. -/
theorem wpiece_room (w : World) (gt gp : Nat) (s : Pw) (t : Tst) (F : List Nat) (h : Tap w gt gp s t F) (a : Option Addr) (n c : Nat) (l : List Nat) (hrd : Rd w a n l) (hoff : 0 < n → ∀ b o, a = some ⟨b, o, none⟩ → b ∉ gp :: F) (hnc : n ≤ c) (ho : s.on = true) (hok : s.ok) (hn : n ≤ 200) (hfit : t.used + (4 + n) ≤ t.room) :
    Calls Try.prog 44 #[.pointer (some ⟨gt, 0, none⟩), .slice a n c] w fun e w' => e = .returned (.int .i64 ((Tst.write s t l).2.2 : Int)) ∧ ∃ F', Tap w' gt gp (Tst.write s t l).1 (Tst.write s t l).2.1 F' ∧ Save (gp :: F) w w' ∧ ∀ k ∈ F', k ∈ F ∨ w.heap.size ≤ k := by
  have hln := hrd.1
  have hW0 : Tst.write s t l = if (s.write ((4 + n : Nat) : Int)).2.2 = 0 then
      if (t.pos : Int) ∈ t.nw then ((s.write ((4 + n : Nat) : Int)).1, t.cut, 8)
      else ((s.write ((4 + n : Nat) : Int)).1, { t.cut.add l with pos := t.pos + 1 }, 0)
    else if 4 < (s.write ((4 + n : Nat) : Int)).2.1 then ((s.write ((4 + n : Nat) : Int)).1, t.cut.add (l.take ((s.write ((4 + n : Nat) : Int)).2.1.toNat - 4)), 11)
    else ((s.write ((4 + n : Nat) : Int)).1, t.cut, 11) := by
    unfold Tst.write
    rw [hln, if_neg (by simp [ho]), if_neg (by omega)]
  have HU : Hid (∀ m, _) := Lib.hid fun m => used_any (w.drewN m) gt gp s t F (h.drewN m)
  have HT := Lib.hid h
  obtain ⟨v, X, bW, bR, h⟩ := h
  have HO := Lib.hid (on_any w gp s h.pow)
  rw [ho] at HO
  have c0 := h.cells.1
  have c1 := h.cells.2.1
  have hr := h.roomle
  have hu := h.used_le
  have hpl := h.pos_le
  have hps := h.pos_small
  have hgpF := h.fp
  have HFT := Lib.hid h.ft
  obtain ⟨u, hu0⟩ : ∃ u, u = t.used := ⟨_, rfl⟩
  obtain ⟨r, hr0⟩ : ∃ r, r = t.room := ⟨_, rfl⟩
  rw [← hu0] at HU hfit hu
  rw [← hr0] at c1 hfit hr hu
  obtain ⟨z, hz⟩ : ∃ z, z = 4 + n := ⟨_, rfl⟩
  have hw1 : IntKind.i64.wrap (4 + (n : Int)) = (z : Int) := by rw [IntKind.wrap_i64] <;> omega
  obtain ⟨q, hq⟩ : ∃ q, q = u + z := ⟨_, rfl⟩
  have hw2 : IntKind.i64.wrap ((u : Int) + (z : Int)) = (q : Int) := by rw [IntKind.wrap_i64] <;> omega
  have hd : decide (r < q) = false := by simp; omega
  have hle : q ≤ r := by omega
  rw [← hz] at hW0
  have HWR : Hid (∀ W, Pow W gp s → _) := Lib.hid fun W hW => write_any W gp s (z : Int) hW hok
  have hwc := write_cases ho z
  obtain ⟨s', hs'⟩ : ∃ s', s' = (s.write (z : Int)).1 := ⟨_, rfl⟩
  rw [← hs'] at HWR hW0
  have HCUT : Hid (∀ m, Calls Try.prog 55 #[.pointer (some ⟨gt, 0, none⟩)] (put (w.drewN m) gp (powObj s')) fun e w' => e = .returned (.tuple #[]) ∧ Hid (Tap w' gt gp s' t.cut F ∧ Save (gp :: F) w w')) := by
    refine Lib.hid fun m => ?_
    have hT2 : Tap (put (w.drewN m) gp (powObj s')) gt gp s' t F := by
      obtain ⟨v, X, bW, bR, h⟩ := HT.out.drewN m
      exact ⟨v, X, bW, bR, h.setPow s'⟩
    refine (cut_any _ gt gp s' t F hT2).mono ?_
    rintro e w' ⟨rfl, h1, h2⟩
    refine ⟨rfl, Lib.hid ⟨h1, ?_⟩⟩
    exact (((Save.refl (gp :: F) w).drewN m).put (by simp) _).trans (h2.mono (fun k hk => by simp [hk]))
  have hcp := Tst.cut_pos hpl
  have hcu : usedOf t.cut.P = u := by rw [hu0]; rfl
  have HN := Lib.hid (And.intro hu0 (And.intro hr0 (And.intro hz (And.intro hq (And.intro hfit (And.intro hcp (And.intro hcu (And.intro hgpF hpl))))))))
  have HRD := Lib.hid (And.intro hrd hoff)
  clear h hr hu hu0 hr0 hq ho hok hcp hcu hgpF hfit hoff hrd hs'
  rcases hwc with ⟨hE, hM⟩ | ⟨k, hk, hK, hE⟩
  · rw [if_pos hE] at hW0
    rw [hE, hM] at HWR
    obtain ⟨p, hp⟩ : ∃ p, p = t.pos := ⟨_, rfl⟩
    have hwf : (Lit.int .i64 (p : Int)).wf = true := WalkArith.wf_i64 (by omega)
    rw [← hp] at hW0
    have HHAS : Hid (∀ W b, SetM W b t.nw → _) := Lib.hid fun W b hb => has_any W b t.nw (p : Int) hwf hb
    have HP := Lib.hid hp
    by_cases hin : (p : Int) ∈ t.nw
    · rw [if_pos hin] at hW0
      rw [decide_eq_true hin] at HHAS
      rw [hW0]
      clear hW0 hM hE hln hz hn hps hpl hnc hp hwf hin
      go_enter Try.func44, Try.ntmps44
      go_wp2_with fail
      refine HO.out.mono ?_
      rintro e w1 ⟨rfl, rfl⟩
      go_upto_region 4 with fail
      go_quiet ((go_at_call 53; exact Calls.quiet_of (HU.out _)))
      go_wp2_with fail
      refine (HWR.out _ ?_).mono ?_
      · exact (HT.out.drewN nq).elim fun _ h => h.elim fun _ h => h.elim fun _ h => h.elim fun _ h => h.pow
      rintro e w2 ⟨rfl, rfl⟩
      go_wp2_with fail
      refine (HCUT.out nq).mono ?_
      rintro e w3 ⟨rfl, H3⟩
      obtain ⟨v3, X3, b3, r3, h3⟩ := H3.out.1
      obtain ⟨_, _, _, e3, _, _, e6⟩ := h3.cells
      have e6' : w3.cell? ⟨gt, 6, none⟩ = some (.int .i64 (p : Int)) := by rw [HP.out]; exact e6
      have H33 := Lib.hid h3
      clear e6 h3 c0 c1
      go_upto_region 12 with fail
      go_region_held3 (fun W => W.cell? ⟨gt, 3, none⟩ = some (.map (some b3)) ∧ W.cell? ⟨gt, 6, none⟩ = some (.int .i64 (p : Int)))
        (first | exact ⟨e3, e6'⟩ | exact ⟨Lib.cell?_alloc_some _ e3, Lib.cell?_alloc_some _ e6'⟩ | go_keep)
        (first
          | (go_at_call 45; refine (HHAS.out _ _ ?_).mono ?_; exact H33.out.mw; rintro e w4 ⟨rfl, rfl⟩))
      go_wp2
      go_ret
      refine ⟨rfl, F, H3.out.1.later ?_, H3.out.2.trans (Save.of_below ?_ _), fun k hk => .inl hk⟩
      · exact (Below.refl _ _).drew.alloc (Nat.le_refl _) _
      · exact (Below.refl _ _).drew.alloc (Nat.le_refl _) _
    · rw [if_neg hin] at hW0
      rw [decide_eq_false hin] at HHAS
      rw [hW0]
      have HADD : Hid (∀ W, Tap W gt gp s' t.cut F → Save (gp :: F) w W → Calls Try.prog 56 #[.pointer (some ⟨gt, 0, none⟩), .slice a n c] W fun e w' => e = .returned (.tuple #[]) ∧ ∃ v X bW bR, w'.cell? ⟨gt, 6, none⟩ = some (.int .i64 (p : Int)) ∧ w'.frozen? ⟨gt, 6, none⟩ = false ∧ Hid (∃ F', Tp w' gt gp s' (t.cut.add l) F' v X bW bR ∧ Save (gp :: F) w w' ∧ ∀ k ∈ F', k ∈ F ∨ w.heap.size ≤ k)) := by
        refine Lib.hid fun W hT hS => ?_
        obtain ⟨hu0, hr0, hz, hq, hfit, hcp, hcu, hgpF, hpl⟩ := HN.out
        have hroom : t.cut.room = r := by rw [hr0]; rfl
        refine (add_any W gt gp s' t.cut F hT hcp a n c l (HRD.out.1.off hS HRD.out.2) (by rw [hcu, hroom]; omega) (by omega)).mono ?_
        rintro e w' ⟨rfl, F', ⟨v, X, bW, bR, h1⟩, h2, h3⟩
        refine ⟨rfl, v, X, bW, bR, ?_, h1.soft 6, Lib.hid ⟨F', h1, hS.trans (h2.mono (fun k hk => by simp [hk])), fun k hk => (h3 k hk).imp id (fun h => Nat.le_trans hS.size h)⟩⟩
        rw [HP.out]
        exact h1.cells.2.2.2.2.2.2
      have hw5 : IntKind.i64.wrap ((p : Int) + 1) = ((p + 1 : Nat) : Int) := by rw [IntKind.wrap_i64] <;> omega
      obtain ⟨p1, hp1⟩ : ∃ p1, p1 = p + 1 := ⟨_, rfl⟩
      rw [← hp1] at hw5 ⊢
      have HP1 := Lib.hid hp1
      clear hW0 hM hE hln hz hn hps hpl hnc hp hwf hin hp1
      go_enter Try.func44, Try.ntmps44
      go_wp2_with fail
      refine HO.out.mono ?_
      rintro e w1 ⟨rfl, rfl⟩
      go_upto_region 4 with fail
      go_quiet ((go_at_call 53; exact Calls.quiet_of (HU.out _)))
      go_wp2_with fail
      refine (HWR.out _ ?_).mono ?_
      · exact (HT.out.drewN nq).elim fun _ h => h.elim fun _ h => h.elim fun _ h => h.elim fun _ h => h.pow
      rintro e w2 ⟨rfl, rfl⟩
      go_wp2_with fail
      refine (HCUT.out nq).mono ?_
      rintro e w3 ⟨rfl, H3⟩
      obtain ⟨v3, X3, b3, r3, h3⟩ := H3.out.1
      obtain ⟨_, _, _, e3, _, _, e6⟩ := h3.cells
      have e6' : w3.cell? ⟨gt, 6, none⟩ = some (.int .i64 (p : Int)) := by rw [HP.out]; exact e6
      have H33 := Lib.hid h3
      clear e6 h3 c0 c1
      go_upto_region 12 with fail
      go_region_held3 (fun W => W.cell? ⟨gt, 3, none⟩ = some (.map (some b3)) ∧ W.cell? ⟨gt, 6, none⟩ = some (.int .i64 (p : Int)))
        (first | exact ⟨e3, e6'⟩ | exact ⟨Lib.cell?_alloc_some _ e3, Lib.cell?_alloc_some _ e6'⟩ | go_keep)
        (first
          | (go_at_call 45; refine (HHAS.out _ _ ?_).mono ?_; exact H33.out.mw; rintro e w4 ⟨rfl, rfl⟩))
      go_wp2_with fail
      refine (HADD.out _ ?_ ?_).mono ?_
      · exact H3.out.1.later ((Below.refl _ _).drew.alloc (Nat.le_refl _) _)
      · exact H3.out.2.trans (Save.of_below ((Below.refl _ _).drew.alloc (Nat.le_refl _) _) _)
      rintro e w5 ⟨rfl, v5, X5, b5, r5, k6, f6, H5⟩
      clear e3 e6'
      go_wp2
      go_ret
      refine ⟨rfl, ?_⟩
      obtain ⟨F', h1, h2, h3⟩ := H5.out
      refine ⟨F', ⟨v5, X5, b5, r5, ?_⟩, h2.trans ?_, h3⟩
      · exact h1.setPos p1 (by
          have h6 := HN.out.2.2.2.2.2.1
          have h7 : t.cut.pos = t.pos := rfl
          simp only [Tst.add, List.length_append, List.length_singleton]
          rw [HP1.out, HP.out]
          omega)
      · exact (Save.set w5 gt 6 _).mono (fun k hk => by simp only [List.mem_singleton] at hk; rw [hk]; simp [HFT.out])
  · rw [if_neg (by rw [hE]; decide), hK] at hW0
    rw [hE, hK] at HWR
    by_cases hk4 : 4 < k
    · rw [if_pos (by omega)] at hW0
      rw [hW0]
      obtain ⟨j, hj⟩ : ∃ j, j = k - 4 := ⟨_, rfl⟩
      have hw3 : IntKind.i64.wrap ((k : Int) - 4) = (j : Int) := by rw [IntKind.wrap_i64] <;> omega
      have hsl := slice_to a n c j .i64 (by omega)
      have e0 : ((k : Int).toNat - 4) = j := by omega
      rw [e0]
      have hd4 : decide ((4 : Int) < (k : Int)) = true := by simp; omega
      have hk44 : 4 < k := hk4
      have HADD : Hid (∀ W, Tap W gt gp s' t.cut F → Save (gp :: F) w W → Calls Try.prog 56 #[.pointer (some ⟨gt, 0, none⟩), .slice a j c] W fun e w' => e = .returned (.tuple #[]) ∧ Hid (∃ F', Tap w' gt gp s' (t.cut.add (l.take j)) F' ∧ Save (gp :: F) w w' ∧ ∀ k ∈ F', k ∈ F ∨ w.heap.size ≤ k)) := by
        have hj2 : j ≤ n := by omega
        refine Lib.hid fun W hT hS => ?_
        obtain ⟨hu0, hr0, hz, hq, hfit, hcp, hcu, hgpF, hpl⟩ := HN.out
        have hroom : t.cut.room = r := by rw [hr0]; rfl
        refine (add_any W gt gp s' t.cut F hT hcp a j c (l.take j) ((HRD.out.1.off hS HRD.out.2).first hj2) (by rw [hcu, hroom]; omega) (by omega)).mono ?_
        rintro e w' ⟨rfl, F', h1, h2, h3⟩
        refine ⟨rfl, Lib.hid ⟨F', h1, hS.trans (h2.mono (fun k hk => by simp [hk])), fun k hk => (h3 k hk).imp id (fun h => Nat.le_trans hS.size h)⟩⟩
      clear hW0 hk hK hE hln hz hn hps hpl hj e0 hk4 hnc
      go_enter Try.func44, Try.ntmps44
      go_wp2_with fail
      refine HO.out.mono ?_
      rintro e w1 ⟨rfl, rfl⟩
      go_upto_region 4 with fail
      go_quiet ((go_at_call 53; exact Calls.quiet_of (HU.out _)))
      go_wp2_with fail
      refine (HWR.out _ ?_).mono ?_
      · exact (HT.out.drewN nq).elim fun _ h => h.elim fun _ h => h.elim fun _ h => h.elim fun _ h => h.pow
      rintro e w2 ⟨rfl, rfl⟩
      go_wp2_with fail
      refine (HCUT.out nq).mono ?_
      rintro e w3 ⟨rfl, H3⟩
      go_wp2_with fail
      refine (HADD.out _ H3.out.1 H3.out.2).mono ?_
      rintro e w4 ⟨rfl, H4⟩
      go_wp2
      go_ret
      exact ⟨rfl, H4.out⟩
    · rw [if_neg (by omega)] at hW0
      rw [hW0]
      have hk44 : k ≤ 4 := by omega
      clear hW0 hk hK hE hln hz hn hps hpl hk4 hnc
      go_enter Try.func44, Try.ntmps44
      go_wp2_with fail
      refine HO.out.mono ?_
      rintro e w1 ⟨rfl, rfl⟩
      go_upto_region 4 with fail
      go_quiet ((go_at_call 53; exact Calls.quiet_of (HU.out _)))
      go_wp2_with fail
      refine (HWR.out _ ?_).mono ?_
      · exact (HT.out.drewN nq).elim fun _ h => h.elim fun _ h => h.elim fun _ h => h.elim fun _ h => h.pow
      rintro e w2 ⟨rfl, rfl⟩
      go_wp2_with fail
      refine (HCUT.out nq).mono ?_
      rintro e w3 ⟨rfl, H3⟩
      go_wp2
      go_ret
      exact ⟨rfl, F, H3.out.1, H3.out.2, fun k hk => .inl hk⟩

end Go.Proofs.Ytkfnjekeegebaaa
