/- The contracts of a tape's Get and Skip. -/
import Derived.Test.YtkfnjekeegebaaaTapeRead
namespace Go.Proofs.Ytkfnjekeegebaaa
open Go.RowKit
set_option linter.unusedSimpArgs false

/-- Get: the tape behind it, the bytes, the error. -/
def Tst.get (s : Pw) (t : Tst) : Tst × List Nat × Nat :=
  if s.on = false then (t, [], 11) else if t.pos = t.P.length then (t, [], 6) else if (t.pos : Int) ∈ t.nr then (t, [], 8) else
  if (t.P.getD t.pos []).length = 0 then ({ t with pos := t.pos + 1 }, [], 10) else ({ t with pos := t.pos + 1 }, t.P.getD t.pos [], 0)

theorem Tp.at_ {w : World} {gt gp : Nat} {s : Pw} {t : Tst} {F : List Nat} {v : Value} {X : List PC} {bW bR : Nat} (h : Tp w gt gp s t F v X bW bR) (i : Nat) (hi : i < t.P.length) :
    ∃ g c a m d e, v = .slice (some ⟨g, 0, none⟩) t.P.length c ∧ w.cell? ⟨g, i * 2, none⟩ = some (.slice a m d) ∧ w.cell? ⟨g, i * 2 + 1, none⟩ = some (.int .i64 (e : Int)) ∧ Rd w a m (t.P.getD i []) ∧ m ≤ d ∧ (0 < m → ∀ b o, a = some ⟨b, o, none⟩ → b ≠ gt) := by
  obtain ⟨g, c, hv, h1, h2⟩ := h.piece i hi
  have hX : i < X.length := by rw [h.len]; exact hi
  have hm : X.getD i PC.none ∈ X := by simp [List.getD, hX]
  obtain ⟨h3, h4, h5⟩ := h.pcs _ hm
  have e : t.P.getD i [] = (X.getD i PC.none).l := by
    rw [← h.lst]
    simp [List.getD, hX]
  refine ⟨g, c, _, _, _, _, hv, h1, h2, ?_, h4, fun h0 b o e => (h5 h0 b o e).2.1⟩
  rw [e]
  exact h3

theorem Tp.piece_small {w : World} {gt gp : Nat} {s : Pw} {t : Tst} {F : List Nat} {v : Value} {X : List PC} {bW bR : Nat} (h : Tp w gt gp s t F v X bW bR) (i : Nat) (hi : i < t.P.length) : 4 + (t.P.getD i []).length ≤ t.room := by
  have h1 := usedOf_take_le t.P (i + 1)
  rw [take_snoc t.P [] hi, usedOf_snoc] at h1
  have := h.fits
  omega

set_option maxHeartbeats 1000000 in
theorem get_any (w : World) (gt gp : Nat) (s : Pw) (t : Tst) (F : List Nat) (h : Tap w gt gp s t F) (hroom : t.room ≤ 1000000) :
    Calls Try.prog 34 #[.pointer (some ⟨gt, 0, none⟩)] w fun e w' => ∃ v, e = .returned (.tuple #[v, .int .i64 ((Tst.get s t).2.2 : Int)]) ∧ Own w' w.heap.size v (Tst.get s t).2.1 ∧ Tap w' gt gp s (Tst.get s t).1 F ∧ Save F w w' := by
  have HT := Lib.hid h
  obtain ⟨v, X, bW, bR, h⟩ := h
  have HH := Lib.hid h
  have HO := Lib.hid (on_any w gp s h.pow)
  obtain ⟨c0, _, _, _, c4, c5, c6⟩ := h.cells
  have f6 := h.soft 6
  have hps := h.pos_small
  have hpl := h.pos_le
  by_cases ho' : s.on = false
  · have e : Tst.get s t = (t, [], 11) := by unfold Tst.get; rw [if_pos ho']
    rw [e]
    rw [ho'] at HO
    clear h e ho' HH c4 c5 c6
    go_enter Try.func34, Try.ntmps34
    go_wp2_with fail
    refine HO.out.mono ?_
    rintro e w1 ⟨rfl, rfl⟩
    go_wp2
    go_ret2
    exact ⟨_, rfl, Own.nil _ _, HT.out, Save.refl _ _⟩
  have ho : s.on = true := by simpa using ho'
  clear ho'
  rw [ho] at HO
  by_cases hend : t.pos = t.P.length
  · have e : Tst.get s t = (t, [], 6) := by unfold Tst.get; rw [if_neg (by simp [ho]), if_pos hend]
    rw [e]
    obtain ⟨a, c, rfl, _⟩ := h.shape
    obtain ⟨n, hn⟩ : ∃ n, n = t.P.length := ⟨_, rfl⟩
    rw [hend] at c6
    rw [← hn] at c5 c6
    clear h e ho HH c4 hn hend hpl
    go_enter Try.func34, Try.ntmps34
    go_wp2_with fail
    refine HO.out.mono ?_
    rintro e w1 ⟨rfl, rfl⟩
    go_upto_region 5 with fail
    go_quiet (fail)
    go_wp2
    go_ret2
    exact ⟨_, rfl, Own.nil _ _, HT.out.drewN _, (Save.refl _ _).drewN _⟩
  have hlt : t.pos < t.P.length := Nat.lt_of_le_of_ne hpl hend
  obtain ⟨g, c, a, m, d, y, rfl, k1, k2, k3, k4, k5⟩ := h.at_ t.pos hlt
  have HNE := Lib.hid k5
  clear k5
  have hsm := h.piece_small t.pos hlt
  have hlm := k3.1
  obtain ⟨l, hl⟩ : ∃ l, l = t.P.getD t.pos [] := ⟨_, rfl⟩
  rw [← hl] at k3 hsm hlm
  obtain ⟨n, hn⟩ : ∃ n, n = t.P.length := ⟨_, rfl⟩
  obtain ⟨p, hp⟩ : ∃ p, p = t.pos := ⟨_, rfl⟩
  rw [← hn] at c5 hps
  rw [← hp] at c6 k1 k2
  have hpn : p < n := by omega
  have hne : ((p : Int) == (n : Int)) = false := by simp; omega
  have hwf : (Lit.int .i64 (p : Int)).wf = true := WalkArith.wf_i64 (by omega)
  have HHAS : Hid (∀ W, Save [] w W → Calls Try.prog 45 #[.map (some bR), .int .i64 (p : Int)] W fun e w' => e = .returned (.bool (decide ((p : Int) ∈ t.nr))) ∧ (w'.cell? ⟨gt, 4, none⟩ = some (.map (some bR)) ∧ w'.cell? ⟨gt, 6, none⟩ = some (.int .i64 (p : Int))) ∧ Hid (Save [] w w')) := by
    refine Lib.hid fun W hW => (has_any W bR t.nr (p : Int) hwf (h.save hW (by simp) (by simp)).mr).mono ?_
    rintro e w' ⟨rfl, rfl⟩
    have hx := h.save (hW.alloc (.cells #[] 96)) (by simp) (by simp)
    exact ⟨rfl, ⟨hx.cells.2.2.2.2.1, by rw [hp]; exact hx.cells.2.2.2.2.2.2⟩, Lib.hid (hW.alloc _)⟩
  have hrn : g ≠ gt := fun e => h.row_ne.1 (by rw [e]; rfl)
  by_cases hin : (p : Int) ∈ t.nr
  · have e : Tst.get s t = (t, [], 8) := by unfold Tst.get; rw [if_neg (by simp [ho]), if_neg hend, if_pos (by rw [← hp]; exact hin)]
    rw [e]
    rw [decide_eq_true hin] at HHAS
    clear h e ho HH hn hend hpl hl hp hsm hlm k1 k2 k3 k4 hwf hin hlt
    go_enter Try.func34, Try.ntmps34
    go_wp2_with fail
    refine HO.out.mono ?_
    rintro e w1 ⟨rfl, rfl⟩
    go_upto_region 5 with fail
    go_quiet (fail)
    go_upto_region 7 with fail
    go_region_held3 (fun W => W.cell? ⟨gt, 4, none⟩ = some (.map (some bR)) ∧ W.cell? ⟨gt, 6, none⟩ = some (.int .i64 (p : Int)))
      (first | exact ⟨c4, c6⟩ | exact hk4 | go_keep)
      (first
        | (go_at_call 45; refine (HHAS.out _ ?_).mono ?_; exact ((Save.refl _ _).drewN _).drew; rintro e w4 ⟨rfl, hk4, HS4⟩))
    go_wp2
    go_ret2
    exact ⟨_, rfl, Own.nil _ _, HT.out.save HS4.out (by simp) (by simp), HS4.out.mono (by simp)⟩
  have hG : Tst.get s t = if l.length = 0 then ({ t with pos := t.pos + 1 }, [], 10) else ({ t with pos := t.pos + 1 }, l, 0) := by
    unfold Tst.get
    rw [if_neg (by simp [ho]), if_neg hend, if_neg (by rw [← hp]; exact hin), ← hl]
  rw [decide_eq_false hin] at HHAS
  have hw5 : IntKind.i64.wrap ((p : Int) + 1) = ((p + 1 : Nat) : Int) := by rw [IntKind.wrap_i64] <;> omega
  obtain ⟨p1, hp1⟩ : ∃ p1, p1 = t.pos + 1 := ⟨_, rfl⟩
  rw [← hp1] at hG
  have ep1 : p + 1 = p1 := by omega
  rw [ep1] at hw5
  have HP1 := Lib.hid (show p1 ≤ t.P.length by omega)
  have HK : Hid (∀ W, Save [] w W → W.cell? ⟨gt, 5, none⟩ = some (.slice (some ⟨g, 0, none⟩) n c) ∧ W.cell? ⟨gt, 6, none⟩ = some (.int .i64 (p : Int)) ∧ W.frozen? ⟨gt, 6, none⟩ = false ∧ W.cell? ⟨g, p * 2, none⟩ = some (.slice a m d) ∧ W.cell? ⟨g, p * 2 + 1, none⟩ = some (.int .i64 (y : Int)) ∧ Rd W a m l) := by
    refine Lib.hid fun W hW => ?_
    have hx := h.save hW (by simp) (by simp)
    have hglt : g < w.heap.size := World.block_lt_of_cell? w _ k1
    have hgb := hW.block g hglt (by simp)
    refine ⟨by rw [hn]; exact hx.cells.2.2.2.2.2.1, by rw [hp]; exact hx.cells.2.2.2.2.2.2, hx.soft 6, ?_, ?_, k3.save hW (by simp)⟩
    · rw [← k1]; simp only [World.cell?, hgb]
    · rw [← k2]; simp only [World.cell?, hgb]
  have HCL : Hid (∀ W, Rd W a m l → _) := Lib.hid fun W hW => clone_any a m d l W hW (by omega)
  have HG := Lib.hid hG
  have HLM := Lib.hid hlm
  clear h hG ho hn hend hpl hl hp hsm hlm k1 k2 k3 k4 hwf hin hlt hp1 ep1
  go_enter Try.func34, Try.ntmps34
  go_wp2_with fail
  refine HO.out.mono ?_
  rintro e w1 ⟨rfl, rfl⟩
  go_upto_region 5 with fail
  go_quiet (fail)
  go_upto_region 7 with fail
  go_region_held3 (fun W => W.cell? ⟨gt, 4, none⟩ = some (.map (some bR)) ∧ W.cell? ⟨gt, 6, none⟩ = some (.int .i64 (p : Int)))
    (first | exact ⟨c4, c6⟩ | exact hk4 | go_keep)
    (first
      | (go_at_call 45; refine (HHAS.out _ ?_).mono ?_; exact ((Save.refl _ _).drewN _).drew; rintro e w4 ⟨rfl, hk4, HS4⟩))
  clear c0 c4 c5 c6 f6 hk4
  obtain ⟨c5, c6, f6, k1, k2, k3⟩ := HK.out w4 HS4.out
  clear k3
  have q5 := fun o => Lib.cell?_alloc_some (W := w4) o c5
  have q6 := fun o => Lib.cell?_alloc_some (W := w4) o c6
  have q1 := fun o => Lib.cell?_alloc_some (W := w4) o k1
  have q2 := fun o => Lib.cell?_alloc_some (W := w4) o k2
  go_upto_region 9 with fail
  go_region
  obtain ⟨w5, h5⟩ : ∃ w5, w5 = (w4.alloc (.cells #[.slice a m d, .int .i64 (y : Int)] 99)).drew := ⟨_, rfl⟩
  obtain ⟨gq, hgq⟩ : ∃ gq, gq = w4.heap.size := ⟨_, rfl⟩
  rw [← h5, ← hgq]
  have HS5 : Hid (Save [] w1 w5) := by rw [h5]; exact Lib.hid ((HS4.out.alloc _).drew)
  have hob : w5.heap[gq]? = some (.cells #[.slice a m d, .int .i64 (y : Int)] 99 (0, 0)) := by rw [h5, hgq]; exact heap_alloc_new w4 _
  have j0 : w5.cell? ⟨gq, 0, none⟩ = some (.slice a m d) := by rw [cell_of_row w5 gq _ _ 99 (0, 0) hob]; rfl
  have j1 : w5.cell? ⟨gq, 1, none⟩ = some (.int .i64 (y : Int)) := by rw [cell_of_row w5 gq _ _ 99 (0, 0) hob]; rfl
  have hgg : gq ≠ gt := by
    have h1 := lt_of_block HH.out.obj
    have h2 := HS4.out.size
    omega
  have HSZ := Lib.hid (show w1.heap.size ≤ gq by rw [hgq]; exact HS4.out.size)
  clear h5 hob q5 q6 q1 q2 c5 c6 f6 k1 k2 hgq
  obtain ⟨c5, c6, f6, k1, k2, k3⟩ := HK.out w5 HS5.out
  have HK5 := Lib.hid k3
  have HT6 : Hid (Tap (w5.setCell ⟨gt, 6, none⟩ (.int .i64 (p1 : Int))) gt gp s { t with pos := p1 } F) := Lib.hid ⟨_, X, bW, bR, (HH.out.save HS5.out (by simp) (by simp)).setPos p1 HP1.out⟩
  have HS6 : Hid (Save F w1 (w5.setCell ⟨gt, 6, none⟩ (.int .i64 (p1 : Int)))) := Lib.hid ((HS5.out.mono (by simp)).trans ((Save.set w5 gt 6 _).mono (fun k hk => by simp only [List.mem_singleton] at hk; rw [hk]; exact HH.out.ft)))
  have HR6 : Hid (Rd (w5.setCell ⟨gt, 6, none⟩ (.int .i64 (p1 : Int))) a m l) := by
    refine Lib.hid ?_
    refine ⟨HK5.out.1, HK5.out.2.1, fun h0 => ?_⟩
    obtain ⟨b, o, e, hc⟩ := HK5.out.2.2 h0
    refine ⟨b, o, e, fun j hj => ?_⟩
    rw [← hc j hj]
    have hne : b ≠ gt := HNE.out h0 b o e
    simp only [World.cell?, Below.heap_setCell w5 ⟨gt, 6, none⟩ _ b hne]
  clear k3 c5 k1 k2 HK
  have HM : Hid (∀ W, _) := Lib.hid fun W => isMark_any W a m d (y : Int)
  by_cases hm : m = 0
  · have hmb : (m == 0) = true := by simp [hm]
    rw [hmb] at HM
    have HM0 := Lib.hid hm
    clear hmb hm
    go_wp2_with fail
    refine (HM.out _).mono ?_
    rintro e w7 ⟨rfl, rfl⟩
    go_wp2
    go_ret2
    have e := HG.out
    rw [if_pos (by rw [HLM.out]; exact HM0.out)] at e
    rw [e]
    exact ⟨_, rfl, Own.nil _ _, HT6.out.later (Below.alloc0 _ _), HS6.out.alloc _⟩
  · have hmb : (m == 0) = false := by simp [hm]
    rw [hmb] at HM
    have HM0 := Lib.hid hm
    clear hmb hm
    go_wp2_with fail
    refine (HM.out _).mono ?_
    rintro e w7 ⟨rfl, rfl⟩
    have hi0 : ∀ o, ((w5.setCell ⟨gt, 6, none⟩ (.int .i64 (p1 : Int))).alloc o).cell? ⟨gq, 0, none⟩ = some (.slice a m d) := by
      intro o
      refine Lib.cell?_alloc_some _ ?_
      rw [← j0]
      simp only [World.cell?, Below.heap_setCell w5 ⟨gt, 6, none⟩ _ gq hgg]
    go_wp2_with fail
    refine (HCL.out _ (HR6.out.later (Below.alloc0 _ _))).mono ?_
    rintro e w8 ⟨v, rfl, hv, hb⟩
    have H8 := Lib.hid (And.intro hv hb)
    clear hv hb
    go_wp2
    go_ret2
    have e := HG.out
    rw [if_neg (by rw [HLM.out]; exact HM0.out)] at e
    rw [e]
    obtain ⟨hv, hb⟩ := H8.out
    have hsz : w1.heap.size ≤ ((w5.setCell ⟨gt, 6, none⟩ (.int .i64 (p1 : Int))).alloc (.cells #[.slice a m d, .int .i64 (y : Int)] 99)).heap.size := (HS6.out.alloc _).size
    refine ⟨v, rfl, ?_, (HT6.out.later (Below.alloc0 _ _)).later hb, (HS6.out.alloc _).trans (Save.of_below hb _)⟩
    refine ⟨hv.1, hv.2.1, hv.2.2.imp id ?_⟩
    rintro ⟨g', cap, cur, e1, h2, rest⟩
    exact ⟨g', cap, cur, e1, Nat.le_trans hsz h2, rest⟩

end Go.Proofs.Ytkfnjekeegebaaa
