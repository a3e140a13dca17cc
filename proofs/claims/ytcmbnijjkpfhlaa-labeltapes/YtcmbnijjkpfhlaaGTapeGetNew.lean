/- The contracts of a tape's Get and Skip. -/
import Derived.Test.YtcmbnijjkpfhlaaGTapeCutToTapeRead
namespace Go.Proofs.Ytcmbnijjkpfhlaa
open Go.RowKit
set_option linter.unusedSimpArgs false

/-- Get: the tape behind it, the bytes, the error. -/
def Tst.get (s : Pw) (t : Tst) : Tst × List Nat × Nat :=
  if s.on = false then (t, [], 11) else if t.pos = t.P.length then (t, [], 6) else if (t.pos : Int) ∈ t.nr then (t, [], 8) else
  if (t.P.getD t.pos []).length = 0 then ({ t with pos := t.pos + 1 }, [], 10) else ({ t with pos := t.pos + 1 }, t.P.getD t.pos [], 0)

theorem Tp.at_ {w : World} {gt gp : Nat} {s : Pw} {t : Tst} {F : List Nat} {v : Value} {X : List PC} {bW bR : Nat} (h : Tp w gt gp s t F v X bW bR) (i : Nat) (hi : i < t.P.length) :
    ∃ g c a m d e, v = .slice (some ⟨g, 0, none⟩) t.P.length c ∧ w.cell? ⟨g, i * 2, none⟩ = some (.slice a m d) ∧ w.cell? ⟨g, i * 2 + 1, none⟩ = some (.int .i64 (e : Int)) ∧ Rd w a m (t.P.getD i []) ∧ m ≤ d ∧ (0 < m → ∀ b o, a = some ⟨b, o, none⟩ → b ≠ gt) := by
  obtain ⟨g, c, hv, h1, h2⟩ := h.piece i hi
  have hX : i < X.length := by rw [h.len]; exact hi
  have hm : X.getD i PC.none ∈ X := by simp [List.getD, hX]
  obtain ⟨h3, h4, h5⟩ := h.pcs _ hm
  have e : t.P.getD i [] = (X.getD i PC.none).l := by
    rw [← h.lst]
    simp [List.getD, hX]
  refine ⟨g, c, _, _, _, _, hv, h1, h2, ?_, h4, fun h0 b o e => (h5 h0 b o e).2.1⟩
  rw [e]
  exact h3

theorem Tp.piece_small {w : World} {gt gp : Nat} {s : Pw} {t : Tst} {F : List Nat} {v : Value} {X : List PC} {bW bR : Nat} (h : Tp w gt gp s t F v X bW bR) (i : Nat) (hi : i < t.P.length) : 4 + (t.P.getD i []).length ≤ t.room := by
  have h1 := usedOf_take_le t.P (i + 1)
  rw [take_snoc t.P [] hi, usedOf_snoc] at h1
  have := h.fits
  omega

set_option maxHeartbeats 1000000 in
theorem get_any (w : World) (gt gp : Nat) (s : Pw) (t : Tst) (F : List Nat) (h : Tap w gt gp s t F) (hroom : t.room ≤ 1000000) :
    Calls Try.prog 44 #[.pointer (some ⟨gt, 0, none⟩)] w fun e w' => ∃ v, e = .returned (.tuple #[v, .int .i64 ((Tst.get s t).2.2 : Int)]) ∧ Own w' w.heap.size v (Tst.get s t).2.1 ∧ Tap w' gt gp s (Tst.get s t).1 F ∧ Save F w w' := by
  have HT := Lib.hid h
  obtain ⟨v, X, bW, bR, h⟩ := h
  have HH := Lib.hid h
  have HO := Lib.hid (on_any w gp s h.pow)
  obtain ⟨c0, _, _, _, c4, c5, c6⟩ := h.cells
  have f6 := h.soft 6
  have hps := h.pos_small
  have hpl := h.pos_le
  by_cases ho' : s.on = false
  · have e : Tst.get s t = (t, [], 11) := by unfold Tst.get; rw [if_pos ho']
    rw [e]
    rw [ho'] at HO
    clear h e ho' HH c4 c5 c6
    go_enter Try.func44, Try.ntmps44
    go_wp2_with fail
    refine HO.out.mono ?_
    rintro e w1 ⟨rfl, rfl⟩
    go_wp2
    go_ret2
    exact ⟨_, rfl, Own.nil _ _, HT.out, Save.refl _ _⟩
  have ho : s.on = true := by simpa using ho'
  clear ho'
  rw [ho] at HO
  by_cases hend : t.pos = t.P.length
  · have e : Tst.get s t = (t, [], 6) := by unfold Tst.get; rw [if_neg (by simp [ho]), if_pos hend]
    rw [e]
    obtain ⟨a, c, rfl, _⟩ := h.shape
    obtain ⟨n, hn⟩ : ∃ n, n = t.P.length := ⟨_, rfl⟩
    rw [hend] at c6
    rw [← hn] at c5 c6
    clear h e ho HH c4 hn hend hpl
    go_enter Try.func44, Try.ntmps44
    go_wp2_with fail
    refine HO.out.mono ?_
    rintro e w1 ⟨rfl, rfl⟩
    go_upto_region 5 with fail
    go_quiet (fail)
    go_wp2
    go_ret2
    exact ⟨_, rfl, Own.nil _ _, HT.out.drewN _, (Save.refl _ _).drewN _⟩
  have hlt : t.pos < t.P.length := Nat.lt_of_le_of_ne hpl hend
  obtain ⟨g, c, a, m, d, y, rfl, k1, k2, k3, k4, k5⟩ := h.at_ t.pos hlt
  have HNE := Lib.hid k5
  clear k5
  have hsm := h.piece_small t.pos hlt
  have hlm := k3.1
  obtain ⟨l, hl⟩ : ∃ l, l = t.P.getD t.pos [] := ⟨_, rfl⟩
  rw [← hl] at k3 hsm hlm
  obtain ⟨n, hn⟩ : ∃ n, n = t.P.length := ⟨_, rfl⟩
  obtain ⟨p, hp⟩ : ∃ p, p = t.pos := ⟨_, rfl⟩
  rw [← hn] at c5 hps
  rw [← hp] at c6 k1 k2
  have hpn : p < n := by omega
  have hne : ((p : Int) == (n : Int)) = false := by simp; omega
  have hwf : (Lit.int .i64 (p : Int)).wf = true := WalkArith.wf_i64 (by omega)
  have HHAS : Hid (∀ W, Save [] w W → Calls Try.prog 67 #[.map (some bR), .int .i64 (p : Int)] W fun e w' => e = .returned (.bool (decide ((p : Int) ∈ t.nr))) ∧ (w'.cell? ⟨gt, 4, none⟩ = some (.map (some bR)) ∧ w'.cell? ⟨gt, 6, none⟩ = some (.int .i64 (p : Int))) ∧ Hid (Save [] w w')) := by
    refine Lib.hid fun W hW => (has_any W bR t.nr (p : Int) hwf (h.save hW (by simp) (by simp)).mr).mono ?_
    rintro e w' ⟨rfl, rfl⟩
    have hx := h.save (hW.alloc (.cells #[] 128)) (by simp) (by simp)
    exact ⟨rfl, ⟨hx.cells.2.2.2.2.1, by rw [hp]; exact hx.cells.2.2.2.2.2.2⟩, Lib.hid (hW.alloc _)⟩
  have hrn : g ≠ gt := fun e => h.row_ne.1 (by rw [e]; rfl)
  by_cases hin : (p : Int) ∈ t.nr
  · have e : Tst.get s t = (t, [], 8) := by unfold Tst.get; rw [if_neg (by simp [ho]), if_neg hend, if_pos (by rw [← hp]; exact hin)]
    rw [e]
    rw [decide_eq_true hin] at HHAS
    clear h e ho HH hn hend hpl hl hp hsm hlm k1 k2 k3 k4 hwf hin hlt
    go_enter Try.func44, Try.ntmps44
    go_wp2_with fail
    refine HO.out.mono ?_
    rintro e w1 ⟨rfl, rfl⟩
    go_upto_region 5 with fail
    go_quiet (fail)
    go_upto_region 7 with fail
    go_region_held3 (fun W => W.cell? ⟨gt, 4, none⟩ = some (.map (some bR)) ∧ W.cell? ⟨gt, 6, none⟩ = some (.int .i64 (p : Int)))
      (first | exact ⟨c4, c6⟩ | exact hk4 | go_keep)
      (first
        | (go_at_call 67; refine (HHAS.out _ ?_).mono ?_; exact ((Save.refl _ _).drewN _).drew; rintro e w4 ⟨rfl, hk4, HS4⟩))
    go_wp2
    go_ret2
    exact ⟨_, rfl, Own.nil _ _, HT.out.save HS4.out (by simp) (by simp), HS4.out.mono (by simp)⟩
  have hG : Tst.get s t = if l.length = 0 then ({ t with pos := t.pos + 1 }, [], 10) else ({ t with pos := t.pos + 1 }, l, 0) := by
    unfold Tst.get
    rw [if_neg (by simp [ho]), if_neg hend, if_neg (by rw [← hp]; exact hin), ← hl]
  rw [decide_eq_false hin] at HHAS
  have hw5 : IntKind.i64.wrap ((p : Int) + 1) = ((p + 1 : Nat) : Int) := by rw [IntKind.wrap_i64] <;> omega
  obtain ⟨p1, hp1⟩ : ∃ p1, p1 = t.pos + 1 := ⟨_, rfl⟩
  rw [← hp1] at hG
  have ep1 : p + 1 = p1 := by omega
  rw [ep1] at hw5
  have HP1 := Lib.hid (show p1 ≤ t.P.length by omega)
  have HK : Hid (∀ W, Save [] w W → W.cell? ⟨gt, 5, none⟩ = some (.slice (some ⟨g, 0, none⟩) n c) ∧ W.cell? ⟨gt, 6, none⟩ = some (.int .i64 (p : Int)) ∧ W.frozen? ⟨gt, 6, none⟩ = false ∧ W.cell? ⟨g, p * 2, none⟩ = some (.slice a m d) ∧ W.cell? ⟨g, p * 2 + 1, none⟩ = some (.int .i64 (y : Int)) ∧ Rd W a m l) := by
    refine Lib.hid fun W hW => ?_
    have hx := h.save hW (by simp) (by simp)
    have hglt : g < w.heap.size := World.block_lt_of_cell? w _ k1
    have hgb := hW.block g hglt (by simp)
    refine ⟨by rw [hn]; exact hx.cells.2.2.2.2.2.1, by rw [hp]; exact hx.cells.2.2.2.2.2.2, hx.soft 6, ?_, ?_, k3.save hW (by simp)⟩
    · rw [← k1]; simp only [World.cell?, hgb]
    · rw [← k2]; simp only [World.cell?, hgb]
  have HCL : Hid (∀ W, Rd W a m l → _) := Lib.hid fun W hW => clone_any a m d l W hW (by omega)
  have HG := Lib.hid hG
  have HLM := Lib.hid hlm
  clear h hG ho hn hend hpl hl hp hsm hlm k1 k2 k3 k4 hwf hin hlt hp1 ep1
  go_enter Try.func44, Try.ntmps44
  go_wp2_with fail
  refine HO.out.mono ?_
  rintro e w1 ⟨rfl, rfl⟩
  go_upto_region 5 with fail
  go_quiet (fail)
  go_upto_region 7 with fail
  go_region_held3 (fun W => W.cell? ⟨gt, 4, none⟩ = some (.map (some bR)) ∧ W.cell? ⟨gt, 6, none⟩ = some (.int .i64 (p : Int)))
    (first | exact ⟨c4, c6⟩ | exact hk4 | go_keep)
    (first
      | (go_at_call 67; refine (HHAS.out _ ?_).mono ?_; exact ((Save.refl _ _).drewN _).drew; rintro e w4 ⟨rfl, hk4, HS4⟩))
  clear c0 c4 c5 c6 f6 hk4
  obtain ⟨c5, c6, f6, k1, k2, k3⟩ := HK.out w4 HS4.out
  clear k3
  have q5 := fun o => Lib.cell?_alloc_some (W := w4) o c5
  have q6 := fun o => Lib.cell?_alloc_some (W := w4) o c6
  have q1 := fun o => Lib.cell?_alloc_some (W := w4) o k1
  have q2 := fun o => Lib.cell?_alloc_some (W := w4) o k2
  go_upto_region 9 with fail
  go_region
  obtain ⟨w5, h5⟩ : ∃ w5, w5 = (w4.alloc (.cells #[.slice a m d, .int .i64 (y : Int)] 122)).drew := ⟨_, rfl⟩
  obtain ⟨gq, hgq⟩ : ∃ gq, gq = w4.heap.size := ⟨_, rfl⟩
  rw [← h5, ← hgq]
  have HS5 : Hid (Save [] w1 w5) := by rw [h5]; exact Lib.hid ((HS4.out.alloc _).drew)
  have hob : w5.heap[gq]? = some (.cells #[.slice a m d, .int .i64 (y : Int)] 122 (0, 0)) := by rw [h5, hgq]; exact heap_alloc_new w4 _
  have j0 : w5.cell? ⟨gq, 0, none⟩ = some (.slice a m d) := by rw [cell_of_row w5 gq _ _ 122 (0, 0) hob]; rfl
  have j1 : w5.cell? ⟨gq, 1, none⟩ = some (.int .i64 (y : Int)) := by rw [cell_of_row w5 gq _ _ 122 (0, 0) hob]; rfl
  have hgg : gq ≠ gt := by
    have h1 := lt_of_block HH.out.obj
    have h2 := HS4.out.size
    omega
  have HSZ := Lib.hid (show w1.heap.size ≤ gq by rw [hgq]; exact HS4.out.size)
  clear h5 hob q5 q6 q1 q2 c5 c6 f6 k1 k2 hgq
  obtain ⟨c5, c6, f6, k1, k2, k3⟩ := HK.out w5 HS5.out
  have HK5 := Lib.hid k3
  have HT6 : Hid (Tap (w5.setCell ⟨gt, 6, none⟩ (.int .i64 (p1 : Int))) gt gp s { t with pos := p1 } F) := Lib.hid ⟨_, X, bW, bR, (HH.out.save HS5.out (by simp) (by simp)).setPos p1 HP1.out⟩
  have HS6 : Hid (Save F w1 (w5.setCell ⟨gt, 6, none⟩ (.int .i64 (p1 : Int)))) := Lib.hid ((HS5.out.mono (by simp)).trans ((Save.set w5 gt 6 _).mono (fun k hk => by simp only [List.mem_singleton] at hk; rw [hk]; exact HH.out.ft)))
  have HR6 : Hid (Rd (w5.setCell ⟨gt, 6, none⟩ (.int .i64 (p1 : Int))) a m l) := by
    refine Lib.hid ?_
    refine ⟨HK5.out.1, HK5.out.2.1, fun h0 => ?_⟩
    obtain ⟨b, o, e, hc⟩ := HK5.out.2.2 h0
    refine ⟨b, o, e, fun j hj => ?_⟩
    rw [← hc j hj]
    have hne : b ≠ gt := HNE.out h0 b o e
    simp only [World.cell?, Below.heap_setCell w5 ⟨gt, 6, none⟩ _ b hne]
  clear k3 c5 k1 k2 HK
  have HM : Hid (∀ W, _) := Lib.hid fun W => isMark_any W a m d (y : Int)
  by_cases hm : m = 0
  · have hmb : (m == 0) = true := by simp [hm]
    rw [hmb] at HM
    have HM0 := Lib.hid hm
    clear hmb hm
    go_wp2_with fail
    refine (HM.out _).mono ?_
    rintro e w7 ⟨rfl, rfl⟩
    go_wp2
    go_ret2
    have e := HG.out
    rw [if_pos (by rw [HLM.out]; exact HM0.out)] at e
    rw [e]
    exact ⟨_, rfl, Own.nil _ _, HT6.out.later (Below.alloc0 _ _), HS6.out.alloc _⟩
  · have hmb : (m == 0) = false := by simp [hm]
    rw [hmb] at HM
    have HM0 := Lib.hid hm
    clear hmb hm
    go_wp2_with fail
    refine (HM.out _).mono ?_
    rintro e w7 ⟨rfl, rfl⟩
    have hi0 : ∀ o, ((w5.setCell ⟨gt, 6, none⟩ (.int .i64 (p1 : Int))).alloc o).cell? ⟨gq, 0, none⟩ = some (.slice a m d) := by
      intro o
      refine Lib.cell?_alloc_some _ ?_
      rw [← j0]
      simp only [World.cell?, Below.heap_setCell w5 ⟨gt, 6, none⟩ _ gq hgg]
    go_wp2_with fail
    refine (HCL.out _ (HR6.out.later (Below.alloc0 _ _))).mono ?_
    rintro e w8 ⟨v, rfl, hv, hb⟩
    have H8 := Lib.hid (And.intro hv hb)
    clear hv hb
    go_wp2
    go_ret2
    have e := HG.out
    rw [if_neg (by rw [HLM.out]; exact HM0.out)] at e
    rw [e]
    obtain ⟨hv, hb⟩ := H8.out
    have hsz : w1.heap.size ≤ ((w5.setCell ⟨gt, 6, none⟩ (.int .i64 (p1 : Int))).alloc (.cells #[.slice a m d, .int .i64 (y : Int)] 122)).heap.size := (HS6.out.alloc _).size
    refine ⟨v, rfl, ?_, (HT6.out.later (Below.alloc0 _ _)).later hb, (HS6.out.alloc _).trans (Save.of_below hb _)⟩
    refine ⟨hv.1, hv.2.1, hv.2.2.imp id ?_⟩
    rintro ⟨g', cap, cur, e1, h2, rest⟩
    exact ⟨g', cap, cur, e1, Nat.le_trans hsz h2, rest⟩

end Go.Proofs.Ytcmbnijjkpfhlaa

/- The contract of a tape's Skip. -/
namespace Go.Proofs.Ytcmbnijjkpfhlaa
open Go.RowKit
set_option linter.unusedSimpArgs false

/-- How many pieces are passed till so many marks are; none: there are fewer. -/
def skipL : List (List Nat) → Nat → Option Nat
  | _, 0 => some 0
  | [], _ + 1 => none
  | l :: r, m + 1 => if l.length = 0 then (skipL r m).map (· + 1) else (skipL r (m + 1)).map (· + 1)

/-- Skip, whatever the number. -/
def Tst.skip (s : Pw) (t : Tst) (z : Int) : Tst × Nat :=
  if z < 0 then (t, 1) else if s.on = false then (t, 11) else
  match skipL (t.P.drop t.pos) z.toNat with
  | none => (t, 6)
  | some k => ({ t with pos := t.pos + k }, 0)

theorem skipL_zero (P : List (List Nat)) : skipL P 0 = some 0 := by cases P <;> rfl

theorem skipL_end (P : List (List Nat)) (i m : Nat) (hi : i = P.length) (hm : 0 < m) : skipL (P.drop i) m = none := by
  rw [List.drop_eq_nil_of_le (by omega)]
  cases m with
  | zero => omega
  | succ m => rfl

theorem skipL_step (P : List (List Nat)) (i m : Nat) (hi : i < P.length) (hm : 0 < m) : skipL (P.drop i) m = (skipL (P.drop (i + 1)) (if (P.getD i []).length = 0 then m - 1 else m)).map (· + 1) := by
  rw [List.drop_eq_getElem_cons hi]
  have e : P.getD i [] = P[i] := by simp [List.getD, hi]
  rw [e]
  cases m with
  | zero => omega
  | succ m =>
    simp only [skipL, Nat.add_sub_cancel]
    split <;> rfl

theorem skipL_le : ∀ (P : List (List Nat)) (m k : Nat), skipL P m = some k → k ≤ P.length
  | _, 0, k, h => by rw [skipL_zero] at h; injection h with h; omega
  | [], m + 1, k, h => by simp [skipL] at h
  | l :: r, m + 1, k, h => by
    simp only [skipL] at h
    split at h
    · rw [Option.map_eq_some_iff] at h
      obtain ⟨j, h1, h2⟩ := h
      have := skipL_le r m j h1
      simp only [List.length_cons]
      omega
    · rw [Option.map_eq_some_iff] at h
      obtain ⟨j, h1, h2⟩ := h
      have := skipL_le r (m + 1) j h1
      simp only [List.length_cons]
      omega

set_option maxHeartbeats 1000000 in
set_option maxRecDepth 100000 in
theorem skip_any (w : World) (gt gp : Nat) (s : Pw) (t : Tst) (F : List Nat) (h : Tap w gt gp s t F) (z : Int) (hzb : z < 9223372036854775808) :
    Calls Try.prog 46 #[.pointer (some ⟨gt, 0, none⟩), .int .i64 z] w fun e w' => e = .returned (.int .i64 ((Tst.skip s t z).2 : Int)) ∧ Tap w' gt gp s (Tst.skip s t z).1 F ∧ Save F w w' := by
  have HT := Lib.hid h
  obtain ⟨v, X, bW, bR, h⟩ := h
  have HH := Lib.hid h
  have HO := Lib.hid (on_any w gp s h.pow)
  have c0 := h.cells.1
  have c6 := h.cells.2.2.2.2.2.2
  have HPS := Lib.hid h.pos_small
  have hpl := h.pos_le
  have HZB : Hid (∃ B : Nat, B = 9223372036854775808 ∧ z < (B : Int)) := Lib.hid ⟨_, rfl, hzb⟩
  clear hzb
  by_cases h0 : z < 0
  · have e : Tst.skip s t z = (t, 1) := by unfold Tst.skip; rw [if_pos h0]
    rw [e]
    clear h e HH HO
    go_enter Try.func46, Try.ntmps46
    go_wp2
    go_ret
    exact ⟨rfl, HT.out, Save.refl _ _⟩
  obtain ⟨M, rfl⟩ : ∃ M : Nat, z = (M : Int) := ⟨z.toNat, by omega⟩
  clear h0
  by_cases ho : s.on = false
  · have e : Tst.skip s t (M : Int) = (t, 11) := by unfold Tst.skip; rw [if_neg (by omega), if_pos ho]
    rw [e]
    rw [ho] at HO
    clear h e HH ho
    go_enter Try.func46, Try.ntmps46
    go_wp2_with fail
    refine HO.out.mono ?_
    rintro e w1 ⟨rfl, rfl⟩
    go_wp2
    go_ret
    exact ⟨rfl, HT.out, Save.refl _ _⟩
  have ho' : s.on = true := by simpa using ho
  rw [ho'] at HO
  have e : Tst.skip s t (M : Int) = match skipL (t.P.drop t.pos) M with | none => (t, 6) | some k => ({ t with pos := t.pos + k }, 0) := by
    unfold Tst.skip
    rw [if_neg (by omega), if_neg ho, Int.toNat_natCast]
  have HE := Lib.hid e
  obtain ⟨p, hp⟩ : ∃ p, p = t.pos := ⟨_, rfl⟩
  obtain ⟨n, hn⟩ : ∃ n, n = t.P.length := ⟨_, rfl⟩
  rw [← hp] at c6 hpl
  rw [← hn] at HPS hpl
  have hps := HPS.out
  have HN := Lib.hid (And.intro hp (And.intro hn (And.intro hps hpl)))
  have HMb : Hid (∃ B : Nat, B = 9223372036854775808 ∧ M < B) := Lib.hid (by obtain ⟨B, h1, h2⟩ := HZB.out; exact ⟨B, h1, by omega⟩)
  clear h e ho ho' hp hn hps
  go_enter Try.func46, Try.ntmps46
  go_wp2_with fail
  refine HO.out.mono ?_
  rintro e w1 ⟨rfl, rfl⟩
  go_wp2
  go_loopg [1, 5] (n + 1 - p) (fun gk vm vi wr => ∃ m i : Nat, gk = n + 1 - i ∧ i ≤ n ∧ Hid (∃ B : Nat, B = 9223372036854775808 ∧ m < B) ∧ vm = .int .i64 (m : Int) ∧ vi = .int .i64 (i : Int) ∧ Hid (Below w1.heap.size w1 wr ∧ p ≤ i ∧ skipL (t.P.drop p) M = (skipL (t.P.drop i) m).map (· + (i - p))))
  case atStart => exact ⟨M, p, rfl, hpl, HMb, rfl, rfl, Lib.hid ⟨Below.refl _ _, Nat.le_refl _, by rw [Nat.sub_self]; simp⟩⟩
  case round =>
    obtain ⟨m, i, hgk, hi, HMB, rfl, rfl, HI⟩ := hrel
    have HGK := Lib.hid hgk
    clear hgk
    by_cases hm : 0 < m
    · by_cases hin : i < n
      · have hx := HH.out.later HI.out.1
        obtain ⟨hp, hn, _, _⟩ := HN.out
        obtain ⟨g, c, a, q, d, y, hv, k1, k2, k3, _, _⟩ := hx.at_ i (by omega)
        have c5 := hx.cells.2.2.2.2.2.1
        rw [hv, ← hn] at c5
        have hlq := k3.1
        have HQ := Lib.hid hlq
        have HM : Hid (∀ W, _) := Lib.hid fun W => isMark_any W a q d (y : Int)
        have hne : ((i : Int) == (n : Int)) = false := by simp; omega
        clear hx hv k3 hlq hp hn
        by_cases hq : q = 0
        · have hqb : (q == 0) = true := by simp [hq]
          rw [hqb] at HM
          have HQ0 := Lib.hid hq
          have hw1 : IntKind.i64.wrap ((m : Int) - 1) = ((m - 1 : Nat) : Int) := by obtain ⟨B, h1, h2⟩ := HMB.out; rw [IntKind.wrap_i64] <;> omega
          have hw2 : IntKind.i64.wrap ((i : Int) + 1) = ((i + 1 : Nat) : Int) := by rw [IntKind.wrap_i64] <;> omega
          clear hqb hq
          go_wp2_with fail
          refine (HM.out _).mono ?_
          rintro e w3 ⟨rfl, rfl⟩
          go_wp2
          go_roundg (n + 1 - (i + 1))
          case measure => have := HGK.out; omega
          case rel =>
            refine ⟨m - 1, i + 1, rfl, by omega, Lib.hid (by obtain ⟨B, h1, h2⟩ := HMB.out; exact ⟨B, h1, by omega⟩), by go_num, by go_num, Lib.hid ⟨HI.out.1.alloc HI.out.1.size _, by have := HI.out.2.1; omega, ?_⟩⟩
            obtain ⟨hp, hn, _, _⟩ := HN.out
            rw [HI.out.2.2, skipL_step t.P i m (by omega) hm, if_pos (by rw [HQ.out]; exact HQ0.out), Option.map_map]
            have := HI.out.2.1
            congr 1
            funext x
            simp only [Function.comp_apply]
            omega
        · have hqb : (q == 0) = false := by simp [hq]
          rw [hqb] at HM
          have HQ0 := Lib.hid hq
          have hw2 : IntKind.i64.wrap ((i : Int) + 1) = ((i + 1 : Nat) : Int) := by rw [IntKind.wrap_i64] <;> omega
          clear hqb hq
          go_wp2_with fail
          refine (HM.out _).mono ?_
          rintro e w3 ⟨rfl, rfl⟩
          go_wp2
          go_roundg (n + 1 - (i + 1))
          case measure => have := HGK.out; omega
          case rel =>
            refine ⟨m, i + 1, rfl, by omega, HMB, by go_num, by go_num, Lib.hid ⟨HI.out.1.alloc HI.out.1.size _, by have := HI.out.2.1; omega, ?_⟩⟩
            obtain ⟨hp, hn, _, _⟩ := HN.out
            rw [HI.out.2.2, skipL_step t.P i m (by omega) hm, if_neg (by rw [HQ.out]; exact HQ0.out), Option.map_map]
            have := HI.out.2.1
            congr 1
            funext x
            simp only [Function.comp_apply]
            omega
      · have hie : i = n := by omega
        have hx := HH.out.later HI.out.1
        have c5 := hx.cells.2.2.2.2.2.1
        obtain ⟨a, c, hv, _⟩ := hx.shape
        obtain ⟨hp, hn, _, _⟩ := HN.out
        rw [hv, ← hn, ← hie] at c5
        have HR := Lib.hid (And.intro hie hn)
        clear hx hv hp hn hie hin
        go_wp2
        go_ret
        have e1 : skipL (t.P.drop t.pos) M = none := by
          rw [← HN.out.1, HI.out.2.2, skipL_end t.P i m (by rw [HR.out.1, HR.out.2]) hm]
          rfl
        have e2 := HE.out
        rw [e1] at e2
        rw [e2]
        exact ⟨rfl, HT.out.later HI.out.1, Save.of_below HI.out.1 _⟩
    · have hm0 : m = 0 := by omega
      subst hm0
      have hx := HH.out.later HI.out.1
      have c6' := hx.cells.2.2.2.2.2.2
      have f6 := hx.soft 6
      have HX := Lib.hid hx
      clear hx hm
      go_wp2
      go_ret
      have e1 : skipL (t.P.drop t.pos) M = some (i - p) := by
        rw [← HN.out.1, HI.out.2.2, skipL_zero]
        simp
      have e2 := HE.out
      rw [e1] at e2
      rw [e2]
      have e3 : t.pos + (i - p) = i := by
        have := HI.out.2.1
        rw [← HN.out.1]
        omega
      simp only [e3]
      exact ⟨rfl, ⟨_, X, bW, bR, HX.out.setPos i (by rw [← HN.out.2.1]; exact hi)⟩, (Save.of_below HI.out.1 _).trans ((Save.set wr gt 6 _).mono (fun k hk => by simp only [List.mem_singleton] at hk; rw [hk]; exact HH.out.ft))⟩

end Go.Proofs.Ytcmbnijjkpfhlaa

/- The contract of tape.New. -/
namespace Go.Proofs.Ytcmbnijjkpfhlaa
open Go.RowKit
set_option linter.unusedSimpArgs false

/-- A plan as it is handed over. -/
def planV (r y : Int) (vW vR : Value) : Value := .agg #[.int .i64 r, .int .i64 y, vW, vR]

theorem tnew_no (w : World) (r y : Int) (aW aR : Option Addr) (nW cW nR cR : Nat) (p : Option Addr) (hbad : r < 1 ∨ 16777216 < r ∨ y < 0 ∨ r < y ∨ p = none) :
    Calls Try.prog 40 #[.agg #[.int .i64 r, .int .i64 y, .slice aW nW cW, .slice aR nR cR], .pointer p] w fun e w' => e = .returned (.tuple #[.pointer none, .int .i64 1]) ∧ Below w.heap.size w w' := by
  have HB : Hid (∀ o, Below w.heap.size w (w.alloc o)) := Lib.hid fun o => Below.alloc0 w o
  by_cases h1 : r < 1
  · clear hbad
    go_enter Try.func40, Try.ntmps40
    go_wp2
    go_ret2
    exact ⟨rfl, HB.out _⟩
  have h1' : 1 ≤ r := by omega
  clear h1
  by_cases h2 : 16777216 < r
  · clear hbad
    go_enter Try.func40, Try.ntmps40
    go_wp2
    go_ret2
    exact ⟨rfl, HB.out _⟩
  have h2' : r ≤ 16777216 := by omega
  clear h2
  by_cases h3 : y < 0
  · clear hbad
    go_enter Try.func40, Try.ntmps40
    go_wp2
    go_ret2
    exact ⟨rfl, HB.out _⟩
  have h3' : 0 ≤ y := by omega
  clear h3
  by_cases h4 : r < y
  · clear hbad
    go_enter Try.func40, Try.ntmps40
    go_wp2
    go_ret2
    exact ⟨rfl, HB.out _⟩
  have h4' : y ≤ r := by omega
  have h5 : p = none := by
    rcases hbad with h | h | h | h | h
    · omega
    · omega
    · omega
    · omega
    · exact h
  subst h5
  clear h4 hbad
  go_enter Try.func40, Try.ntmps40
  go_wp2
  go_ret2
  exact ⟨rfl, HB.out _⟩

set_option maxHeartbeats 1000000 in
theorem tnew_yes (w : World) (r y gp : Nat) (aW aR : Option Addr) (nW cW nR cR : Nat) (LW LR : List Int) (s : Pw) (hr1 : 1 ≤ r) (hr2 : r ≤ 16777216) (hy : y ≤ r) (hW : RdI w aW nW LW) (hR : RdI w aR nR LR) (hnW : nW ≤ 1000000) (hnR : nR ≤ 1000000) (hp : Pow w gp s) :
    Calls Try.prog 40 #[.agg #[.int .i64 (r : Int), .int .i64 (y : Int), .slice aW nW cW, .slice aR nR cR], .pointer (some ⟨gp, 0, none⟩)] w fun e w' => ∃ gt F, e = .returned (.tuple #[.pointer (some ⟨gt, 0, none⟩), .int .i64 0]) ∧ Tap w' gt gp s ⟨r, y, LW, LR, [], 0⟩ F ∧ Below w.heap.size w w' ∧ ∀ k ∈ F, w.heap.size ≤ k := by
  obtain ⟨w1, h1⟩ : ∃ w1, w1 = w.alloc (.cells #[.int .i64 (r : Int), .int .i64 (y : Int), .slice aW nW cW, .slice aR nR cR] 42) := ⟨_, rfl⟩
  obtain ⟨gb, hgb⟩ : ∃ gb, gb = w.heap.size := ⟨_, rfl⟩
  have hob : w1.heap[gb]? = some (.cells #[.int .i64 (r : Int), .int .i64 (y : Int), .slice aW nW cW, .slice aR nR cR] 42 (0, 0)) := by rw [h1, hgb]; exact heap_alloc_new w _
  have hbe : Below w.heap.size w w1 := by rw [h1]; exact Below.alloc0 _ _
  have HBC : ∀ W, Below w1.heap.size w1 W → W.cell? ⟨gb, 0, none⟩ = some (.int .i64 (r : Int)) ∧ W.cell? ⟨gb, 1, none⟩ = some (.int .i64 (y : Int)) ∧ W.cell? ⟨gb, 2, none⟩ = some (.slice aW nW cW) ∧ W.cell? ⟨gb, 3, none⟩ = some (.slice aR nR cR) := by
    intro W hb
    have e := (hb.block gb (lt_of_block hob)).trans hob
    refine ⟨?_, ?_, ?_, ?_⟩ <;> rw [cell_of_row W gb _ _ 42 (0, 0) e] <;> rfl
  have HSW : Hid (∀ W, Below w1.heap.size w1 W → Calls Try.prog 64 #[.slice aW nW cW] W fun e w' => ∃ b, e = .returned (.map (some b)) ∧ (w'.cell? ⟨gb, 0, none⟩ = some (.int .i64 (r : Int)) ∧ w'.cell? ⟨gb, 1, none⟩ = some (.int .i64 (y : Int)) ∧ w'.cell? ⟨gb, 2, none⟩ = some (.slice aW nW cW) ∧ w'.cell? ⟨gb, 3, none⟩ = some (.slice aR nR cR)) ∧ Hid (SetM w' b LW ∧ Below w1.heap.size w1 w' ∧ w1.heap.size ≤ b ∧ Below W.heap.size W w')) := by
    refine Lib.hid fun W hb => (setOf_any W aW nW cW LW ((hW.later hbe).later hb) hnW).mono ?_
    rintro e w' ⟨b, rfl, h2, h3, h4⟩
    have h5 := hb.trans (h4.mono hb.size)
    exact ⟨b, rfl, HBC w' h5, Lib.hid ⟨h3, h5, Nat.le_trans hb.size h2, h4⟩⟩
  have HSR : Hid (∀ W, Below w1.heap.size w1 W → Calls Try.prog 64 #[.slice aR nR cR] W fun e w' => ∃ b, e = .returned (.map (some b)) ∧ (w'.cell? ⟨gb, 0, none⟩ = some (.int .i64 (r : Int)) ∧ w'.cell? ⟨gb, 1, none⟩ = some (.int .i64 (y : Int)) ∧ w'.cell? ⟨gb, 2, none⟩ = some (.slice aW nW cW) ∧ w'.cell? ⟨gb, 3, none⟩ = some (.slice aR nR cR)) ∧ Hid (SetM w' b LR ∧ Below w1.heap.size w1 w' ∧ w1.heap.size ≤ b ∧ Below W.heap.size W w')) := by
    refine Lib.hid fun W hb => (setOf_any W aR nR cR LR ((hR.later hbe).later hb) hnR).mono ?_
    rintro e w' ⟨b, rfl, h2, h3, h4⟩
    have h5 := hb.trans (h4.mono hb.size)
    exact ⟨b, rfl, HBC w' h5, Lib.hid ⟨h3, h5, Nat.le_trans hb.size h2, h4⟩⟩
  obtain ⟨d0, d1, d2, d3⟩ := HBC w1 (Below.refl _ _)
  have HEND : Hid (∀ (w2 : World) (bW bR : Nat), SetM w2 bW LW → SetM w2 bR LR → Below w1.heap.size w1 w2 → w1.heap.size ≤ bW → w1.heap.size ≤ bR → ∃ F, Tap (w2.alloc (tapObj gp r y bW bR (.slice none 0 0) 0)) w2.heap.size gp s ⟨r, y, LW, LR, [], 0⟩ F ∧ Below w.heap.size w (w2.alloc (tapObj gp r y bW bR (.slice none 0 0) 0)) ∧ ∀ k ∈ F, w.heap.size ≤ k) := by
    refine Lib.hid fun w2 bW bR hw hr hb h3 h4 => ?_
    have hs1 : w.heap.size ≤ w1.heap.size := hbe.size
    have hs2 := hb.size
    have hb2 : Below w.heap.size w w2 := hbe.trans (hb.mono hs1)
    have hbb : Below w.heap.size w (w2.alloc (tapObj gp r y bW bR (.slice none 0 0) 0)) := hb2.alloc hb2.size _
    have hgp := hp.lt
    refine ⟨[w2.heap.size, bW, bR], ⟨.slice none 0 0, [], bW, bR, ?_⟩, hbb, ?_⟩
    · refine ⟨heap_alloc_new w2 _, hp.below hbb hgp, hw.later (Below.alloc0 _ _), hr.later (Below.alloc0 _ _), World.ownsRow_nil _ _ _ _, by simp, rfl, by simp, by simp, by simp [usedOf], hr2, hy, by simp, by simp, by simp, by simp [Value.ownBlock], ?_, ?_⟩
      · simp only [List.mem_cons, List.not_mem_nil, or_false, not_or]
        omega
      · have h5 := hw.lt
        have h6 := hr.lt
        intro k hk
        simp only [List.mem_cons, List.not_mem_nil, or_false] at hk
        simp
        omega
    · simp only [List.mem_cons, List.not_mem_nil, or_false]
      omega
  have hr1' : (1 : Int) ≤ (r : Int) := by omega
  have hr2' : (r : Int) ≤ 16777216 := by omega
  have hy1 : (0 : Int) ≤ (y : Int) := by omega
  have hd : decide (r < y) = false := by simp; omega
  have hgp1 : Hid (w1 = w.alloc (.cells #[.int .i64 (r : Int), .int .i64 (y : Int), .slice aW nW cW, .slice aR nR cR] 42) ∧ gb = w.heap.size) := Lib.hid ⟨h1, hgb⟩
  clear hW hR hp hob hbe HBC h1 hgb hnW hnR
  go_enter Try.func40, Try.ntmps40
  go_upto_region 1 with fail
  rw [← hgp1.out.1, ← hgp1.out.2]
  go_upto_region 3 with fail
  go_region_held3 (fun W => W.cell? ⟨gb, 0, none⟩ = some (.int .i64 (r : Int)) ∧ W.cell? ⟨gb, 1, none⟩ = some (.int .i64 (y : Int)) ∧ W.cell? ⟨gb, 2, none⟩ = some (.slice aW nW cW) ∧ W.cell? ⟨gb, 3, none⟩ = some (.slice aR nR cR))
    (first | exact ⟨d0, d1, d2, d3⟩ | exact hk1 | exact hk2 | exact ⟨Lib.cell?_alloc_some _ hk1.1, Lib.cell?_alloc_some _ hk1.2.1, Lib.cell?_alloc_some _ hk1.2.2.1, Lib.cell?_alloc_some _ hk1.2.2.2⟩ | exact ⟨Lib.cell?_alloc_some _ hk2.1, Lib.cell?_alloc_some _ hk2.2.1, Lib.cell?_alloc_some _ hk2.2.2.1, Lib.cell?_alloc_some _ hk2.2.2.2⟩ | go_keep)
    (first
      | (go_at_call_of 64 aW; refine (HSW.out _ ?_).mono ?_; (first | exact HB2.out.2.1 | exact (Below.refl _ _).drew); rintro e wA ⟨b1, rfl, hk1, HB1⟩)
      | (go_at_call_of 64 aR; refine (HSR.out _ ?_).mono ?_; (first | exact HB1.out.2.1 | exact (Below.refl _ _).drew); rintro e wB ⟨b2, rfl, hk2, HB2⟩))
  all_goals
    go_wp2
    go_ret2
    first
      | (obtain ⟨F, h1, h2, h3⟩ := HEND.out wB b1 b2 (HB1.out.1.later HB2.out.2.2.2) HB2.out.1 HB2.out.2.1 HB1.out.2.2.1 HB2.out.2.2.1
         exact ⟨_, F, rfl, h1, h2, h3⟩)
      | (obtain ⟨F, h1, h2, h3⟩ := HEND.out wA b1 b2 HB1.out.1 (HB2.out.1.later HB1.out.2.2.2) HB1.out.2.1 HB1.out.2.2.1 HB2.out.2.2.1
         exact ⟨_, F, rfl, h1, h2, h3⟩)

end Go.Proofs.Ytcmbnijjkpfhlaa
