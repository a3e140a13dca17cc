/- The document's own tape: Get, with the room of what it gives. -/
import Derived.Test.YtcmbnijjkpfhlaaGTModel
namespace Go.Proofs.Ytcmbnijjkpfhlaa
open Go.RowKit
set_option linter.unusedSimpArgs false

set_option maxHeartbeats 1000000 in
theorem mgetC_any (w : World) (gm gq : Nat) (s : Pw) (t : Tst) (F : List Nat) (h : Mta w gm t F) (hP : MP w gq s) (hnr : t.nr.length ≤ 1000000) :
    Calls Try.prog 28 #[.pointer (some ⟨gm, 0, none⟩), .pointer (some ⟨gq, 0, none⟩)] w fun e w' => ∃ a n c, e = .returned (.tuple #[.slice a n c, .int .i64 ((Tst.get s t).2.2 : Int)]) ∧ n ≤ c ∧ Rd w' a n (Tst.get s t).2.1 ∧ Mta w' gm (Tst.get s t).1 F ∧ Save [gm] w w' := by
  have HT := Lib.hid h
  obtain ⟨v, X, aW, aR, nW, cW, nR, cR, h⟩ := h
  have HH := Lib.hid h
  have d0 := hP.on
  obtain ⟨c0, c2, c3, c4, c5⟩ := h.cells
  have f5 := h.soft 5
  have hps := h.pos_small
  have hpl := h.pos_le
  by_cases ho' : s.on = false
  · have e : Tst.get s t = (t, [], 11) := by unfold Tst.get; rw [if_pos ho']
    rw [e]
    rw [ho'] at d0
    clear h e ho' HH hP c2 c3 c4 c5 c0
    go_enter Try.func28, Try.ntmps28
    go_wp2
    go_ret2
    exact ⟨_, _, _, rfl, Nat.le_refl _, ⟨rfl, by simp, by simp⟩, HT.out, Save.refl _ _⟩
  have ho : s.on = true := by simpa using ho'
  clear ho'
  rw [ho] at d0
  by_cases hend : t.pos = t.P.length
  · have e : Tst.get s t = (t, [], 6) := by unfold Tst.get; rw [if_neg (by simp [ho]), if_pos hend]
    rw [e]
    obtain ⟨a, c, rfl, _⟩ := h.shape
    obtain ⟨n, hn⟩ : ∃ n, n = t.P.length := ⟨_, rfl⟩
    rw [hend] at c5
    rw [← hn] at c4 c5
    clear h e ho HH hn hend hpl c2 c3 hP
    go_enter Try.func28, Try.ntmps28
    go_upto_region 3 with fail
    go_quiet (fail)
    go_wp2
    go_ret2
    exact ⟨_, _, _, rfl, Nat.le_refl _, ⟨rfl, by simp, by simp⟩, HT.out.save (Y := []) ((Save.refl _ _).drewN _) (by simp), (Save.refl _ _).drewN _⟩
  have hlt : t.pos < t.P.length := Nat.lt_of_le_of_ne hpl hend
  obtain ⟨g, c, a, m, d, rfl, k1, k2, k3, k4, k5⟩ := h.piece t.pos hlt
  have hlm := k3.1
  obtain ⟨l, hl⟩ : ∃ l, l = t.P.getD t.pos [] := ⟨_, rfl⟩
  rw [← hl] at k3 hlm
  obtain ⟨n, hn⟩ : ∃ n, n = t.P.length := ⟨_, rfl⟩
  obtain ⟨p, hp⟩ : ∃ p, p = t.pos := ⟨_, rfl⟩
  rw [← hn] at c4 hps
  rw [← hp] at c5 k1 k2
  have hpn : p < n := by omega
  have hge : ¬ ((n : Int) ≤ (p : Int)) := by omega
  have hde : decide (n ≤ p) = false := by simp; omega
  have HIN : Hid (∀ W : World, W.heap = w.heap → Calls Try.prog 52 #[.slice aR nR cR, .int .i64 (p : Int)] W fun e w' => e = .returned (.bool (decide ((p : Int) ∈ t.nr))) ∧ w' = W) := Lib.hid fun W hW => min_any W aR nR cR t.nr p (h.rr.off (gm := w.heap.size) (fun b _ _ => by rw [hW]) (fun b o e => by have := h.fl b (h.fr b o e).1; omega)) (by rw [← h.rr.1]; exact hnr)
  by_cases hin : (p : Int) ∈ t.nr
  · have e : Tst.get s t = (t, [], 8) := by unfold Tst.get; rw [if_neg (by simp [ho]), if_neg hend, if_pos (by rw [← hp]; exact hin)]
    rw [e]
    rw [decide_eq_true hin] at HIN
    clear h e ho HH hn hend hpl hl hp hlm k1 k2 k3 k4 k5 hin hlt hP
    go_enter Try.func28, Try.ntmps28
    go_upto_region 3 with fail
    go_quiet (fail)
    obtain ⟨w2, hw2⟩ : ∃ w2, w2 = w.drewN nq := ⟨_, rfl⟩
    rw [← hw2]
    have e3 : w2.cell? ⟨gm, 3, none⟩ = some (.slice aR nR cR) := by rw [hw2]; exact c3
    have e5 : w2.cell? ⟨gm, 5, none⟩ = some (.int .i64 (p : Int)) := by rw [hw2]; exact c5
    have HH2 : Hid (w2.heap = w.heap ∧ Save [] w w2) := by rw [hw2]; exact Lib.hid ⟨rfl, (Save.refl _ _).drewN _⟩
    clear hw2 c0 c2 c3 c4 c5 f5 d0
    go_upto_region 5 with fail
    go_quiet ((go_at_call 52; exact Calls.quiet_of_same (HIN.out _ HH2.out.1)))
    go_wp2
    go_ret2
    refine ⟨none, 0, 0, rfl, Nat.le_refl _, ⟨rfl, by simp, by simp⟩, ?_, ?_⟩
    · exact HT.out.save (Y := []) (HH2.out.2.drewN _) (by simp)
    · exact (HH2.out.2.drewN _).mono (by simp)
  have hG : Tst.get s t = if l.length = 0 then ({ t with pos := t.pos + 1 }, [], 10) else ({ t with pos := t.pos + 1 }, l, 0) := by
    unfold Tst.get
    rw [if_neg (by simp [ho]), if_neg hend, if_neg (by rw [← hp]; exact hin), ← hl]
  rw [decide_eq_false hin] at HIN
  have hw5 : IntKind.i64.wrap ((p : Int) + 1) = ((p + 1 : Nat) : Int) := by rw [IntKind.wrap_i64] <;> omega
  obtain ⟨p1, hp1⟩ : ∃ p1, p1 = t.pos + 1 := ⟨_, rfl⟩
  rw [← hp1] at hG
  have ep1 : p + 1 = p1 := by omega
  rw [ep1] at hw5
  have HP1 := Lib.hid (show p1 ≤ t.P.length by omega)
  have hrn : g ≠ gm := fun e => h.row_ne (by rw [e]; rfl)
  have HK : Hid (∀ W, Save [] w W → W.cell? ⟨gm, 4, none⟩ = some (.slice (some ⟨g, 0, none⟩) n c) ∧ W.cell? ⟨gm, 5, none⟩ = some (.int .i64 (p : Int)) ∧ W.frozen? ⟨gm, 5, none⟩ = false ∧ W.cell? ⟨g, p * 2, none⟩ = some (.slice a m d) ∧ W.cell? ⟨g, p * 2 + 1, none⟩ = some (.bool (m == 0)) ∧ Rd W a m l) := by
    refine Lib.hid fun W hW => ?_
    have hx := h.save hW (by simp)
    have hglt : g < w.heap.size := World.block_lt_of_cell? w _ k1
    have hgb := hW.block g hglt (by simp)
    refine ⟨by rw [hn]; exact hx.cells.2.2.2.1, by rw [hp]; exact hx.cells.2.2.2.2, hx.soft 5, ?_, ?_, k3.save hW (by simp)⟩
    · rw [← k1]; simp only [World.cell?, hgb]
    · rw [← k2]; simp only [World.cell?, hgb]
  have HG := Lib.hid hG
  have HLM := Lib.hid hlm
  have HNE := Lib.hid k5
  have HMD := Lib.hid k4
  obtain ⟨mb, hmb⟩ : ∃ mb : Bool, mb = (m == 0) := ⟨_, rfl⟩
  rw [← hmb] at HK
  have HMB := Lib.hid hmb
  clear h hG ho hn hend hpl hl hp hlm k1 k2 k3 k4 k5 hin hlt hp1 ep1 hP hmb
  go_enter Try.func28, Try.ntmps28
  go_upto_region 3 with fail
  go_quiet (fail)
  obtain ⟨w2, hw2⟩ : ∃ w2, w2 = w.drewN nq := ⟨_, rfl⟩
  rw [← hw2]
  have e3 : w2.cell? ⟨gm, 3, none⟩ = some (.slice aR nR cR) := by rw [hw2]; exact c3
  have e5 : w2.cell? ⟨gm, 5, none⟩ = some (.int .i64 (p : Int)) := by rw [hw2]; exact c5
  have HH2 : Hid (w2.heap = w.heap ∧ Save [] w w2) := by rw [hw2]; exact Lib.hid ⟨rfl, (Save.refl _ _).drewN _⟩
  clear hw2 c0 c2 c3 c4 c5 f5 d0
  go_upto_region 5 with fail
  go_quiet ((go_at_call 52; exact Calls.quiet_of_same (HIN.out _ HH2.out.1)))
  obtain ⟨w4, hw4⟩ : ∃ w4, w4 = w2.drewN nq := ⟨_, rfl⟩
  rw [← hw4]
  have HS4 : Hid (Save [] w w4) := by rw [hw4]; exact Lib.hid (HH2.out.2.drewN _)
  clear hw4 e3 e5 HH2
  obtain ⟨c4, c5, f5, k1, k2, k3⟩ := HK.out w4 HS4.out
  clear k3
  have q4 := fun o => Lib.cell?_alloc_some (W := w4) o c4
  have q5 := fun o => Lib.cell?_alloc_some (W := w4) o c5
  have q1 := fun o => Lib.cell?_alloc_some (W := w4) o k1
  have q2 := fun o => Lib.cell?_alloc_some (W := w4) o k2
  go_upto_region 8 with fail
  go_region
  obtain ⟨w5, h5⟩ : ∃ w5, w5 = (w4.alloc (.cells #[.slice a m d, .bool mb] 77)).drew := ⟨_, rfl⟩
  obtain ⟨gx, hgx⟩ : ∃ gx, gx = w4.heap.size := ⟨_, rfl⟩
  rw [← h5, ← hgx]
  have HS5 : Hid (Save [] w w5) := by rw [h5]; exact Lib.hid ((HS4.out.alloc _).drew)
  have hob : w5.heap[gx]? = some (.cells #[.slice a m d, .bool mb] 77 (0, 0)) := by rw [h5, hgx]; exact heap_alloc_new w4 _
  have j0 : w5.cell? ⟨gx, 0, none⟩ = some (.slice a m d) := by rw [cell_of_row w5 gx _ _ 77 (0, 0) hob]; rfl
  have j1 : w5.cell? ⟨gx, 1, none⟩ = some (.bool mb) := by rw [cell_of_row w5 gx _ _ 77 (0, 0) hob]; rfl
  have hgg : gx ≠ gm := by
    have h1 := lt_of_block HH.out.obj
    have h2 := HS4.out.size
    omega
  clear h5 hob q4 q5 q1 q2 c4 c5 f5 k1 k2 hgx
  obtain ⟨c4, c5, f5, k1, k2, k3⟩ := HK.out w5 HS5.out
  have HK5 := Lib.hid k3
  have HT6 : Hid (Mta (w5.setCell ⟨gm, 5, none⟩ (.int .i64 (p1 : Int))) gm { t with pos := p1 } F) := Lib.hid ⟨_, X, aW, aR, nW, cW, nR, cR, (HH.out.save HS5.out (by simp)).setPos p1 HP1.out⟩
  have HS6 : Hid (Save [gm] w (w5.setCell ⟨gm, 5, none⟩ (.int .i64 (p1 : Int)))) := Lib.hid ((HS5.out.mono (by simp)).trans (Save.set w5 gm 5 _))
  have HR6 : Hid (Rd (w5.setCell ⟨gm, 5, none⟩ (.int .i64 (p1 : Int))) a m l) := Lib.hid (HK5.out.off (Save.set w5 gm 5 _) (fun h0 b o e => by simpa using (HNE.out h0 b o e).2))
  clear k3 c4 k1 k2 HK
  by_cases hm : mb = true
  · subst hm
    go_wp2
    go_ret2
    have e := HG.out
    rw [if_pos (by rw [HLM.out]; have := HMB.out; simpa using this.symm)] at e
    rw [e]
    exact ⟨none, 0, 0, rfl, Nat.le_refl _, ⟨rfl, by simp, by simp⟩, HT6.out, HS6.out⟩
  · have hm' : mb = false := by simpa using hm
    clear hm
    subst hm'
    go_wp2
    go_ret2
    have e := HG.out
    rw [if_neg (by rw [HLM.out]; have := HMB.out; simpa using this.symm)] at e
    rw [e]
    exact ⟨a, m, d, rfl, HMD.out, HR6.out, HT6.out, HS6.out⟩

end Go.Proofs.Ytcmbnijjkpfhlaa
