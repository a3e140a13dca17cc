/- The document's own tape: Seek, Skip, Get. -/
import Derived.Test.YtcofjhiienifmaaTModel
namespace Go.Proofs.Ytcofjhiienifmaa
open Go.RowKit
set_option linter.unusedSimpArgs false

theorem mtlay4 {w : World} {gm room early pos : Nat} {vW vR v : Value} (h : w.heap[gm]? = some (mtObj room early vW vR v pos)) (x : Value) : w.setCell ⟨gm, 4, none⟩ x = put w gm (mtObj room early vW vR x pos) := set_put _ h
theorem mtlay5 {w : World} {gm room early pos : Nat} {vW vR v : Value} (h : w.heap[gm]? = some (mtObj room early vW vR v pos)) (p : Nat) : w.setCell ⟨gm, 5, none⟩ (.int .i64 (p : Int)) = put w gm (mtObj room early vW vR v p) := set_put _ h

theorem RdI.off {w w' : World} {a : Option Addr} {n gm : Nat} {L : List Int} (h : RdI w a n L) (hk : ∀ b, b ≠ gm → b < w.heap.size → w'.heap[b]? = w.heap[b]?) (hX : ∀ b o, a = some ⟨b, o, none⟩ → b ≠ gm) : RdI w' a n L := by
  refine ⟨h.1, h.2.1, fun hn => ?_⟩
  obtain ⟨b, o, e, hc⟩ := h.2.2 hn
  refine ⟨b, o, e, fun j hj => ?_⟩
  rw [← hc j hj]
  simp only [World.cell?, hk b (hX b o e) (World.block_lt_of_cell? w _ (hc j hj))]

theorem Mt.row_ne {w : World} {gm : Nat} {t : Tst} {F : List Nat} {v : Value} {X : List MC} {aW aR : Option Addr} {nW cW nR cR : Nat} (h : Mt w gm t F v X aW aR nW cW nR cR) : v.ownBlock ≠ some gm := by
  intro e
  rcases h.row.2 with ⟨rfl, _⟩ | ⟨g', cap, cur, rfl, _, hg', _⟩
  · cases e
  · injection e with e
    subst e
    rw [h.obj] at hg'
    simp [mtObj] at hg'

theorem Mt.setPos {w : World} {gm : Nat} {t : Tst} {F : List Nat} {v : Value} {X : List MC} {aW aR : Option Addr} {nW cW nR cR : Nat} (h : Mt w gm t F v X aW aR nW cW nR cR) (p : Nat) (hp : p ≤ t.P.length) : Mt (w.setCell ⟨gm, 5, none⟩ (.int .i64 (p : Int))) gm { t with pos := p } F v X aW aR nW cW nR cR := by
  rw [mtlay5 h.obj]
  have hrn := h.row_ne
  have hk : ∀ b, b ≠ gm → b < w.heap.size → (put w gm (mtObj t.room t.early (.slice aW nW cW) (.slice aR nR cR) v p)).heap[b]? = w.heap[b]? := fun b hb _ => put_other hb
  refine ⟨put_same h.obj, h.rw_.off hk (fun b o e => (h.fw b o e).2), h.rr.off hk (fun b o e => (h.fr b o e).2), ?_, ?_, h.lst, hp, h.fits, h.roomle, h.ft, h.fv, h.fw, h.fr, by rw [put_size]; exact h.fl⟩
  · refine ⟨h.row.1, h.row.2.imp id ?_⟩
    rintro ⟨g, cap, cur, hv, h0, hg, rest⟩
    exact ⟨g, cap, cur, hv, h0, (put_other (fun e => hrn (by rw [hv, ← e]; rfl))).trans hg, rest⟩
  · intro q hq
    obtain ⟨h1, h2, h3⟩ := h.pcs q hq
    refine ⟨⟨h1.1, h1.2.1, fun hn => ?_⟩, h2, h3⟩
    obtain ⟨b, o, e, hc⟩ := h1.2.2 hn
    refine ⟨b, o, e, fun j hj => ?_⟩
    rw [← hc j hj]
    simp only [World.cell?, (put_other (h3 hn b o e).2 : (put w gm _).heap[b]? = _)]

theorem mseek_any (w : World) (gm gq : Nat) (s : Pw) (t : Tst) (F : List Nat) (h : Mta w gm t F) (hP : MP w gq s) (z : Int) :
    Calls Try.prog 24 #[.pointer (some ⟨gm, 0, none⟩), .pointer (some ⟨gq, 0, none⟩), .int .i64 z] w fun e w' => e = .returned (.int .i64 ((Tst.seek s t z).2 : Int)) ∧ Mta w' gm (Tst.seek s t z).1 F ∧ Save [gm] w w' := by
  have HT := Lib.hid h
  obtain ⟨v, X, aW, aR, nW, cW, nR, cR, h⟩ := h
  have HH := Lib.hid h
  have d0 := hP.on
  obtain ⟨c0, _, _, c4, c5⟩ := h.cells
  have f5 := h.soft 5
  have hps := h.pos_small
  obtain ⟨a, c, rfl, _⟩ := h.shape
  obtain ⟨n, hn⟩ : ∃ n, n = t.P.length := ⟨_, rfl⟩
  rw [← hn] at c4 hps
  by_cases h0 : z < 0
  · have e : Tst.seek s t z = (t, 1) := by unfold Tst.seek; rw [if_pos (.inl h0)]
    rw [e]
    clear h e hn HH hP
    go_enter Try.func24, Try.ntmps24
    go_wp2
    go_ret
    exact ⟨rfl, HT.out, Save.refl _ _⟩
  · have h0' : 0 ≤ z := by omega
    by_cases h1 : (n : Int) < z
    · have e : Tst.seek s t z = (t, 1) := by unfold Tst.seek; rw [if_pos (.inr (by rw [← hn]; exact h1))]
      rw [e]
      clear h e hn HH hP h0
      go_enter Try.func24, Try.ntmps24
      go_wp2
      go_ret
      exact ⟨rfl, HT.out, Save.refl _ _⟩
    · obtain ⟨j, rfl⟩ : ∃ j : Nat, z = (j : Int) := ⟨z.toNat, by omega⟩
      have hj : j ≤ n := by omega
      by_cases ho : s.on = true
      · have e : Tst.seek s t (j : Int) = ({ t with pos := j }, 0) := by unfold Tst.seek; rw [if_neg (by rw [← hn]; omega), if_neg (by simp [ho])]; simp
        rw [e]
        rw [ho] at d0
        have HJ := Lib.hid (show j ≤ t.P.length by omega)
        clear h e hn h0 h1 h0' ho hP
        go_enter Try.func24, Try.ntmps24
        go_wp2
        go_ret
        exact ⟨rfl, ⟨_, X, aW, aR, nW, cW, nR, cR, HH.out.setPos j HJ.out⟩, Save.set _ _ _ _⟩
      · have e : Tst.seek s t (j : Int) = (t, 11) := by unfold Tst.seek; rw [if_neg (by rw [← hn]; omega), if_pos (by simpa using ho)]
        rw [e]
        have ho' : s.on = false := by simpa using ho
        rw [ho'] at d0
        clear h e hn h0 h1 h0' ho ho' HH hP
        go_enter Try.func24, Try.ntmps24
        go_wp2
        go_ret
        exact ⟨rfl, HT.out, Save.refl _ _⟩

set_option maxHeartbeats 1000000 in
set_option maxRecDepth 100000 in
theorem mskip_any (w : World) (gm gq : Nat) (s : Pw) (t : Tst) (F : List Nat) (h : Mta w gm t F) (hP : MP w gq s) (z : Int) (hzb : z < 9223372036854775808) :
    Calls Try.prog 26 #[.pointer (some ⟨gm, 0, none⟩), .pointer (some ⟨gq, 0, none⟩), .int .i64 z] w fun e w' => e = .returned (.int .i64 ((Tst.skip s t z).2 : Int)) ∧ Mta w' gm (Tst.skip s t z).1 F ∧ Save [gm] w w' := by
  have HT := Lib.hid h
  obtain ⟨v, X, aW, aR, nW, cW, nR, cR, h⟩ := h
  have HH := Lib.hid h
  have d0 := hP.on
  obtain ⟨c0, _, _, c4, c5⟩ := h.cells
  have f5 := h.soft 5
  have HPS := Lib.hid h.pos_small
  have hpl := h.pos_le
  have HZB : Hid (∃ B : Nat, B = 9223372036854775808 ∧ z < (B : Int)) := Lib.hid ⟨_, rfl, hzb⟩
  clear hzb hP
  by_cases h0 : z < 0
  · have e : Tst.skip s t z = (t, 1) := by unfold Tst.skip; rw [if_pos h0]
    rw [e]
    clear h e HH
    go_enter Try.func26, Try.ntmps26
    go_wp2
    go_ret
    exact ⟨rfl, HT.out, Save.refl _ _⟩
  obtain ⟨M, rfl⟩ : ∃ M : Nat, z = (M : Int) := ⟨z.toNat, by omega⟩
  clear h0
  by_cases ho : s.on = false
  · have e : Tst.skip s t (M : Int) = (t, 11) := by unfold Tst.skip; rw [if_neg (by omega), if_pos ho]
    rw [e]
    rw [ho] at d0
    clear h e HH ho
    go_enter Try.func26, Try.ntmps26
    go_wp2
    go_ret
    exact ⟨rfl, HT.out, Save.refl _ _⟩
  have ho' : s.on = true := by simpa using ho
  rw [ho'] at d0
  have e : Tst.skip s t (M : Int) = match skipL (t.P.drop t.pos) M with | none => (t, 6) | some k => ({ t with pos := t.pos + k }, 0) := by
    unfold Tst.skip
    rw [if_neg (by omega), if_neg ho, Int.toNat_natCast]
    cases skipL (t.P.drop t.pos) M <;> rfl
  have HE := Lib.hid e
  obtain ⟨p, hp⟩ : ∃ p, p = t.pos := ⟨_, rfl⟩
  obtain ⟨n, hn⟩ : ∃ n, n = t.P.length := ⟨_, rfl⟩
  obtain ⟨av, cv, rfl, _⟩ := h.shape
  rw [← hp] at c5 hpl
  rw [← hn] at HPS hpl c4
  have hps := HPS.out
  have HN := Lib.hid (And.intro hp (And.intro hn (And.intro hps hpl)))
  have HMb : Hid (∃ B : Nat, B = 9223372036854775808 ∧ M < B) := Lib.hid (by obtain ⟨B, h1, h2⟩ := HZB.out; exact ⟨B, h1, by omega⟩)
  clear h e ho ho' hp hn hps
  go_enter Try.func26, Try.ntmps26
  go_wp2
  go_loopg [2, 7] (n + 1 - p) (fun gk vm vi wr => ∃ m i : Nat, gk = n + 1 - i ∧ i ≤ n ∧ Hid (∃ B : Nat, B = 9223372036854775808 ∧ m < B) ∧ vm = .int .i64 (m : Int) ∧ vi = .int .i64 (i : Int) ∧ wr = w ∧ Hid (p ≤ i ∧ skipL (t.P.drop p) M = (skipL (t.P.drop i) m).map (· + (i - p))))
  case atStart => exact ⟨M, p, rfl, hpl, HMb, rfl, rfl, rfl, Lib.hid ⟨Nat.le_refl _, by rw [Nat.sub_self]; simp⟩⟩
  case round =>
    obtain ⟨m, i, hgk, hi, HMB, rfl, rfl, rfl, HI⟩ := hrel
    have HGK := Lib.hid hgk
    clear hgk
    by_cases hm : 0 < m
    · by_cases hin : i < n
      · obtain ⟨hp, hn, _, _⟩ := HN.out
        obtain ⟨g, c, a, q, d, hv, k1, k2, k3, _, _⟩ := HH.out.piece i (by omega)
        injection hv with hv1 hv2 hv3
        subst hv1
        subst hv3
        have hlq := k3.1
        have HQ := Lib.hid hlq
        clear k3 hlq hp hn hv2 k1
        by_cases hq : q = 0
        · have hqb : (q == 0) = true := by simp [hq]
          rw [hqb] at k2
          have HQ0 := Lib.hid hq
          have hw1 : IntKind.i64.wrap ((m : Int) - 1) = ((m - 1 : Nat) : Int) := by obtain ⟨B, h1, h2⟩ := HMB.out; rw [IntKind.wrap_i64] <;> omega
          clear hqb hq
          go_wp2
          go_roundg (n + 1 - (i + 1))
          case measure => have := HGK.out; omega
          case rel =>
            refine ⟨m - 1, i + 1, rfl, by omega, Lib.hid (by obtain ⟨B, h1, h2⟩ := HMB.out; exact ⟨B, h1, by omega⟩), by go_num, by go_num, rfl, Lib.hid ⟨by have := HI.out.1; omega, ?_⟩⟩
            obtain ⟨hp, hn, _, _⟩ := HN.out
            rw [HI.out.2, skipL_step t.P i m (by omega) hm, if_pos (by rw [HQ.out]; exact HQ0.out), Option.map_map]
            have := HI.out.1
            congr 1
            funext x
            simp only [Function.comp_apply]
            omega
        · have hqb : (q == 0) = false := by simp [hq]
          rw [hqb] at k2
          have HQ0 := Lib.hid hq
          clear hqb hq
          go_wp2
          go_roundg (n + 1 - (i + 1))
          case measure => have := HGK.out; omega
          case rel =>
            refine ⟨m, i + 1, rfl, by omega, HMB, by go_num, by go_num, rfl, Lib.hid ⟨by have := HI.out.1; omega, ?_⟩⟩
            obtain ⟨hp, hn, _, _⟩ := HN.out
            rw [HI.out.2, skipL_step t.P i m (by omega) hm, if_neg (by rw [HQ.out]; exact HQ0.out), Option.map_map]
            have := HI.out.1
            congr 1
            funext x
            simp only [Function.comp_apply]
            omega
      · have hie : i = n := by omega
        have HR := Lib.hid hie
        have hge : n ≤ i := by omega
        clear hie hin
        go_wp2
        go_ret
        have e1 : skipL (t.P.drop t.pos) M = none := by
          rw [← HN.out.1, HI.out.2, skipL_end t.P i m (by rw [HR.out, HN.out.2.1]) hm]
          rfl
        have e2 := HE.out
        rw [e1] at e2
        rw [e2]
        exact ⟨rfl, HT.out, Save.refl _ _⟩
    · have hm0 : m = 0 := by omega
      subst hm0
      clear hm
      go_wp2
      go_ret
      have e1 : skipL (t.P.drop t.pos) M = some (i - p) := by
        rw [← HN.out.1, HI.out.2, skipL_zero]
        simp
      have e2 := HE.out
      rw [e1] at e2
      rw [e2]
      have e3 : t.pos + (i - p) = i := by
        have := HI.out.1
        rw [← HN.out.1]
        omega
      simp only [e3]
      exact ⟨rfl, ⟨_, X, aW, aR, nW, cW, nR, cR, HH.out.setPos i (by rw [← HN.out.2.1]; exact hi)⟩, Save.set _ _ _ _⟩

set_option maxHeartbeats 1000000 in
theorem mget_any (w : World) (gm gq : Nat) (s : Pw) (t : Tst) (F : List Nat) (h : Mta w gm t F) (hP : MP w gq s) (hnr : t.nr.length ≤ 1000000) :
    Calls Try.prog 23 #[.pointer (some ⟨gm, 0, none⟩), .pointer (some ⟨gq, 0, none⟩)] w fun e w' => ∃ a n c, e = .returned (.tuple #[.slice a n c, .int .i64 ((Tst.get s t).2.2 : Int)]) ∧ Rd w' a n (Tst.get s t).2.1 ∧ Mta w' gm (Tst.get s t).1 F ∧ Save [gm] w w' := by
  have HT := Lib.hid h
  obtain ⟨v, X, aW, aR, nW, cW, nR, cR, h⟩ := h
  have HH := Lib.hid h
  have d0 := hP.on
  obtain ⟨c0, c2, c3, c4, c5⟩ := h.cells
  have f5 := h.soft 5
  have hps := h.pos_small
  have hpl := h.pos_le
  by_cases ho' : s.on = false
  · have e : Tst.get s t = (t, [], 11) := by unfold Tst.get; rw [if_pos ho']
    rw [e]
    rw [ho'] at d0
    clear h e ho' HH hP c2 c3 c4 c5 c0
    go_enter Try.func23, Try.ntmps23
    go_wp2
    go_ret2
    exact ⟨_, _, _, rfl, ⟨rfl, by simp, by simp⟩, HT.out, Save.refl _ _⟩
  have ho : s.on = true := by simpa using ho'
  clear ho'
  rw [ho] at d0
  by_cases hend : t.pos = t.P.length
  · have e : Tst.get s t = (t, [], 6) := by unfold Tst.get; rw [if_neg (by simp [ho]), if_pos hend]
    rw [e]
    obtain ⟨a, c, rfl, _⟩ := h.shape
    obtain ⟨n, hn⟩ : ∃ n, n = t.P.length := ⟨_, rfl⟩
    rw [hend] at c5
    rw [← hn] at c4 c5
    clear h e ho HH hn hend hpl c2 c3 hP
    go_enter Try.func23, Try.ntmps23
    go_upto_region 3 with fail
    go_quiet (fail)
    go_wp2
    go_ret2
    exact ⟨_, _, _, rfl, ⟨rfl, by simp, by simp⟩, HT.out.save (Y := []) ((Save.refl _ _).drewN _) (by simp), (Save.refl _ _).drewN _⟩
  have hlt : t.pos < t.P.length := Nat.lt_of_le_of_ne hpl hend
  obtain ⟨g, c, a, m, d, rfl, k1, k2, k3, k4, k5⟩ := h.piece t.pos hlt
  have hlm := k3.1
  obtain ⟨l, hl⟩ : ∃ l, l = t.P.getD t.pos [] := ⟨_, rfl⟩
  rw [← hl] at k3 hlm
  obtain ⟨n, hn⟩ : ∃ n, n = t.P.length := ⟨_, rfl⟩
  obtain ⟨p, hp⟩ : ∃ p, p = t.pos := ⟨_, rfl⟩
  rw [← hn] at c4 hps
  rw [← hp] at c5 k1 k2
  have hpn : p < n := by omega
  have hge : ¬ ((n : Int) ≤ (p : Int)) := by omega
  have hde : decide (n ≤ p) = false := by simp; omega
  have HIN : Hid (∀ W : World, W.heap = w.heap → Calls Try.prog 41 #[.slice aR nR cR, .int .i64 (p : Int)] W fun e w' => e = .returned (.bool (decide ((p : Int) ∈ t.nr))) ∧ w' = W) := Lib.hid fun W hW => min_any W aR nR cR t.nr p (h.rr.off (gm := w.heap.size) (fun b _ _ => by rw [hW]) (fun b o e => by have := h.fl b (h.fr b o e).1; omega)) (by rw [← h.rr.1]; exact hnr)
  by_cases hin : (p : Int) ∈ t.nr
  · have e : Tst.get s t = (t, [], 8) := by unfold Tst.get; rw [if_neg (by simp [ho]), if_neg hend, if_pos (by rw [← hp]; exact hin)]
    rw [e]
    rw [decide_eq_true hin] at HIN
    clear h e ho HH hn hend hpl hl hp hlm k1 k2 k3 k4 k5 hin hlt hP
    go_enter Try.func23, Try.ntmps23
    go_upto_region 3 with fail
    go_quiet (fail)
    obtain ⟨w2, hw2⟩ : ∃ w2, w2 = w.drewN nq := ⟨_, rfl⟩
    rw [← hw2]
    have e3 : w2.cell? ⟨gm, 3, none⟩ = some (.slice aR nR cR) := by rw [hw2]; exact c3
    have e5 : w2.cell? ⟨gm, 5, none⟩ = some (.int .i64 (p : Int)) := by rw [hw2]; exact c5
    have HH2 : Hid (w2.heap = w.heap ∧ Save [] w w2) := by rw [hw2]; exact Lib.hid ⟨rfl, (Save.refl _ _).drewN _⟩
    clear hw2 c0 c2 c3 c4 c5 f5 d0
    go_upto_region 5 with fail
    go_quiet ((go_at_call 41; exact Calls.quiet_of_same (HIN.out _ HH2.out.1)))
    go_wp2
    go_ret2
    first | refine ⟨none, 0, 0, rfl, ⟨rfl, by simp, by simp⟩, ?_, ?_⟩ | refine ⟨none, 0, ⟨0, rfl⟩, ⟨rfl, by simp, by simp⟩, ?_, ?_⟩
    · exact HT.out.save (Y := []) (HH2.out.2.drewN _) (by simp)
    · exact (HH2.out.2.drewN _).mono (by simp)
  have hG : Tst.get s t = if l.length = 0 then ({ t with pos := t.pos + 1 }, [], 10) else ({ t with pos := t.pos + 1 }, l, 0) := by
    unfold Tst.get
    rw [if_neg (by simp [ho]), if_neg hend, if_neg (by rw [← hp]; exact hin), ← hl]
  rw [decide_eq_false hin] at HIN
  have hw5 : IntKind.i64.wrap ((p : Int) + 1) = ((p + 1 : Nat) : Int) := by rw [IntKind.wrap_i64] <;> omega
  obtain ⟨p1, hp1⟩ : ∃ p1, p1 = t.pos + 1 := ⟨_, rfl⟩
  rw [← hp1] at hG
  have ep1 : p + 1 = p1 := by omega
  rw [ep1] at hw5
  have HP1 := Lib.hid (show p1 ≤ t.P.length by omega)
  have hrn : g ≠ gm := fun e => h.row_ne (by rw [e]; rfl)
  have HK : Hid (∀ W, Save [] w W → W.cell? ⟨gm, 4, none⟩ = some (.slice (some ⟨g, 0, none⟩) n c) ∧ W.cell? ⟨gm, 5, none⟩ = some (.int .i64 (p : Int)) ∧ W.frozen? ⟨gm, 5, none⟩ = false ∧ W.cell? ⟨g, p * 2, none⟩ = some (.slice a m d) ∧ W.cell? ⟨g, p * 2 + 1, none⟩ = some (.bool (m == 0)) ∧ Rd W a m l) := by
    refine Lib.hid fun W hW => ?_
    have hx := h.save hW (by simp)
    have hglt : g < w.heap.size := World.block_lt_of_cell? w _ k1
    have hgb := hW.block g hglt (by simp)
    refine ⟨by rw [hn]; exact hx.cells.2.2.2.1, by rw [hp]; exact hx.cells.2.2.2.2, hx.soft 5, ?_, ?_, k3.save hW (by simp)⟩
    · rw [← k1]; simp only [World.cell?, hgb]
    · rw [← k2]; simp only [World.cell?, hgb]
  have HG := Lib.hid hG
  have HLM := Lib.hid hlm
  have HNE := Lib.hid k5
  obtain ⟨mb, hmb⟩ : ∃ mb : Bool, mb = (m == 0) := ⟨_, rfl⟩
  rw [← hmb] at HK
  have HMB := Lib.hid hmb
  clear h hG ho hn hend hpl hl hp hlm k1 k2 k3 k4 k5 hin hlt hp1 ep1 hP hmb
  go_enter Try.func23, Try.ntmps23
  go_upto_region 3 with fail
  go_quiet (fail)
  obtain ⟨w2, hw2⟩ : ∃ w2, w2 = w.drewN nq := ⟨_, rfl⟩
  rw [← hw2]
  have e3 : w2.cell? ⟨gm, 3, none⟩ = some (.slice aR nR cR) := by rw [hw2]; exact c3
  have e5 : w2.cell? ⟨gm, 5, none⟩ = some (.int .i64 (p : Int)) := by rw [hw2]; exact c5
  have HH2 : Hid (w2.heap = w.heap ∧ Save [] w w2) := by rw [hw2]; exact Lib.hid ⟨rfl, (Save.refl _ _).drewN _⟩
  clear hw2 c0 c2 c3 c4 c5 f5 d0
  go_upto_region 5 with fail
  go_quiet ((go_at_call 41; exact Calls.quiet_of_same (HIN.out _ HH2.out.1)))
  obtain ⟨w4, hw4⟩ : ∃ w4, w4 = w2.drewN nq := ⟨_, rfl⟩
  rw [← hw4]
  have HS4 : Hid (Save [] w w4) := by rw [hw4]; exact Lib.hid (HH2.out.2.drewN _)
  clear hw4 e3 e5 HH2
  obtain ⟨c4, c5, f5, k1, k2, k3⟩ := HK.out w4 HS4.out
  clear k3
  have q4 := fun o => Lib.cell?_alloc_some (W := w4) o c4
  have q5 := fun o => Lib.cell?_alloc_some (W := w4) o c5
  have q1 := fun o => Lib.cell?_alloc_some (W := w4) o k1
  have q2 := fun o => Lib.cell?_alloc_some (W := w4) o k2
  go_upto_region 8 with fail
  go_region
  obtain ⟨w5, h5⟩ : ∃ w5, w5 = (w4.alloc (.cells #[.slice a m d, .bool mb] 73)).drew := ⟨_, rfl⟩
  obtain ⟨gx, hgx⟩ : ∃ gx, gx = w4.heap.size := ⟨_, rfl⟩
  rw [← h5, ← hgx]
  have HS5 : Hid (Save [] w w5) := by rw [h5]; exact Lib.hid ((HS4.out.alloc _).drew)
  have hob : w5.heap[gx]? = some (.cells #[.slice a m d, .bool mb] 73 (0, 0)) := by rw [h5, hgx]; exact heap_alloc_new w4 _
  have j0 : w5.cell? ⟨gx, 0, none⟩ = some (.slice a m d) := by rw [cell_of_row w5 gx _ _ 73 (0, 0) hob]; rfl
  have j1 : w5.cell? ⟨gx, 1, none⟩ = some (.bool mb) := by rw [cell_of_row w5 gx _ _ 73 (0, 0) hob]; rfl
  have hgg : gx ≠ gm := by
    have h1 := lt_of_block HH.out.obj
    have h2 := HS4.out.size
    omega
  clear h5 hob q4 q5 q1 q2 c4 c5 f5 k1 k2 hgx
  obtain ⟨c4, c5, f5, k1, k2, k3⟩ := HK.out w5 HS5.out
  have HK5 := Lib.hid k3
  have HT6 : Hid (Mta (w5.setCell ⟨gm, 5, none⟩ (.int .i64 (p1 : Int))) gm { t with pos := p1 } F) := Lib.hid ⟨_, X, aW, aR, nW, cW, nR, cR, (HH.out.save HS5.out (by simp)).setPos p1 HP1.out⟩
  have HS6 : Hid (Save [gm] w (w5.setCell ⟨gm, 5, none⟩ (.int .i64 (p1 : Int)))) := Lib.hid ((HS5.out.mono (by simp)).trans (Save.set w5 gm 5 _))
  have HR6 : Hid (Rd (w5.setCell ⟨gm, 5, none⟩ (.int .i64 (p1 : Int))) a m l) := Lib.hid (HK5.out.off (Save.set w5 gm 5 _) (fun h0 b o e => by simpa using (HNE.out h0 b o e).2))
  clear k3 c4 k1 k2 HK
  by_cases hm : mb = true
  · subst hm
    go_wp2
    go_ret2
    have e := HG.out
    rw [if_pos (by rw [HLM.out]; have := HMB.out; simpa using this.symm)] at e
    rw [e]
    first | exact ⟨none, 0, 0, rfl, ⟨rfl, by simp, by simp⟩, HT6.out, HS6.out⟩ | exact ⟨none, 0, ⟨0, rfl⟩, ⟨rfl, by simp, by simp⟩, HT6.out, HS6.out⟩
  · have hm' : mb = false := by simpa using hm
    clear hm
    subst hm'
    go_wp2
    go_ret2
    have e := HG.out
    rw [if_neg (by rw [HLM.out]; have := HMB.out; simpa using this.symm)] at e
    rw [e]
    first | exact ⟨a, m, d, rfl, HR6.out, HT6.out, HS6.out⟩ | exact ⟨a, m, ⟨d, rfl⟩, HR6.out, HT6.out, HS6.out⟩

end Go.Proofs.Ytcofjhiienifmaa
