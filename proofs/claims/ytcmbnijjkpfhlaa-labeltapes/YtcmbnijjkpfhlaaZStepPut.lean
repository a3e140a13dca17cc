/- Step: Put and Get. -/
import Derived.Test.YtcmbnijjkpfhlaaZStep
namespace Go.Proofs.Ytcmbnijjkpfhlaa
open Go.RowKit
set_option linter.unusedSimpArgs false

set_option maxHeartbeats 4000000 in
set_option maxRecDepth 100000 in
/-- Put. -/
theorem step0 (Zt : List Nat) (w W : World) (gt gp gm gq : Nat) (s : Pw) (t : Tst) (F G : List Nat) (h : Two Zt w W gt gp gm gq s t F s t G) (N : Nat) (hwi : s.within N) (hN : N ≤ 1000000) (hnw : t.nw.length ≤ 1000000) (K : Nat) (I Z : Int) (ab : Option Addr) (nb cb : Nat) (bb : List Nat) (hrd : Rd w ab nb bb) (hzb : 0 < nb → ∀ b o, ab = some ⟨b, o, none⟩ → b ∉ Zt) (hnb : nb ≤ 300) (hK : (K : Int) % 7 = 0) :
    Calls Try.prog 21 #[.pointer (some ⟨gt, 0, none⟩), .pointer (some ⟨gm, 0, none⟩), .pointer (some ⟨gq, 0, none⟩), .agg #[.int .u8 (K : Int), .int .i64 I, .int .i64 Z, .slice ab nb cb]] W fun e W' => e = .returned (.bool true) ∧ Stepped Zt w gt gp gm gq t N W' := by
  obtain ⟨W1, h1⟩ : ∃ W1, W1 = W.alloc (actObj K I Z (.slice ab nb cb)) := ⟨_, rfl⟩
  obtain ⟨gx, hgx⟩ : ∃ gx, gx = W.heap.size := ⟨_, rfl⟩
  have hob : W1.heap[gx]? = some (actObj K I Z (.slice ab nb cb)) := by rw [h1, hgx]; exact heap_alloc_new W _
  have hT1 : Two Zt w W1 gt gp gm gq s t F s t G := by rw [h1]; exact h.later (Below.alloc0 _ _)
  have hs1 : W1.heap.size = gx + 1 := by rw [h1, hgx]; simp
  have hlts := h.lts
  obtain ⟨x0, _, _, x3⟩ := act_cells hob
  have x3a := fun o => Lib.cell?_alloc_some (W := W1) o x3
  obtain ⟨E, hE⟩ : ∃ E, E = (Tst.put s t bb).2.2 := ⟨_, rfl⟩
  have HW1 := Lib.hid (And.intro h1 hgx)
  have HE := Lib.hid hE
  have HLK := Lib.hid (put_like s t bb N hwi)
  have HOK := Lib.hid (hwi.ok hN)
  have HT1 := Lib.hid (And.intro hT1 (And.intro hs1 (And.intro hob (show ∀ k, k ∈ gp :: F ∨ k ∈ G ∨ k = gq → k < gx from fun k hk => by rw [hgx]; exact hlts k hk))))
  have HRD := Lib.hid hrd
  have HZB := Lib.hid hzb
  clear h h1 hgx hob hT1 hE hwi hs1 hlts hrd hzb
  go_enter Try.func21, Try.ntmps21
  go_upto_region 1 with fail
  change Code.wp _ _ _ _ (W.alloc (actObj K I Z (.slice ab nb cb)))
  rw [← HW1.out.1, ← HW1.out.2]
  go_wp2_with (at_builtin; refine wpList_fresh rfl (.tmp 34) (.tmp 36) rfl W1.heap.size rfl ab nb cb rfl (heap_alloc_new W1 _) bb ((HRD.out.off HT1.out.1.liv.bel HZB.out).later (Below.alloc0 _ _)) (by omega) ?nx0)
  case nx0 =>
    intro gO cO W2 hgO hO hg2
    have hb2 : Below W1.heap.size W1 W2 := (Below.alloc0 W1 _).grown hg2 (by simp) (by simp)
    have hT2 := HT1.out.1.later hb2
    have hob2 := (hb2.block gx (by rw [HT1.out.2.1]; omega)).trans HT1.out.2.2.1
    have hgOx : gx < gO := by have := HT1.out.2.1; omega
    have hgO2 : gO < W2.heap.size := (hO.2.lt gO rfl).2
    have hln : bb.length = nb := HRD.out.1
    have hcO : nb ≤ cO := by
      obtain ⟨a', c', hv, _, hc⟩ := hO.sl
      injection hv with _ h2 h3
      omega
    have HPUT : Hid (Calls Try.prog 42 #[.pointer (some ⟨gt, 0, none⟩), .slice (some ⟨gO, 0, none⟩) nb cO] W2 fun e w' => e = .returned (.int .i64 (E : Int)) ∧ Hid (∃ F', Two Zt w w' gt gp gm gq (Tst.put s t bb).1 (Tst.put s t bb).2.1 F' s t G ∧ gO ∉ gp :: F' ∧ Own w' W1.heap.size (.slice (some ⟨gO, 0, none⟩) nb cO) bb ∧ w'.heap[gx]? = some (actObj K I Z (.slice ab nb cb)))) := by
      have hnO : gO ∉ gp :: F := fun hx => by have := HT1.out.2.2.2 gO (.inl hx); omega
      refine Lib.hid ((tput_any W2 gt gp s t F hT2.liv.tap (some ⟨gO, 0, none⟩) nb cO bb (hO.asSlice1 hln) (by
        intro _ b o e
        injection e with e
        injection e with e
        rw [← e]
        exact hnO) hcO HOK.out).mono ?_)
      rintro e w' ⟨rfl, F', h2, h3, h4⟩
      refine ⟨by rw [HE.out], Lib.hid ⟨F', hT2.prog h2 h3 h4, ?_, ?_, ?_⟩⟩
      · simp only [List.mem_cons, not_or] at hnO ⊢
        exact ⟨hnO.1, fun hF => (h4 gO hF).elim hnO.2 (fun h => by omega)⟩
      · have := hO.save h3 hnO
        exact ⟨this.1, this.2.1, this.2.2.imp id (fun ⟨g, cap, cur, hv, hbg, rest⟩ => ⟨g, cap, cur, hv, hbg, rest⟩)⟩
      · exact (h3.block gx (lt_of_block hob2) (fun hx => by have := HT1.out.2.2.2 gx (.inl hx); omega)).trans hob2
    have HG := Lib.hid (And.intro hgOx hln)
    clear hO hg2 hgO hb2 hT2 hob2 hgO2 hln hcO x0 x3 x3a hgOx
    go_wp2_with fail
    refine HPUT.out.mono ?_
    rintro e W3 ⟨rfl, H3⟩
    clear HPUT
    go_wp2
    go_loopg [43] nb (fun gk i wq => ∃ (j : Nat) (ll : List Nat), gk = nb - j ∧ j ≤ nb ∧ i = .int .i64 (j : Int) ∧ Hid (Own wq W1.heap.size (.slice (some ⟨gO, 0, none⟩) nb cO) ll ∧ ll.length = nb ∧ Save [gO] W3 wq))
    case atStart =>
      obtain ⟨F', _, _, h4, _⟩ := H3.out
      exact ⟨0, bb, rfl, Nat.zero_le _, rfl, Lib.hid ⟨h4, HG.out.2, Save.refl _ _⟩⟩
    case round =>
      obtain ⟨j, ll, hgk, hj, rfl, HO2⟩ := hrel
      have HGK := Lib.hid hgk
      clear hgk
      by_cases hlt2 : j < nb
      · have hrd := HO2.out.1.asSlice1 HO2.out.2.1
        obtain ⟨g', o', he, hcell⟩ := hrd.2.2 (by omega)
        injection he with he
        injection he with he1 he2
        subst he1
        subst he2
        have hc1 := hcell j hlt2
        rw [Nat.zero_add] at hc1
        obtain ⟨y, hy⟩ : ∃ y, y = ll.getD j 0 := ⟨_, rfl⟩
        have hy2 : y < 256 := by
          rw [hy]
          exact hrd.2.1 _ (by simp [List.getD, show j < ll.length by rw [HO2.out.2.1]; exact hlt2])
        rw [← hy] at hc1
        have hf : wr.frozen? ⟨gO, j, none⟩ = false := by
          rcases HO2.out.1.2.2 with ⟨hv, _⟩ | ⟨g', cap', cur, hv, _, hgo, _⟩
          · cases hv
          · injection hv with e1 e2 e3
            injection e1 with e1
            injection e1 with e1
            subst e1
            simp [World.frozen?, hgo]
        obtain ⟨y2, hbt, hy3⟩ : ∃ y2 : Nat, bits BinOp.xor IntKind.u8 (y : Int) 255 = (y2 : Int) ∧ y2 < 256 := ⟨y ^^^ 255, u8_xor_nat y 255 hy2 (by omega), Nat.xor_lt_two_pow (n := 8) hy2 (by omega)⟩
        have HY3 := Lib.hid hy3
        clear hcell hrd hy hy2 hy3
        go_wp2
        go_roundg (nb - (j + 1))
        case measure => have := HGK.out; omega
        case rel => exact ⟨j + 1, ll.set j y2, rfl, by omega, by go_num, Lib.hid ⟨HO2.out.1.set HO2.out.2.1 j y2 HY3.out, by rw [List.length_set]; exact HO2.out.2.1, HO2.out.2.2.trans (Save.set _ _ _ _)⟩⟩
      · have hjn : j = nb := by omega
        subst hjn
        obtain ⟨w4, hw4⟩ : ∃ w4, w4 = wr := ⟨_, rfl⟩
        rw [← hw4]
        have H4 : Hid (∃ F', Two Zt w w4 gt gp gm gq (Tst.put s t bb).1 (Tst.put s t bb).2.1 F' s t G ∧ w4.heap[gx]? = some (actObj K I Z (.slice ab j cb)) ∧ gO < w4.heap.size) := by
          obtain ⟨F', h2, h3, h4, h5⟩ := H3.out
          rw [hw4]
          have hgx' := HG.out.1
          have hS := HO2.out.2.2
          refine Lib.hid ⟨F', h2.save hS ?_, (hS.block gx (lt_of_block h5) (by simp; omega)).trans h5, Nat.lt_of_lt_of_le (h4.2.lt gO rfl).2 hS.size⟩
          intro k hk
          simp only [List.mem_singleton] at hk
          subst hk
          have h6 := HT1.out.1.liv.bel.size
          have h7 := HT1.out.2.1
          exact ⟨.inr (by omega), h3, fun hx => by have := HT1.out.2.2.2 k (.inr (.inl hx)); omega, fun hx => by have := HT1.out.2.2.2 k (.inr (.inr hx)); omega⟩
        clear hw4 HO2 H3
        have hx4 : w4.cell? ⟨gx, 3, none⟩ = some (.slice ab j cb) := by
          obtain ⟨F', h2, h3, h4⟩ := H4.out
          exact (act_cells h3).2.2.2
        have x4a := fun o => Lib.cell?_alloc_some (W := w4) o hx4
        go_wp2_with (at_builtin; refine wpList_fresh rfl (.tmp 56) (.tmp 58) rfl w4.heap.size rfl ab j cb rfl (heap_alloc_new w4 _) bb ((HRD.out.off (H4.out.elim fun _ h => h.1.liv.bel) HZB.out).later (Below.alloc0 _ _)) (by omega) ?nx1)
        case nx1 =>
          intro gM cM W5 hgM hM hg5
          have hb5 : Below w4.heap.size w4 W5 := (Below.alloc0 w4 _).grown hg5 (by simp) (by simp)
          have HM5 : Hid (Calls Try.prog 25 #[.pointer (some ⟨gm, 0, none⟩), .pointer (some ⟨gq, 0, none⟩), .agg #[.slice (some ⟨gM, 0, none⟩) j cM, .bool false]] W5 fun e w' => e = .returned (.int .i64 (E : Int)) ∧ Hid (Stepped Zt w gt gp gm gq t N w')) := by
            obtain ⟨F', hT4, hob4, hgO4⟩ := H4.out
            have hT := hT4.later hb5
            have hl4 := hT4.lts
            have hln : bb.length = j := HG.out.2
            have hcM : j ≤ cM := by
              obtain ⟨a', c', hv, _, hc⟩ := hM.sl
              injection hv with _ h2 h3
              omega
            refine Lib.hid ((mput_any W5 gm gq s t G [gM] hT.mod hT.mpw hT.gqG (some ⟨gM, 0, none⟩) j cM bb false (fun e => by cases e) (hM.asSlice1 hln) (by
              intro _ b o e
              injection e with e
              injection e with e
              subst e
              exact ⟨by simp, fun e => by have := hl4 gm (.inr (.inl hT.gmG)); omega, fun e => by have := hl4 gq (.inr (.inr rfl)); omega⟩) hcM HOK.out hnw).mono ?_)
            rintro e w' ⟨rfl, G', h2, h3, h4, h5⟩
            rw [mput_put] at h2 h3 ⊢
            refine ⟨by rw [HE.out], Lib.hid ⟨_, _, F', G', hT.model h2 h3 h4 h5 ?_, HLK.out.2, HLK.out.1⟩⟩
            intro k hk
            simp only [List.mem_singleton] at hk
            subst hk
            refine ⟨.inr (Nat.le_trans hT4.liv.bel.size hgM), fun hx => by have := hl4 k (.inl hx); omega, fun hx => by have := hl4 k (.inr (.inr hx)); omega⟩
          clear hM hg5 hgM hb5
          go_wp2_with fail
          refine HM5.out.mono ?_
          rintro e W6 ⟨rfl, H6⟩
          go_wp2
          go_ret
          exact ⟨by simp, H6.out⟩

theorem getD_small (P : List (List Nat)) (i : Nat) : (P.getD i []).length ≤ usedOf P := by
  by_cases hi : i < P.length
  · have h1 := usedOf_take_le P (i + 1)
    rw [take_snoc P [] hi, usedOf_snoc] at h1
    omega
  · have : P.getD i [] = [] := by simp [List.getD, List.getElem?_eq_none (Nat.le_of_not_lt hi)]
    rw [this]
    simp

theorem get_small {W : World} {gt gp : Nat} {s : Pw} {t : Tst} {F : List Nat} (h : Tap W gt gp s t F) : (Tst.get s t).2.1.length ≤ t.room := by
  obtain ⟨v, X, bW, bR, h⟩ := h
  have h1 := Nat.le_trans (getD_small t.P t.pos) h.fits
  unfold Tst.get
  split
  · simp
  · split
    · simp
    · split
      · simp
      · split
        · simp
        · exact h1

set_option maxHeartbeats 4000000 in
set_option maxRecDepth 100000 in
/-- Get. -/
theorem step2 (Zt : List Nat) (w W : World) (gt gp gm gq : Nat) (s : Pw) (t : Tst) (F G : List Nat) (h : Two Zt w W gt gp gm gq s t F s t G) (N : Nat) (hwi : s.within N) (hroom : t.room ≤ 1000000) (hnr : t.nr.length ≤ 1000000) (K : Nat) (I Z : Int) (v : Value) (hK : (K : Int) % 7 = 2) :
    Calls Try.prog 21 #[.pointer (some ⟨gt, 0, none⟩), .pointer (some ⟨gm, 0, none⟩), .pointer (some ⟨gq, 0, none⟩), .agg #[.int .u8 (K : Int), .int .i64 I, .int .i64 Z, v]] W fun e W' => e = .returned (.bool true) ∧ Stepped Zt w gt gp gm gq t N W' := by
  obtain ⟨W1, h1⟩ : ∃ W1, W1 = W.alloc (actObj K I Z v) := ⟨_, rfl⟩
  obtain ⟨gx, hgx⟩ : ∃ gx, gx = W.heap.size := ⟨_, rfl⟩
  have hob : W1.heap[gx]? = some (actObj K I Z v) := by rw [h1, hgx]; exact heap_alloc_new W _
  have hT1 : Two Zt w W1 gt gp gm gq s t F s t G := by rw [h1]; exact h.later (Below.alloc0 _ _)
  have hlts := hT1.lts
  have x0 := (act_cells hob).1
  obtain ⟨E, hE⟩ : ∃ E, E = (Tst.get s t).2.2 := ⟨_, rfl⟩
  obtain ⟨l, hl⟩ : ∃ l, l = (Tst.get s t).2.1 := ⟨_, rfl⟩
  obtain ⟨m, hm⟩ : ∃ m, m = l.length := ⟨_, rfl⟩
  have hmb : m ≤ 1000000 := by
    rw [hm, hl]
    exact Nat.le_trans (get_small hT1.liv.tap) hroom
  have HGET : Hid (Calls Try.prog 44 #[.pointer (some ⟨gt, 0, none⟩)] W1 fun e w' => ∃ aV cV, e = .returned (.tuple #[.slice aV m cV, .int .i64 (E : Int)]) ∧ Hid (Two Zt w w' gt gp gm gq s (Tst.get s t).1 F s t G ∧ Own w' W1.heap.size (.slice aV m cV) l)) := by
    refine Lib.hid ((get_any W1 gt gp s t F hT1.liv.tap hroom).mono ?_)
    rintro e w' ⟨v', rfl, h2, h3, h4⟩
    rw [← hl] at h2
    obtain ⟨aV, cV, rfl, _⟩ := h2.rd
    rw [← hm] at h2 ⊢
    exact ⟨aV, cV, by rw [hE], Lib.hid ⟨hT1.prog h3 (h4.mono (fun k hk => by simp [hk])) (fun k hk => .inl hk), h2⟩⟩
  have HM : Hid (∀ W2 : World, Two Zt w W2 gt gp gm gq s (Tst.get s t).1 F s t G → Calls Try.prog 28 #[.pointer (some ⟨gm, 0, none⟩), .pointer (some ⟨gq, 0, none⟩)] W2 fun e w' => ∃ a n c, e = .returned (.tuple #[.slice a n c, .int .i64 (E : Int)]) ∧ Hid (Two Zt w w' gt gp gm gq s (Tst.get s t).1 F s (Tst.get s t).1 G ∧ Rd w' a n l ∧ Save [gm] W2 w')) := by
    refine Lib.hid fun W2 hT => (mget_any W2 gm gq s t G hT.mod hT.mpw hnr).mono ?_
    rintro e w' ⟨a, n, c, rfl, h2, h3, h4⟩
    have hgmq : gq ∉ [gm] := by
      simp only [List.mem_singleton]
      rintro rfl
      exact hT.gqG hT.gmG
    exact ⟨a, n, c, by rw [hE], Lib.hid ⟨hT.model (A := []) h3 (hT.mpw.save h4 hgmq) (h4.mono (by simp)) (fun k hk => .inl hk) (by simp), by rw [hl]; exact h2, h4⟩⟩
  have HW1 := Lib.hid (And.intro h1 hgx)
  have HLK := Lib.hid (And.intro (get_like s t) (hwi.mono (show N ≤ N + 1 by omega)))
  have HLT := Lib.hid (And.intro hlts (And.intro hT1.liv.bel.size hT1.gmG))
  have HML := Lib.hid hm
  obtain ⟨S, hS⟩ : ∃ S, S = strB l := ⟨_, rfl⟩
  have HS := Lib.hid hS
  clear h h1 hgx hob hT1 hE hwi hlts hl hm hS
  go_enter Try.func21, Try.ntmps21
  go_upto_region 1 with fail
  change Code.wp _ _ _ _ (W.alloc (actObj K I Z v))
  rw [← HW1.out.1, ← HW1.out.2]
  go_wp2_with fail
  refine HGET.out.mono ?_
  rintro e W2 ⟨aV, cV, rfl, H2⟩
  go_wp2_with fail
  refine (HM.out W2 H2.out.1).mono ?_
  rintro e W3 ⟨a3, n3, c3, rfl, H3⟩
  have H3O : Hid (Own W3 W1.heap.size (.slice aV m cV) l) := by
    obtain ⟨hT, hO⟩ := H2.out
    obtain ⟨hb, h0, hor⟩ := hO
    refine Lib.hid ⟨hb, h0, hor.imp id ?_⟩
    rintro ⟨g, cap, cur, hv, hbg, hgo, rest⟩
    refine ⟨g, cap, cur, hv, hbg, (H3.out.2.2.block g (lt_of_block hgo) ?_).trans hgo, rest⟩
    simp only [List.mem_singleton]
    rintro rfl
    have := HLT.out.1 g (.inr (.inl HLT.out.2.2))
    omega
  have hcv : ∀ c, (convert 25 9 (.slice aV m c)).run Try.prog W3 = .ok (.string S) W3 := fun c => by
    rw [HS.out]
    exact conv_rd (H3O.out.asSlice1 HML.out.symm) c
  have hcv3 : ∀ c, (convert 25 9 (.slice a3 n3 c)).run Try.prog W3 = .ok (.string S) W3 := fun c => by
    rw [HS.out]
    exact conv_rd H3.out.2.1 c
  clear x0
  go_wp2
  go_loopg [97] m (fun gk i wq => ∃ (j : Nat) (ll : List Nat), gk = m - j ∧ j ≤ m ∧ i = .int .i64 (j : Int) ∧ Hid (Own wq W1.heap.size (.slice aV m cV) ll ∧ ll.length = m ∧ Save (Value.slice aV m cV).ownBlock.toList W3 wq))
  case atStart => exact ⟨0, l, rfl, Nat.zero_le _, rfl, Lib.hid ⟨H3O.out, HML.out.symm, Save.refl _ _⟩⟩
  case round =>
    obtain ⟨j, ll, hgk, hj, rfl, HO2⟩ := hrel
    have HGK := Lib.hid hgk
    clear hgk hcv hcv3
    by_cases hlt2 : j < m
    · have hO2 := HO2.out.1
      obtain ⟨gV, cV', hvv⟩ := hO2.held (by rw [HO2.out.2.1]; omega)
      injection hvv with hv1 hv2 hv3
      subst hv1
      have hrd := hO2.asSlice1 HO2.out.2.1
      obtain ⟨g', o', he, hcell⟩ := hrd.2.2 (by omega)
      injection he with he
      injection he with he1 he2
      subst he1
      subst he2
      have hc1 := hcell j hlt2
      rw [Nat.zero_add] at hc1
      obtain ⟨y, hy⟩ : ∃ y, y = ll.getD j 0 := ⟨_, rfl⟩
      have hy2 : y < 256 := by
        rw [hy]
        exact hrd.2.1 _ (by simp [List.getD, show j < ll.length by rw [HO2.out.2.1]; exact hlt2])
      rw [← hy] at hc1
      have hf : wr.frozen? ⟨gV, j, none⟩ = false := by
        rcases hO2.2.2 with ⟨hv, _⟩ | ⟨g', cap', cur, hv, _, hgo, _⟩
        · cases hv
        · injection hv with e1 e2 e3
          injection e1 with e1
          injection e1 with e1
          subst e1
          simp [World.frozen?, hgo]
      obtain ⟨y2, hbt, hy3⟩ : ∃ y2 : Nat, bits BinOp.xor IntKind.u8 (y : Int) 255 = (y2 : Int) ∧ y2 < 256 := ⟨y ^^^ 255, u8_xor_nat y 255 hy2 (by omega), Nat.xor_lt_two_pow (n := 8) hy2 (by omega)⟩
      have HY3 := Lib.hid hy3
      clear hcell hrd hy hy2 hy3 hv2 hv3 hO2
      go_wp2
      go_roundg (m - (j + 1))
      case measure => have := HGK.out; omega
      case rel => exact ⟨j + 1, ll.set j y2, rfl, by omega, by go_num, Lib.hid ⟨HO2.out.1.set HO2.out.2.1 j y2 HY3.out, by rw [List.length_set]; exact HO2.out.2.1, HO2.out.2.2.trans ((Save.set _ _ _ _).mono (by intro k hk; simp only [List.mem_singleton] at hk; simp [Value.ownBlock, hk]))⟩⟩
    · have hjn : j = m := by omega
      subst hjn
      go_wp2
      go_ret
      refine ⟨by simp, _, _, F, G, H3.out.1.save HO2.out.2.2 ?_, HLK.out.2, HLK.out.1⟩
      intro k hk
      simp only [Option.mem_toList] at hk
      have hbk := (H3O.out.2.lt k hk).1
      have h6 := HLT.out.2.1
      exact ⟨.inr (by omega), fun hx => by have := HLT.out.1 k (.inl hx); omega, fun hx => by have := HLT.out.1 k (.inr (.inl hx)); omega, fun hx => by have := HLT.out.1 k (.inr (.inr hx)); omega⟩

end Go.Proofs.Ytcmbnijjkpfhlaa
