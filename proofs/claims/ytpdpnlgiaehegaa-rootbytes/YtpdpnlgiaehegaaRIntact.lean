/- The contract of root's intact. -/
import Derived.Test.YtpdpnlgiaehegaaRCommit
import Derived.Test.YtpdpnlgiaehegaaVRdr
namespace Go.Proofs.Ytpdpnlgiaehegaa
open Go.RowKit
set_option linter.unusedSimpArgs false

/-- The generation of a root sector that is intact, and its bytes. -/
def rInt (L : List Nat) (k i : Nat) (S : List Nat) : Option (Nat × List Nat) :=
  if le (S.take 8) = 0 ∨ le (S.take 8) ≠ le ((S.drop 56).take 8) ∨ le (S.take 8) % 2 ≠ i then none
  else if (rNum (rNum 0 ((S.take 56).drop 8) (64 * sect k)).2.1 (rNum 0 ((S.take 56).drop 8) (64 * sect k)).2.2 4294967295).2.1 ≠ 0 then none
  else if cSum (dCut L (2 + i * sect k) (rNum 0 ((S.take 56).drop 8) (64 * sect k)).1) ≠ (rNum (rNum 0 ((S.take 56).drop 8) (64 * sect k)).2.1 (rNum 0 ((S.take 56).drop 8) (64 * sect k)).2.2 4294967295).1 then none
  else some (le (S.take 8), dCut L (2 + i * sect k) (rNum 0 ((S.take 56).drop 8) (64 * sect k)).1)

def rGen : Option (Nat × List Nat) → Nat
  | none => 0
  | some x => x.1

def rB : Option (Nat × List Nat) → List Nat
  | none => []
  | some x => x.2

theorem rNum_le (E : Nat) (l : List Nat) (most : Nat) : (rNum E l most).1 ≤ most := by
  unfold rNum
  split
  · simp
  · split
    · simp
    · split
      · simp
      · simp; omega

theorem le8_lt {l : List Nat} (hb : ∀ x ∈ l, x < 256) : le (l.take 8) < 18446744073709551616 := le_take_lt hb 8

set_option maxRecDepth 100000 in
set_option maxHeartbeats 400000 in
theorem intact_any (w : World) (gr gd gp gb k G i : Nat) (s : Pw) (L : List Nat) (hr : w.heap[gr]? = some (rootObj gd G)) (h : Dsk w gd gp gb s L k) (hk : 4 ≤ k) (hk1 : k ≤ 1000) (ho : s.on = true) (hi : i < 2)
    (a : Option Addr) (c : Nat) (S : List Nat) (hS : Rd w a 64 S) (hc : 64 ≤ c) :
    Calls Try.prog 20 #[.pointer (some ⟨gr, 0, none⟩), .int .i64 (i : Int), .slice a 64 c] w fun e w' => ∃ v, e = .returned (.tuple #[.int .u64 (rGen (rInt L k i S) : Int), v, .bool (rInt L k i S).isSome]) ∧ Own w' w.heap.size v (rB (rInt L k i S)) ∧ Below w.heap.size w w' := by
  obtain ⟨bb, oo, rfl, hcl⟩ := hS.2.2 (by omega)
  clear hcl
  have e56 : cutA (some ⟨bb, oo, none⟩) c 56 = some ⟨bb, oo + 56, none⟩ := by rw [cutA, if_neg (by omega)]; simp [add_plain]
  have e8 : cutA (some ⟨bb, oo, none⟩) c 8 = some ⟨bb, oo + 8, none⟩ := by rw [cutA, if_neg (by omega)]; simp [add_plain]
  have HG1 := Lib.hid (genOf_any (some ⟨bb, oo, none⟩) 64 c S w hS (by omega) hc)
  have HG2 := Lib.hid (genOf_any (cutA (some ⟨bb, oo, none⟩) c 56) (64 - 56) (c - 56) (S.drop 56) w (hS.cut (by omega) hc) (by omega) (by omega))
  rw [e56] at HG2
  have hbs := hS.2.1
  have hg1 := le8_lt hbs
  have hg2 := le8_lt (l := S.drop 56) fun x hx => hbs x (List.mem_of_mem_drop hx)
  obtain ⟨R, hR⟩ : ∃ R, R = rInt L k i S := ⟨_, rfl⟩
  have hR' := hR
  unfold rInt at hR'
  rw [← hR]
  obtain ⟨g1, hg1e⟩ : ∃ g1, g1 = le (S.take 8) := ⟨_, rfl⟩
  obtain ⟨g2, hg2e⟩ : ∃ g2, g2 = le ((S.drop 56).take 8) := ⟨_, rfl⟩
  rw [← hg1e] at hR' HG1 hg1
  rw [← hg2e] at hR' HG2 hg2
  have HP := Lib.hid (place_any g1 w hg1)
  have HM : Hid (Rd w (some ⟨bb, oo + 8, none⟩) 48 ((S.take 56).drop 8)) := by
    have h := (hS.first (k := 56) (by omega)).cut (k := 8) (c := c) (by omega) (by omega)
    rw [e8] at h
    exact Lib.hid h
  obtain ⟨M, hMe⟩ : ∃ M, M = (S.take 56).drop 8 := ⟨_, rfl⟩
  rw [← hMe] at hR' HM
  have HR' := Lib.hid hR'
  have HR := Lib.hid hr
  have HD := Lib.hid h
  clear hR' hR hr h hS hbs hg1e hg2e hMe e56 e8
  by_cases h0 : g1 = 0
  · subst h0
    have hR2 : R = none := by have := HR'.out; simpa using this
    subst hR2
    go_enter Try.func20, Try.ntmps20
    go_wp2_with fail
    refine HG1.out.mono ?_
    rintro e w1 ⟨rfl, rfl⟩
    go_wp2
    go_ret3
    exact ⟨_, rfl, Own.nil _ _, Below.refl _ _⟩
  · have h0' : ((g1 : Int) == 0) = false := by simp; omega
    by_cases h2 : g1 = g2
    · subst h2
      by_cases h3 : g1 % 2 = i
      · have h3' : (((g1 % 2 : Nat) : Int) != (i : Int)) = false := by simp; omega
        have hR3 := HR'.out
        simp only [h0, h3, ne_eq, not_true_eq_false, or_self, if_false] at hR3
        have HR3 := Lib.hid hR3
        have hks : 64 * sect k ≤ 64000 := by unfold sect; omega
        have HRM : Hid (∀ W, Below w.heap.size w W → Calls Try.prog 10 #[.pointer (some ⟨gr, 0, none⟩)] W fun e w' => e = .returned (.int .i64 ((64 * sect k : Nat) : Int)) ∧ w' = W) :=
          Lib.hid fun W hW => room_any W gr gd gp gb k G s L ((hW.block gr (lt_of_block HR.out)).trans HR.out) (HD.out.later hW) hk
        obtain ⟨RM, hRM⟩ : ∃ RM, RM = 64 * sect k := ⟨_, rfl⟩
        rw [← hRM] at HRM HR3 hks
        have HRE := Lib.hid hRM
        clear hR3 hRM
        go_enter Try.func20, Try.ntmps20
        go_wp2_with fail
        refine HG1.out.mono ?_
        rintro e w1 ⟨rfl, rfl⟩
        go_wp2_with fail
        refine HG2.out.mono ?_
        rintro e w1 ⟨rfl, rfl⟩
        go_wp2_with fail
        refine HP.out.mono ?_
        rintro e w1 ⟨rfl, rfl⟩
        go_wp2_with fail
        refine (open_any (some ⟨bb, oo + 8, none⟩) 48 _ M w1 HM.out (by omega)).mono ?_
        rintro e w2 ⟨gn, rfl, hgn, hrd, hb2⟩
        have HB2 := Lib.hid hb2
        have HRD := Lib.hid hrd
        have HGN := Lib.hid hgn
        clear hb2 hrd hgn
        go_wp2_with fail
        refine (HRM.out _ HB2.out).mono ?_
        rintro e w3 ⟨rfl, rfl⟩
        go_wp2_with fail
        have hN1 := number_any w3 gn 0 M RM HRD.out
        obtain ⟨Y1, hY1⟩ : ∃ Y1, Y1 = rNum 0 M RM := ⟨_, rfl⟩
        have hle := rNum_le 0 M RM
        rw [← hY1] at hN1 HR3 hle
        obtain ⟨x1, E1, M1⟩ := Y1
        simp only at hN1 HR3 hle
        clear hY1
        refine hN1.mono ?_
        clear hN1
        rintro e w4 ⟨rfl, hrd4, hgr4⟩
        have HB4 := Lib.hid (HB2.out.grown hgr4 HB2.out.size (by intro k hk; injection hk with hk; have := HGN.out; omega))
        have HRD4 := Lib.hid hrd4
        clear hrd4 hgr4
        go_wp2_with fail
        have hN2 := number_any w4 gn E1 M1 4294967295 HRD4.out
        obtain ⟨Y2, hY2⟩ : ∃ Y2, Y2 = rNum E1 M1 4294967295 := ⟨_, rfl⟩
        have hle2 := rNum_le E1 M1 4294967295
        rw [← hY2] at hN2 HR3 hle2
        obtain ⟨x2, E2, M2⟩ := Y2
        simp only at hN2 HR3 hle2
        clear hY2
        refine hN2.mono ?_
        clear hN2
        rintro e w5 ⟨rfl, hrd5, hgr5⟩
        have HB5 := Lib.hid (HB4.out.grown hgr5 HB4.out.size (by intro k hk; injection hk with hk; have := HGN.out; omega))
        have HRD5 := Lib.hid hrd5
        clear hrd5 hgr5
        go_wp2_with fail
        refine (failed_any w5 gn E2 M2 HRD5.out).mono ?_
        rintro e w6 ⟨rfl, rfl⟩
        by_cases hE2 : E2 = 0
        · subst hE2
          have hR4 := HR3.out
          simp only [ne_eq, not_true_eq_false, if_false] at hR4
          have HR4 := Lib.hid hR4
          have hr5 : w5.heap[gr]? = some (rootObj gd G) := (HB5.out.block gr (lt_of_block HR.out)).trans HR.out
          have hd5 : Dsk w5 gd gp gb s L k := HD.out.later HB5.out
          have hc0 := (root_cells hr5).1
          have hsk : 2 + 2 * sect k ≤ k := by unfold sect; omega
          have hai : 2 + i * sect k ≤ 2 + sect k ∧ 64 * sect k ≤ 64 * (k - (2 + i * sect k)) := by
            rcases (by omega : i = 0 ∨ i = 1) with h | h <;> rw [h] <;> omega
          have HAR : Hid (∀ W, Save [] w5 W → Calls Try.prog 24 #[.pointer (some ⟨gr, 0, none⟩), .int .i64 (i : Int)] W fun e w' => e = .returned (.int .i64 ((2 + i * sect k : Nat) : Int)) ∧ w' = W) :=
            Lib.hid fun W hW => area_any W gr gd gp gb k G i s L ((hW.block gr (lt_of_block hr5) (by simp)).trans hr5) (hd5.save hW (by simp)) hk hi
          have HGA : Hid (∀ W, Save [] w5 W → Calls Try.prog 14 #[.pointer (some ⟨gd, 0, none⟩), .int .i64 ((2 + i * sect k : Nat) : Int), .int .i64 (IntKind.i64.wrap (x1 : Int))] W fun e w' => ∃ v, e = .returned (.tuple #[v, .int .i64 0]) ∧ Own w' W.heap.size v (dCut L (2 + i * sect k) x1) ∧ Below W.heap.size W w') :=
            Lib.hid fun W hW => by
              rw [show IntKind.i64.wrap (x1 : Int) = (x1 : Int) by rw [IntKind.wrap_i64] <;> omega]
              exact getAll_yes W gd gp gb k s L (2 + i * sect k) x1 (hd5.save hW (by simp)) (by omega) (by have := HRE.out; omega) ho (by omega)
          have HKQ : Hid (∀ W, Save [] w5 W → W.cell? ⟨gr, 0, none⟩ = some (.pointer (some ⟨gd, 0, none⟩))) :=
            Lib.hid fun W hW => (root_cells ((hW.block gr (lt_of_block hr5) (by simp)).trans hr5)).1
          obtain ⟨A, hA⟩ : ∃ A, A = 2 + i * sect k := ⟨_, rfl⟩
          rw [← hA] at HAR HGA HR4
          have hlen : (dCut L A x1).length ≤ 64000 := by unfold dCut; simp; omega
          obtain ⟨B, hB⟩ : ∃ B, B = dCut L A x1 := ⟨_, rfl⟩
          rw [← hB] at HGA HR4 hlen
          have HL := Lib.hid hlen
          clear hR4 hr5 hd5 hsk hai hA hB hlen
          go_upto_region 9 with fail
          go_region_held3 (fun W => W.cell? ⟨gr, 0, none⟩ = some (.pointer (some ⟨gd, 0, none⟩)))
            (first
              | exact HKQ.out _ (Save.refl _ _).drew
              | exact HKQ.out _ ((Save.refl _ _).drew.trans (Save.of_below hb7 _))
              | go_keep)
            (first
              | (go_at_call 24; refine (HAR.out _ ?_).mono ?_; exact (Save.refl _ _).drew; rintro e wA ⟨rfl, rfl⟩)
              | (go_at_call 14; refine (HGA.out _ ?_).mono ?_; exact (Save.refl _ _).drew; rintro e w7 ⟨v7, rfl, ho7, hb7⟩))
          have hb8 : Below w5.heap.size w5 w7 := (Below.refl _ _).drew.trans hb7
          obtain ⟨a7, c7, rfl, hr7, hc7⟩ := ho7.sl
          have HO7 := Lib.hid ho7
          have HB7 := Lib.hid (HB5.out.trans (hb8.mono HB5.out.size))
          have HR7 := Lib.hid hr7
          have HSZ := Lib.hid (Nat.le_trans HB5.out.size hb8.size)
          have HB8 := Lib.hid hb8
          have hsum := cSum_lt B
          clear ho7 hb7 hr7 hb8
          obtain ⟨Q, hQ⟩ : ∃ Q, Q = cSum B := ⟨_, rfl⟩
          have HQ := Lib.hid hQ
          rw [← hQ] at HR4 hsum
          clear hQ
          go_wp2_with fail
          refine (of_one HR7.out (by have := HL.out; omega) 32).mono ?_
          rintro e w8 ⟨rfl, rfl⟩
          rw [← HQ.out]
          by_cases hQx : Q = x2
          · subst hQx
            have hR5 : R = some (g1, B) := by have := HR4.out; simpa using this
            subst hR5
            go_wp2
            go_ret3
            exact ⟨_, rfl, (HO7.out.mono HB5.out.size).alloc _, HB7.out.alloc (by have := HB7.out.size; omega) _⟩
          · have hR5 : R = none := by have := HR4.out; simpa [hQx] using this
            subst hR5
            have hQ' : ((Q : Int) != (x2 : Int)) = true := by simp; omega
            go_wp2
            go_ret3
            exact ⟨_, rfl, Own.nil _ _, HB7.out.alloc (by have := HB7.out.size; omega) _⟩
        · have hE' : ((E2 : Int) != 0) = true := by simp; omega
          have hR4 : R = none := by have := HR3.out; simpa [hE2] using this
          subst hR4
          go_wp2
          go_ret3
          exact ⟨_, rfl, Own.nil _ _, HB5.out⟩
      · have hR2 : R = none := by have := HR'.out; simpa [h0, h3] using this
        subst hR2
        have h3' : (((g1 % 2 : Nat) : Int) != (i : Int)) = true := by simp; omega
        go_enter Try.func20, Try.ntmps20
        go_wp2_with fail
        refine HG1.out.mono ?_
        rintro e w1 ⟨rfl, rfl⟩
        go_wp2_with fail
        refine HG2.out.mono ?_
        rintro e w1 ⟨rfl, rfl⟩
        go_wp2_with fail
        refine HP.out.mono ?_
        rintro e w1 ⟨rfl, rfl⟩
        go_wp2
        go_ret3
        exact ⟨_, rfl, Own.nil _ _, Below.refl _ _⟩
    · have hR2 : R = none := by have := HR'.out; simpa [h0, h2] using this
      subst hR2
      have h2' : ((g1 : Int) != (g2 : Int)) = true := by simp; omega
      go_enter Try.func20, Try.ntmps20
      go_wp2_with fail
      refine HG1.out.mono ?_
      rintro e w1 ⟨rfl, rfl⟩
      go_wp2_with fail
      refine HG2.out.mono ?_
      rintro e w1 ⟨rfl, rfl⟩
      go_wp2
      go_ret3
      exact ⟨_, rfl, Own.nil _ _, Below.refl _ _⟩

end Go.Proofs.Ytpdpnlgiaehegaa
