/- The contract of root's Commit. -/
import Derived.Test.YtaijjogjohbheaaGreatRSec
import Derived.Test.YtaijjogjohbheaaGreatOrders
import Derived.Test.YtaijjogjohbheaaGreatVRdAll
namespace Go.Proofs.YtaijjogjohbheaaGreat
open Go.RowKit
set_option maxRecDepth 100000
set_option linter.unusedSimpArgs false

/-- What Commit does: power behind it, the disk's bytes, the error. -/
def rCom (s : Pw) (L : List Nat) (k G : Nat) (b : List Nat) : Pw × List Nat × Nat :=
  if (dAll s L (2 + (G + 1) % 2 * sect k) b).2.2 ≠ 0 then dAll s L (2 + (G + 1) % 2 * sect k) b
  else dPut (dAll s L (2 + (G + 1) % 2 * sect k) b).1 (dAll s L (2 + (G + 1) % 2 * sect k) b).2.1 ((G + 1) % 2) (rSec (G + 1) b)

theorem Rd.saveIf {w w' : World} {X : List Nat} {a : Option Addr} {n : Nat} {l : List Nat} (h : Rd w a n l) (hs : Save X w w') (hX : 0 < n → ∀ b o, a = some ⟨b, o, none⟩ → b ∉ X) : Rd w' a n l := by
  refine ⟨h.1, h.2.1, fun hn => ?_⟩
  exact (h.save hs (hX hn)).2.2 hn

theorem dPut_within {s : Pw} {N : Nat} (h : s.within N) (L : List Nat) (i : Nat) (b : List Nat) : (dPut s L i b).1.within (N + 1) := h.write

theorem commit_full (w : World) (gr gd gp gb k G : Nat) (s : Pw) (L : List Nat) (hr : w.heap[gr]? = some (rootObj gd G)) (h : Dsk w gd gp gb s L k) (hk : 4 ≤ k) (a : Option Addr) (n c : Nat) (hn : 64 * sect k < n) :
    Calls Tryz.prog 56 #[.pointer (some ⟨gr, 0, none⟩), .slice a n c] w fun e w' => e = .returned (.int .i64 7) ∧ w' = w := by
  have HR := Lib.hid (room_any w gr gd gp gb k G s L hr h hk)
  obtain ⟨R, hR⟩ : ∃ R, R = 64 * sect k := ⟨_, rfl⟩
  rw [← hR] at HR hn
  have hn' : (R : Int) < (n : Int) := by omega
  clear hr h hR
  go_enter Tryz.func56, Tryz.ntmps56
  go_wp2_with fail
  refine HR.out.mono ?_
  rintro e w1 ⟨rfl, rfl⟩
  go_wp2
  go_ret
  exact ⟨rfl, rfl⟩

set_option maxRecDepth 100000 in
set_option maxHeartbeats 400000 in
theorem commit_any (w : World) (gr gd gp gb k G N : Nat) (s : Pw) (L : List Nat) (hr : w.heap[gr]? = some (rootObj gd G)) (h : Dsk w gd gp gb s L k) (hk : 4 ≤ k) (hne : gr ≠ gd ∧ gr ≠ gp ∧ gr ≠ gb) (hG : G < 1000000) (hw : s.within N) (hN : N < 4000000000000)
    (a : Option Addr) (n c : Nat) (b : List Nat) (hb : Rd w a n b) (hn : n ≤ 64 * sect k) (hnc : n ≤ c) (hoff : 0 < n → Off a [gp, gb]) :
    Calls Tryz.prog 56 #[.pointer (some ⟨gr, 0, none⟩), .slice a n c] w fun e w' => e = .returned (.int .i64 ((rCom s L k G b).2.2 : Int)) ∧
      Dsk w' gd gp gb (rCom s L k G b).1 (rCom s L k G b).2.1 k ∧ w'.heap[gr]? = some (rootObj gd (if (rCom s L k G b).2.2 = 0 then G + 1 else G)) ∧ Save [gp, gb, gr] w w' ∧ (rCom s L k G b).1.within (N + n + 1) := by
  have hks := h.ksmall
  have hs : sect k ≤ 32768 := by unfold sect; omega
  have hsk : 2 + 2 * sect k ≤ k := by unfold sect; omega
  obtain ⟨i, hi⟩ : ∃ i, i = (G + 1) % 2 := ⟨_, rfl⟩
  have hi2 : i < 2 := by omega
  have hai : 2 + i * sect k ≤ 2 + sect k ∧ 64 * sect k ≤ 64 * (k - (2 + i * sect k)) := by
    rcases (by omega : i = 0 ∨ i = 1) with rfl | rfl <;> omega
  have HRM := Lib.hid (room_any w gr gd gp gb k G s L hr h hk)
  have hsave : ∀ W, Save [] w W → W.heap[gr]? = some (rootObj gd G) ∧ Dsk W gd gp gb s L k ∧ Rd W a n b := fun W hW => ⟨(hW.block gr (lt_of_block hr) (by simp)).trans hr, h.save hW (by simp), hb.save hW (by simp)⟩
  have HAR : Hid (∀ W, Save [] w W → Calls Tryz.prog 72 #[.pointer (some ⟨gr, 0, none⟩), .int .i64 (i : Int)] W fun e w' => e = .returned (.int .i64 ((2 + i * sect k : Nat) : Int)) ∧ w' = W) :=
    Lib.hid fun W hW => area_any W gr gd gp gb k G i s L (hsave W hW).1 (hsave W hW).2.1 hk hi2
  obtain ⟨A, hA⟩ : ∃ A, A = 2 + i * sect k := ⟨_, rfl⟩
  have HPA : Hid (∀ W, Save [] w W → Calls Tryz.prog 86 #[.pointer (some ⟨gd, 0, none⟩), .int .i64 (A : Int), .slice a n c] W fun e w' => e = .returned (.int .i64 ((dAll s L A b).2.2 : Int)) ∧ Dsk w' gd gp gb (dAll s L A b).1 (dAll s L A b).2.1 k ∧ Save [gp, gb] W w' ∧ (dAll s L A b).1.within (N + n)) :=
    Lib.hid fun W hW => putAll_yes W gd gp gb k s L A a n c N b (hsave W hW).2.1 hw (by omega) (by omega) (by omega) (hsave W hW).2.2 hnc hoff
  have HKP : Hid (∀ W, Save [gp, gb] w W → W.cell? ⟨gr, 0, none⟩ = some (.pointer (some ⟨gd, 0, none⟩))) :=
    Lib.hid fun W hW => (root_cells ((hW.block gr (lt_of_block hr) (by simp; omega)).trans hr)).1
  have hm : rCom s L k G b = if (dAll s L A b).2.2 ≠ 0 then dAll s L A b else dPut (dAll s L A b).1 (dAll s L A b).2.1 i (rSec (G + 1) b) := by rw [rCom, ← hi, ← hA]
  obtain ⟨Z, hZ⟩ : ∃ Z, Z = rCom s L k G b := ⟨_, rfl⟩
  rw [← hZ] at hm ⊢
  obtain ⟨Y, hY⟩ : ∃ Y, Y = dAll s L A b := ⟨_, rfl⟩
  rw [← hY] at hm HPA
  rw [← hA] at HAR
  obtain ⟨c0, c1⟩ := root_cells hr
  obtain ⟨R, hR⟩ : ∃ R, R = 64 * sect k := ⟨_, rfl⟩
  rw [← hR] at HRM hn
  have hn' : ¬ (R : Int) < (n : Int) := by omega
  have HPL := Lib.hid (place_any (G + 1) w (by omega))
  have eG : ((G + 1 : Nat) : Int) = (G : Int) + 1 := by omega
  rw [← hi, eG] at HPL
  have HEG := Lib.hid eG
  clear eG
  have hfull : ((G : Int) == 18446744073709551615) = false := by simp; omega
  have HR := Lib.hid hr
  have HB := Lib.hid hb
  have HM := Lib.hid hm
  have HY := Lib.hid hY
  have HOFF : Hid (0 < n → Off a [gp, gb]) := Lib.hid hoff
  have HNE := Lib.hid hne
  have HS := Lib.hid hs
  have HLT := Lib.hid h.lts
  have HRI := Lib.hid hR
  have HHN := Lib.hid hN
  clear hr hb hm hY hZ hR hoff h hai hA hi hne hsk hs hN hw hsave
  go_enter Tryz.func56, Tryz.ntmps56
  go_wp2_with fail
  refine HRM.out.mono ?_
  rintro e w1 ⟨rfl, rfl⟩
  go_wp2_with fail
  refine HPL.out.mono ?_
  rintro e w2 ⟨rfl, rfl⟩
  obtain ⟨s1, L1, E1⟩ := Y
  simp only at HPA HM
  go_upto_region 7 with fail
  go_region_held3 (fun W => W.cell? ⟨gr, 0, none⟩ = some (.pointer (some ⟨gd, 0, none⟩)))
    (first
      | exact HKP.out _ (Save.refl _ _).drew
      | exact HKP.out _ ((Save.refl _ _).drew.trans hs4)
      | go_keep)
    (first
      | (go_at_call 72; refine (HAR.out _ ?_).mono ?_; exact (Save.refl _ _).drew; rintro e wA ⟨rfl, rfl⟩)
      | (go_at_call 86; refine (HPA.out _ ?_).mono ?_; exact (Save.refl _ _).drew; rintro e w4 ⟨rfl, hd4, hs4, hw4⟩))
  rename_i hheld
  clear hheld
  have hs4 : Save [gp, gb] w2 w4 := (Save.refl _ _).drew.trans hs4
  have hr4 : w4.heap[gr]? = some (rootObj gd G) := (hs4.block gr (lt_of_block HR.out) (by have := HNE.out; simp; omega)).trans HR.out
  obtain ⟨d0, d1⟩ := root_cells hr4
  by_cases hE : E1 = 0
  · subst hE
    have hZ : Z = dPut s1 L1 i (rSec (G + 1) b) := by have := HM.out; simpa using this
    have hb4 : Rd w4 a n b := HB.out.saveIf hs4 (fun hn x o e => HOFF.out hn ⟨x, o, none⟩ e)
    have HRS : Hid (∀ W, Save [] w4 W → Calls Tryz.prog 88 #[.int .u64 ((G : Int) + 1), .slice a n c] W fun e w' => ∃ v, e = .returned v ∧ Own w' W.heap.size v (rSec (G + 1) b) ∧ Below W.heap.size W w') := by
      refine Lib.hid fun W hW => ?_
      have h := rootSector_any (G + 1) a n c b W (hb4.save hW (by simp)) (by have := HS.out; have := HRI.out; omega)
      rw [HEG.out] at h
      exact h
    have HKQ : Hid (∀ W, Save [gp, gb] w4 W → W.cell? ⟨gr, 0, none⟩ = some (.pointer (some ⟨gd, 0, none⟩))) :=
      Lib.hid fun W hW => (root_cells ((hW.block gr (lt_of_block hr4) (by have := HNE.out; simp; omega)).trans hr4)).1
    have HD4 := Lib.hid hd4
    have HS4 := Lib.hid hs4
    have HW4 := Lib.hid hw4
    have HR4 := Lib.hid hr4
    have HZ := Lib.hid hZ
    have HL := Lib.hid hb4.1
    have HPU : Hid (∀ W v, Save [] w4 W → Own W w4.heap.size v (rSec (G + 1) b) → Calls Tryz.prog 87 #[.pointer (some ⟨gd, 0, none⟩), .int .i64 (i : Int), v] W fun e w' => e = .returned (.int .i64 (Z.2.2 : Int)) ∧ Dsk w' gd gp gb Z.1 Z.2.1 k ∧ Save [gp, gb] W w') := by
      refine Lib.hid fun W v hW ho => ?_
      obtain ⟨a5, c5, rfl, hr5, hc5⟩ := ho.sl
      have e64 : (rSec (G + 1) b).length = 64 := rSec_len _ _ (by have := HS.out; have := HRI.out; have := hb4.1; omega)
      rw [e64] at hr5 ⊢
      rw [hZ]
      exact put_yes W gd gp gb k s1 L1 i a5 64 c5 (rSec (G + 1) b) (hd4.save hW (by simp)) (hw4.ok (by have := HHN.out; have := HS.out; have := HRI.out; omega)) (by omega) (by omega) hr5
    clear hd4 hs4 hw4 hr4 hb4 hZ
    obtain ⟨s2, L2, E2⟩ := Z
    simp only at HPU HZ HM
    go_upto_region 10 with fail
    go_region_held3 (fun W => W.cell? ⟨gr, 0, none⟩ = some (.pointer (some ⟨gd, 0, none⟩)))
      (first
        | exact HKQ.out _ (Save.refl _ _).drew
        | exact HKQ.out _ ((Save.refl _ _).drew.trans (Save.of_below hb5 _))
        | exact HKQ.out _ (((Save.refl _ _).drew.trans (Save.of_below hb5 _)).trans hs6)
        | go_keep)
      (first
        | (go_at_call 88; refine (HRS.out _ ?_).mono ?_; exact (Save.refl _ _).drew; rintro e w5 ⟨v5, rfl, ho5, hb5⟩)
        | (go_at_call 87; refine (HPU.out _ _ ?_ ho5).mono ?_; exact (Save.refl _ _).drew.trans (Save.of_below hb5 _); rintro e w6 ⟨rfl, hd6, hs6⟩))
    have hs6' : Save [gp, gb] w4 w6 := ((Save.refl _ _).drew.trans (Save.of_below hb5 _)).trans hs6
    have hw6 : s2.within (N + n + 1) := by have := dPut_within HW4.out L1 i (rSec (G + 1) b); rw [← HZ.out] at this; exact this
    have hr6 : w6.heap[gr]? = some (rootObj gd G) := (hs6'.block gr (lt_of_block HR4.out) (by have := HNE.out; simp; omega)).trans HR4.out
    have hs7 : Save [gp, gb, gr] w2 w6 := (HS4.out.mono (by simp)).trans (hs6'.mono (by simp))
    have HD6 := Lib.hid hd6
    have HW6 := Lib.hid hw6
    have HS7 := Lib.hid hs7
    have HR6 := Lib.hid hr6
    obtain ⟨d6, d7⟩ := root_cells hr6
    have f6 := root_soft hr6 1
    clear hd6 hw6 hs7 hs6 hr6 hs6' ho5 hb5
    by_cases hE2 : E2 = 0
    · subst hE2
      go_wp2
      go_ret
      have ew := root_set HR6.out (G + 1)
      rw [HEG.out] at ew
      rw [ew]
      refine ⟨rfl, ?_, ?_, HS7.out.put (by simp) _, HW6.out⟩
      · exact HD6.out.save (X := [gr]) ((Save.refl _ _).put (by simp) _) (by have := HNE.out; simp; omega)
      · exact put_same HR6.out
    · have hE' : ((E2 : Int) != 0) = true := by simp; omega
      go_wp2
      go_ret
      exact ⟨rfl, HD6.out, HR6.out, HS7.out, HW6.out⟩
  · have hZ : Z = (s1, L1, E1) := by have := HM.out; simpa [hE] using this
    subst hZ
    have hE' : ((E1 : Int) != 0) = true := by simp; omega
    have HD4 := Lib.hid hd4
    have HS4 := Lib.hid hs4
    have HW4 := Lib.hid hw4
    have HR4 := Lib.hid hr4
    clear hd4 hs4 hw4 hr4
    go_wp2
    go_ret
    exact ⟨rfl, HD4.out, HR4.out, HS4.out.mono (by simp), HW4.out.mono (by omega)⟩

end Go.Proofs.YtaijjogjohbheaaGreat

/- The contract of root's intact. -/
namespace Go.Proofs.YtaijjogjohbheaaGreat
open Go.RowKit
set_option maxRecDepth 100000
set_option linter.unusedSimpArgs false

/-- The generation of a root sector that is intact, and its bytes. -/
def rInt (L : List Nat) (k i : Nat) (S : List Nat) : Option (Nat × List Nat) :=
  if le (S.take 8) = 0 ∨ le (S.take 8) ≠ le ((S.drop 56).take 8) ∨ le (S.take 8) % 2 ≠ i then none
  else if (rNum (rNum 0 ((S.take 56).drop 8) (64 * sect k)).2.1 (rNum 0 ((S.take 56).drop 8) (64 * sect k)).2.2 4294967295).2.1 ≠ 0 then none
  else if cSum (dCut L (2 + i * sect k) (rNum 0 ((S.take 56).drop 8) (64 * sect k)).1) ≠ (rNum (rNum 0 ((S.take 56).drop 8) (64 * sect k)).2.1 (rNum 0 ((S.take 56).drop 8) (64 * sect k)).2.2 4294967295).1 then none
  else some (le (S.take 8), dCut L (2 + i * sect k) (rNum 0 ((S.take 56).drop 8) (64 * sect k)).1)

def rGen : Option (Nat × List Nat) → Nat
  | none => 0
  | some x => x.1

def rB : Option (Nat × List Nat) → List Nat
  | none => []
  | some x => x.2

theorem rNum_leR (E : Nat) (l : List Nat) (most : Nat) : (rNum E l most).1 ≤ most := by
  unfold rNum
  split
  · simp
  · split
    · simp
    · split
      · simp
      · simp; omega

theorem le8_lt {l : List Nat} (hb : ∀ x ∈ l, x < 256) : le (l.take 8) < 18446744073709551616 := le_take_lt hb 8

set_option maxRecDepth 100000 in
set_option maxHeartbeats 400000 in
theorem intact_any (w : World) (gr gd gp gb k G i : Nat) (s : Pw) (L : List Nat) (hr : w.heap[gr]? = some (rootObj gd G)) (h : Dsk w gd gp gb s L k) (hk : 4 ≤ k) (hk1 : k ≤ 1000) (ho : s.on = true) (hi : i < 2)
    (a : Option Addr) (c : Nat) (S : List Nat) (hS : Rd w a 64 S) (hc : 64 ≤ c) :
    Calls Tryz.prog 44 #[.pointer (some ⟨gr, 0, none⟩), .int .i64 (i : Int), .slice a 64 c] w fun e w' => ∃ v, e = .returned (.tuple #[.int .u64 (rGen (rInt L k i S) : Int), v, .bool (rInt L k i S).isSome]) ∧ Own w' w.heap.size v (rB (rInt L k i S)) ∧ Below w.heap.size w w' := by
  obtain ⟨bb, oo, rfl, hcl⟩ := hS.2.2 (by omega)
  clear hcl
  have e56 : cutA (some ⟨bb, oo, none⟩) c 56 = some ⟨bb, oo + 56, none⟩ := by rw [cutA, if_neg (by omega)]; simp [add_plain]
  have e8 : cutA (some ⟨bb, oo, none⟩) c 8 = some ⟨bb, oo + 8, none⟩ := by rw [cutA, if_neg (by omega)]; simp [add_plain]
  have HG1 := Lib.hid (genOf_any (some ⟨bb, oo, none⟩) 64 c S w hS (by omega) hc)
  have HG2 := Lib.hid (genOf_any (cutA (some ⟨bb, oo, none⟩) c 56) (64 - 56) (c - 56) (S.drop 56) w (hS.cut (by omega) hc) (by omega) (by omega))
  rw [e56] at HG2
  have hbs := hS.2.1
  have hg1 := le8_lt hbs
  have hg2 := le8_lt (l := S.drop 56) fun x hx => hbs x (List.mem_of_mem_drop hx)
  obtain ⟨R, hR⟩ : ∃ R, R = rInt L k i S := ⟨_, rfl⟩
  have hR' := hR
  unfold rInt at hR'
  rw [← hR]
  obtain ⟨g1, hg1e⟩ : ∃ g1, g1 = le (S.take 8) := ⟨_, rfl⟩
  obtain ⟨g2, hg2e⟩ : ∃ g2, g2 = le ((S.drop 56).take 8) := ⟨_, rfl⟩
  rw [← hg1e] at hR' HG1 hg1
  rw [← hg2e] at hR' HG2 hg2
  have HP := Lib.hid (place_any g1 w hg1)
  have HM : Hid (Rd w (some ⟨bb, oo + 8, none⟩) 48 ((S.take 56).drop 8)) := by
    have h := (hS.first (k := 56) (by omega)).cut (k := 8) (c := c) (by omega) (by omega)
    rw [e8] at h
    exact Lib.hid h
  obtain ⟨M, hMe⟩ : ∃ M, M = (S.take 56).drop 8 := ⟨_, rfl⟩
  rw [← hMe] at hR' HM
  have HR' := Lib.hid hR'
  have HR := Lib.hid hr
  have HD := Lib.hid h
  clear hR' hR hr h hS hbs hg1e hg2e hMe e56 e8
  by_cases h0 : g1 = 0
  · subst h0
    have hR2 : R = none := by have := HR'.out; simpa using this
    subst hR2
    go_enter Tryz.func44, Tryz.ntmps44
    go_wp2_with fail
    refine HG1.out.mono ?_
    rintro e w1 ⟨rfl, rfl⟩
    go_wp2
    go_ret3
    exact ⟨_, rfl, Own.nil _ _, Below.refl _ _⟩
  · have h0' : ((g1 : Int) == 0) = false := by simp; omega
    by_cases h2 : g1 = g2
    · subst h2
      by_cases h3 : g1 % 2 = i
      · have h3' : (((g1 % 2 : Nat) : Int) != (i : Int)) = false := by simp; omega
        have hR3 := HR'.out
        simp only [h0, h3, ne_eq, not_true_eq_false, or_self, if_false] at hR3
        have HR3 := Lib.hid hR3
        have hks : 64 * sect k ≤ 64000 := by unfold sect; omega
        have HRM : Hid (∀ W, Below w.heap.size w W → Calls Tryz.prog 70 #[.pointer (some ⟨gr, 0, none⟩)] W fun e w' => e = .returned (.int .i64 ((64 * sect k : Nat) : Int)) ∧ w' = W) :=
          Lib.hid fun W hW => room_any W gr gd gp gb k G s L ((hW.block gr (lt_of_block HR.out)).trans HR.out) (HD.out.later hW) hk
        obtain ⟨RM, hRM⟩ : ∃ RM, RM = 64 * sect k := ⟨_, rfl⟩
        rw [← hRM] at HRM HR3 hks
        have HRE := Lib.hid hRM
        clear hR3 hRM
        go_enter Tryz.func44, Tryz.ntmps44
        go_wp2_with fail
        refine HG1.out.mono ?_
        rintro e w1 ⟨rfl, rfl⟩
        go_wp2_with fail
        refine HG2.out.mono ?_
        rintro e w1 ⟨rfl, rfl⟩
        go_wp2_with fail
        refine HP.out.mono ?_
        rintro e w1 ⟨rfl, rfl⟩
        go_wp2_with fail
        refine (open_any (some ⟨bb, oo + 8, none⟩) 48 _ M w1 HM.out (by omega)).mono ?_
        rintro e w2 ⟨gn, rfl, hgn, hrd, hb2⟩
        have HB2 := Lib.hid hb2
        have HRD := Lib.hid hrd
        have HGN := Lib.hid hgn
        clear hb2 hrd hgn
        go_wp2_with fail
        refine (HRM.out _ HB2.out).mono ?_
        rintro e w3 ⟨rfl, rfl⟩
        go_wp2_with fail
        have hN1 := number_any w3 gn 0 M RM HRD.out
        obtain ⟨Y1, hY1⟩ : ∃ Y1, Y1 = rNum 0 M RM := ⟨_, rfl⟩
        have hle := rNum_leR 0 M RM
        rw [← hY1] at hN1 HR3 hle
        obtain ⟨x1, E1, M1⟩ := Y1
        simp only at hN1 HR3 hle
        clear hY1
        refine hN1.mono ?_
        clear hN1
        rintro e w4 ⟨rfl, hrd4, hgr4⟩
        have HB4 := Lib.hid (HB2.out.grown hgr4 HB2.out.size (by intro k hk; injection hk with hk; have := HGN.out; omega))
        have HRD4 := Lib.hid hrd4
        clear hrd4 hgr4
        go_wp2_with fail
        have hN2 := number_any w4 gn E1 M1 4294967295 HRD4.out
        obtain ⟨Y2, hY2⟩ : ∃ Y2, Y2 = rNum E1 M1 4294967295 := ⟨_, rfl⟩
        have hle2 := rNum_leR E1 M1 4294967295
        rw [← hY2] at hN2 HR3 hle2
        obtain ⟨x2, E2, M2⟩ := Y2
        simp only at hN2 HR3 hle2
        clear hY2
        refine hN2.mono ?_
        clear hN2
        rintro e w5 ⟨rfl, hrd5, hgr5⟩
        have HB5 := Lib.hid (HB4.out.grown hgr5 HB4.out.size (by intro k hk; injection hk with hk; have := HGN.out; omega))
        have HRD5 := Lib.hid hrd5
        clear hrd5 hgr5
        go_wp2_with fail
        refine (failed_any w5 gn E2 M2 HRD5.out).mono ?_
        rintro e w6 ⟨rfl, rfl⟩
        by_cases hE2 : E2 = 0
        · subst hE2
          have hR4 := HR3.out
          simp only [ne_eq, not_true_eq_false, if_false] at hR4
          have HR4 := Lib.hid hR4
          have hr5 : w5.heap[gr]? = some (rootObj gd G) := (HB5.out.block gr (lt_of_block HR.out)).trans HR.out
          have hd5 : Dsk w5 gd gp gb s L k := HD.out.later HB5.out
          have hc0 := (root_cells hr5).1
          have hsk : 2 + 2 * sect k ≤ k := by unfold sect; omega
          have hai : 2 + i * sect k ≤ 2 + sect k ∧ 64 * sect k ≤ 64 * (k - (2 + i * sect k)) := by
            rcases (by omega : i = 0 ∨ i = 1) with h | h <;> rw [h] <;> omega
          have HAR : Hid (∀ W, Save [] w5 W → Calls Tryz.prog 72 #[.pointer (some ⟨gr, 0, none⟩), .int .i64 (i : Int)] W fun e w' => e = .returned (.int .i64 ((2 + i * sect k : Nat) : Int)) ∧ w' = W) :=
            Lib.hid fun W hW => area_any W gr gd gp gb k G i s L ((hW.block gr (lt_of_block hr5) (by simp)).trans hr5) (hd5.save hW (by simp)) hk hi
          have HGA : Hid (∀ W, Save [] w5 W → Calls Tryz.prog 67 #[.pointer (some ⟨gd, 0, none⟩), .int .i64 ((2 + i * sect k : Nat) : Int), .int .i64 (IntKind.i64.wrap (x1 : Int))] W fun e w' => ∃ v, e = .returned (.tuple #[v, .int .i64 0]) ∧ Own w' W.heap.size v (dCut L (2 + i * sect k) x1) ∧ Below W.heap.size W w') :=
            Lib.hid fun W hW => by
              rw [show IntKind.i64.wrap (x1 : Int) = (x1 : Int) by rw [IntKind.wrap_i64] <;> omega]
              exact getAll_yes W gd gp gb k s L (2 + i * sect k) x1 (hd5.save hW (by simp)) (by omega) (by have := HRE.out; omega) ho (by omega)
          have HKQ : Hid (∀ W, Save [] w5 W → W.cell? ⟨gr, 0, none⟩ = some (.pointer (some ⟨gd, 0, none⟩))) :=
            Lib.hid fun W hW => (root_cells ((hW.block gr (lt_of_block hr5) (by simp)).trans hr5)).1
          obtain ⟨A, hA⟩ : ∃ A, A = 2 + i * sect k := ⟨_, rfl⟩
          rw [← hA] at HAR HGA HR4
          have hlen : (dCut L A x1).length ≤ 64000 := by unfold dCut; simp; omega
          obtain ⟨B, hB⟩ : ∃ B, B = dCut L A x1 := ⟨_, rfl⟩
          rw [← hB] at HGA HR4 hlen
          have HL := Lib.hid hlen
          clear hR4 hr5 hd5 hsk hai hA hB hlen
          go_upto_region 9 with fail
          go_region_held3 (fun W => W.cell? ⟨gr, 0, none⟩ = some (.pointer (some ⟨gd, 0, none⟩)))
            (first
              | exact HKQ.out _ (Save.refl _ _).drew
              | exact HKQ.out _ ((Save.refl _ _).drew.trans (Save.of_below hb7 _))
              | go_keep)
            (first
              | (go_at_call 72; refine (HAR.out _ ?_).mono ?_; exact (Save.refl _ _).drew; rintro e wA ⟨rfl, rfl⟩)
              | (go_at_call 67; refine (HGA.out _ ?_).mono ?_; exact (Save.refl _ _).drew; rintro e w7 ⟨v7, rfl, ho7, hb7⟩))
          have hb8 : Below w5.heap.size w5 w7 := (Below.refl _ _).drew.trans hb7
          obtain ⟨a7, c7, rfl, hr7, hc7⟩ := ho7.sl
          have HO7 := Lib.hid ho7
          have HB7 := Lib.hid (HB5.out.trans (hb8.mono HB5.out.size))
          have HR7 := Lib.hid hr7
          have HSZ := Lib.hid (Nat.le_trans HB5.out.size hb8.size)
          have HB8 := Lib.hid hb8
          have hsum := cSum_lt B
          clear ho7 hb7 hr7 hb8
          obtain ⟨Q, hQ⟩ : ∃ Q, Q = cSum B := ⟨_, rfl⟩
          have HQ := Lib.hid hQ
          rw [← hQ] at HR4 hsum
          clear hQ
          go_wp2_with fail
          refine (of_one HR7.out (by have := HL.out; omega) 40).mono ?_
          rintro e w8 ⟨rfl, rfl⟩
          rw [← HQ.out]
          by_cases hQx : Q = x2
          · subst hQx
            have hR5 : R = some (g1, B) := by have := HR4.out; simpa using this
            subst hR5
            go_wp2
            go_ret3
            exact ⟨_, rfl, (HO7.out.mono HB5.out.size).alloc _, HB7.out.alloc (by have := HB7.out.size; omega) _⟩
          · have hR5 : R = none := by have := HR4.out; simpa [hQx] using this
            subst hR5
            have hQ' : ((Q : Int) != (x2 : Int)) = true := by simp; omega
            go_wp2
            go_ret3
            exact ⟨_, rfl, Own.nil _ _, HB7.out.alloc (by have := HB7.out.size; omega) _⟩
        · have hE' : ((E2 : Int) != 0) = true := by simp; omega
          have hR4 : R = none := by have := HR3.out; simpa [hE2] using this
          subst hR4
          go_wp2
          go_ret3
          exact ⟨_, rfl, Own.nil _ _, HB5.out⟩
      · have hR2 : R = none := by have := HR'.out; simpa [h0, h3] using this
        subst hR2
        have h3' : (((g1 % 2 : Nat) : Int) != (i : Int)) = true := by simp; omega
        go_enter Tryz.func44, Tryz.ntmps44
        go_wp2_with fail
        refine HG1.out.mono ?_
        rintro e w1 ⟨rfl, rfl⟩
        go_wp2_with fail
        refine HG2.out.mono ?_
        rintro e w1 ⟨rfl, rfl⟩
        go_wp2_with fail
        refine HP.out.mono ?_
        rintro e w1 ⟨rfl, rfl⟩
        go_wp2
        go_ret3
        exact ⟨_, rfl, Own.nil _ _, Below.refl _ _⟩
    · have hR2 : R = none := by have := HR'.out; simpa [h0, h2] using this
      subst hR2
      have h2' : ((g1 : Int) != (g2 : Int)) = true := by simp; omega
      go_enter Tryz.func44, Tryz.ntmps44
      go_wp2_with fail
      refine HG1.out.mono ?_
      rintro e w1 ⟨rfl, rfl⟩
      go_wp2_with fail
      refine HG2.out.mono ?_
      rintro e w1 ⟨rfl, rfl⟩
      go_wp2
      go_ret3
      exact ⟨_, rfl, Own.nil _ _, Below.refl _ _⟩

end Go.Proofs.YtaijjogjohbheaaGreat

/- The contract of root's Open. -/
namespace Go.Proofs.YtaijjogjohbheaaGreat
open Go.RowKit
set_option maxRecDepth 100000
set_option linter.unusedSimpArgs false

/-- The greater generation of two. -/
def rStep (X : Nat × List Nat) (R : Option (Nat × List Nat)) : Nat × List Nat := if R.isSome = true ∧ X.1 < rGen R then (rGen R, rB R) else X

/-- What the first j root sectors tell. -/
def rFold (L : List Nat) (k : Nat) : Nat → Nat × List Nat
  | 0 => (0, [])
  | j + 1 => rStep (rFold L k j) (rInt L k j (dCut L j 64))

theorem rFold_none (L : List Nat) (k j : Nat) (h : (rFold L k j).1 = 0) : (rFold L k j).2 = [] := by
  induction j with
  | zero => rfl
  | succ j ih =>
    rw [rFold, rStep] at h ⊢
    split at h
    · next hc => simp only at h; omega
    · next hc => rw [if_neg hc]; exact ih h

theorem Own.aside {w w' : World} {base g : Nat} {v : Value} {l : List Nat} (h : Own w base v l) (hw : w.grownBy w' (some g)) (hg : g < base) : Own w' base v l :=
  ⟨h.1, h.2.kept (row := some g) hw (by
    cases hv : v.ownBlock with
    | none => exact .inl rfl
    | some b => exact .inr (by intro e; injection e with e; have := (h.2.lt b hv).1; omega))⟩

theorem len_nil (w : World) : Calls Tryz.prog 42 #[.pointer none] w fun e w' => e = .returned (.int .i64 0) ∧ w' = w := by
  go_enter Tryz.func42, Tryz.ntmps42
  go_wp2
  go_ret
  exact ⟨rfl, rfl⟩

theorem ropen_nil (w : World) : Calls Tryz.prog 22 #[.pointer none] w fun e w' => e = .returned (.tuple #[.pointer none, .slice none 0 0, .int .i64 1]) ∧ w' = w := by
  go_enter Tryz.func22, Tryz.ntmps22
  go_wp2_with fail
  refine (len_nil w).mono ?_
  rintro e w1 ⟨rfl, rfl⟩
  go_wp2
  go_ret3
  exact ⟨rfl, rfl⟩

theorem ropen_small (w : World) (gd gp gb k : Nat) (s : Pw) (L : List Nat) (h : Dsk w gd gp gb s L k) (hk : k < 4) :
    Calls Tryz.prog 22 #[.pointer (some ⟨gd, 0, none⟩)] w fun e w' => e = .returned (.tuple #[.pointer none, .slice none 0 0, .int .i64 1]) ∧ w' = w := by
  have HL := Lib.hid (len_any w gd gp gb k s L h)
  have hk' : (k : Int) < 4 := by omega
  clear h
  go_enter Tryz.func22, Tryz.ntmps22
  go_wp2_with fail
  refine HL.out.mono ?_
  rintro e w1 ⟨rfl, rfl⟩
  go_wp2
  go_ret3
  exact ⟨rfl, rfl⟩

theorem root_new (w : World) (gd : Nat) : (w.alloc (rootObj gd 0)).heap[w.heap.size]? = some (rootObj gd 0) := heap_alloc_new w _

set_option maxRecDepth 100000 in
theorem ropen_down (w : World) (gd gp gb k : Nat) (s : Pw) (L : List Nat) (h : Dsk w gd gp gb s L k) (hk : 4 ≤ k) (ho : s.on = false) :
    Calls Tryz.prog 22 #[.pointer (some ⟨gd, 0, none⟩)] w fun e w' => e = .returned (.tuple #[.pointer none, .slice none 0 0, .int .i64 11]) ∧ Below w.heap.size w w' := by
  have HL := Lib.hid (len_any w gd gp gb k s L h)
  have hk' : ¬ (k : Int) < 4 := by omega
  have HD := Lib.hid h
  clear h
  go_enter Tryz.func22, Tryz.ntmps22
  go_wp2_with fail
  refine HL.out.mono ?_
  rintro e w1 ⟨rfl, rfl⟩
  go_wp2
  go_loopg [6, 19] 1 (fun _ d i wr => i = .int .i64 0 ∧ d = .slice none 0 0 ∧ wr.heap[w1.heap.size]? = some (rootObj gd 0) ∧ Below w1.heap.size w1 wr)
  case atStart => exact ⟨rfl, rfl, root_new w1 gd, Below.alloc0 _ _⟩
  case round =>
    obtain ⟨rfl, rfl, hr, hb⟩ := hrel
    have hc := (root_cells hr).1
    have HG : Hid (Calls Tryz.prog 43 #[.pointer (some ⟨gd, 0, none⟩), .int .i64 0] wr fun e w' => e = .returned (.tuple #[.slice none 0 0, .int .i64 11]) ∧ w' = wr) :=
      Lib.hid (get_of wr gd 0 _ ((getAll_down wr gd gp gb k s L 0 64 (HD.out.later hb) (by omega) (by omega) ho).mono (by rintro e w' ⟨rfl, rfl⟩; exact ⟨_, _, rfl, rfl, rfl⟩)))
    have HB := Lib.hid hb
    clear hb hr
    go_wp2_with fail
    refine HG.out.mono ?_
    rintro e w2 ⟨rfl, rfl⟩
    go_wp2
    go_ret3
    exact ⟨rfl, HB.out⟩

set_option maxRecDepth 100000 in
set_option maxHeartbeats 400000 in
theorem ropen_any (w : World) (gd gp gb k : Nat) (s : Pw) (L : List Nat) (h : Dsk w gd gp gb s L k) (hk : 4 ≤ k) (hk1 : k ≤ 1000) (ho : s.on = true) :
    Calls Tryz.prog 22 #[.pointer (some ⟨gd, 0, none⟩)] w fun e w' => ∃ v, e = .returned (.tuple #[.pointer (some ⟨w.heap.size, 0, none⟩), v, .int .i64 ((if (rFold L k 2).1 = 0 then 6 else 0 : Nat) : Int)]) ∧
      Own w' (w.heap.size + 1) v (rFold L k 2).2 ∧ w'.heap[w.heap.size]? = some (rootObj gd (rFold L k 2).1) ∧ Below w.heap.size w w' := by
  have HL := Lib.hid (len_any w gd gp gb k s L h)
  obtain ⟨E, hE⟩ : ∃ E : Nat, E = if (rFold L k 2).1 = 0 then 6 else 0 := ⟨_, rfl⟩
  rw [← hE]
  have HE := Lib.hid hE
  clear hE
  have hk' : ¬ (k : Int) < 4 := by omega
  have HD := Lib.hid h
  clear h
  go_enter Tryz.func22, Tryz.ntmps22
  go_wp2_with fail
  refine HL.out.mono ?_
  rintro e w1 ⟨rfl, rfl⟩
  go_wp2
  go_loopg [6, 19] 2 (fun q d i wr => ∃ j : Nat, q = 2 - j ∧ j ≤ 2 ∧ i = .int .i64 (j : Int) ∧ Own wr (w1.heap.size + 1) d (rFold L k j).2 ∧ wr.heap[w1.heap.size]? = some (rootObj gd (rFold L k j).1) ∧ Below w1.heap.size w1 wr)
  case atStart => exact ⟨0, rfl, by omega, rfl, Own.nil _ _, root_new w1 gd, Below.alloc0 _ _⟩
  case round =>
    obtain ⟨j, hq, hj, rfl, how, hr, hb⟩ := hrel
    have HQ := Lib.hid hq
    have HF := Lib.hid (rFold_none L k j)
    have HST : Hid (rFold L k (j + 1) = rStep (rFold L k j) (rInt L k j (dCut L j 64))) := Lib.hid rfl
    obtain ⟨X, hX⟩ : ∃ X, X = rFold L k j := ⟨_, rfl⟩
    rw [← hX] at how hr HF HST
    obtain ⟨G, B⟩ := X
    simp only at how hr HF
    have HX := Lib.hid hX
    clear hq hX
    obtain ⟨c0, c1⟩ := root_cells hr
    have HB := Lib.hid hb
    have HR := Lib.hid hr
    have HO := Lib.hid how
    have hlt := lt_of_block hr
    clear hb hr how
    by_cases hlt2 : j < 2
    · obtain ⟨S, hS⟩ : ∃ S, S = dCut L j 64 := ⟨_, rfl⟩
      have hSl : S.length = 64 := by rw [hS]; unfold dCut; have := HD.out.len; simp; omega
      have HG : Hid (Calls Tryz.prog 43 #[.pointer (some ⟨gd, 0, none⟩), .int .i64 (j : Int)] wr fun e w' => ∃ a c, e = .returned (.tuple #[.slice a 64 c, .int .i64 0]) ∧ Rd w' a 64 S ∧ 64 ≤ c ∧ Below wr.heap.size wr w') := by
        refine Lib.hid (get_of wr gd j _ ((getAll_yes wr gd gp gb k s L j 64 (HD.out.later HB.out) (by omega) (by omega) ho (by omega)).mono ?_))
        rintro e w' ⟨v, rfl, hv, hbv⟩
        rw [← hS] at hv
        obtain ⟨a, c, rfl, hrd, hc⟩ := hv.sl
        rw [hSl] at hrd hc ⊢
        exact ⟨_, _, rfl, a, c, rfl, hrd, hc, hbv⟩
      rw [← hS] at HST
      clear hS
      go_wp2_with fail
      refine HG.out.mono ?_
      rintro e w2 ⟨a, c, rfl, hrd, hc, hb2⟩
      have hr2 : w2.heap[w1.heap.size]? = some (rootObj gd G) := (hb2.block _ hlt).trans HR.out
      have HI := Lib.hid (intact_any w2 w1.heap.size gd gp gb k G j s L hr2 ((HD.out.later HB.out).later hb2) hk hk1 ho hlt2 a c S hrd hc)
      obtain ⟨R, hR⟩ : ∃ R, R = rInt L k j S := ⟨_, rfl⟩
      rw [← hR] at HI HST
      have HR2 := Lib.hid hr2
      have HB2 := Lib.hid hb2
      clear hR hrd hc hb2 hr2
      go_wp2_with fail
      refine HI.out.mono ?_
      rintro e w3 ⟨v3, rfl, ho3, hb3⟩
      have hr3 : w3.heap[w1.heap.size]? = some (rootObj gd G) := (hb3.block _ (Nat.lt_of_lt_of_le hlt HB2.out.size)).trans HR2.out
      obtain ⟨d0, d1⟩ := root_cells hr3
      have f1 := root_soft hr3 1
      have HO3 := Lib.hid ho3
      have HB3 := Lib.hid (HB2.out.trans (hb3.mono HB2.out.size))
      have HR3 := Lib.hid hr3
      clear ho3 hb3 hr3
      cases R with
      | none =>
        simp only [rGen, rB, Option.isSome_none]
        go_wp2
        go_roundg (2 - (j + 1))
        case measure => have := HQ.out; omega
        case rel =>
          refine ⟨j + 1, rfl, by omega, by go_num, ?_, ?_, ?_⟩
          · rw [HST.out]; exact HO.out.kept HB3.out
          · rw [HST.out]; exact HR3.out
          · exact HB.out.trans (HB3.out.mono HB.out.size)
      | some x =>
        obtain ⟨g, b⟩ := x
        simp only [rGen, rB, Option.isSome_some]
        simp only [rStep, rGen, rB, Option.isSome_some, true_and] at HST HO3
        by_cases hgt : G < g
        · have hgt' : (G : Int) < (g : Int) := by omega
          go_wp2
          go_roundg (2 - (j + 1))
          case measure => have := HQ.out; omega
          case rel =>
            rw [root_set HR3.out]
            refine ⟨j + 1, rfl, by omega, by go_num, ?_, ?_, ?_⟩
            · rw [HST.out, if_pos hgt]; exact (HO3.out.mono (by have := HB2.out.size; omega)).aside (put_grown _ _ _) (Nat.lt_succ_self _)
            · rw [HST.out, if_pos hgt]; exact put_same HR3.out
            · exact (HB.out.trans (HB3.out.mono HB.out.size)).trans (put_below _ (Nat.le_refl _))
        · have hgt' : ¬ (G : Int) < (g : Int) := by omega
          go_wp2
          go_roundg (2 - (j + 1))
          case measure => have := HQ.out; omega
          case rel =>
            refine ⟨j + 1, rfl, by omega, by go_num, ?_, ?_, ?_⟩
            · rw [HST.out, if_neg hgt]; exact HO.out.kept HB3.out
            · rw [HST.out, if_neg hgt]; exact HR3.out
            · exact HB.out.trans (HB3.out.mono HB.out.size)
    · have hge : ¬ (j : Int) < 2 := by omega
      have e2 : j = 2 := by omega
      rw [e2] at HX
      clear e2 HST
      by_cases hG : G = 0
      · subst hG
        go_wp2
        go_ret3
        have hE := HE.out
        rw [← HX.out] at hE ⊢
        rw [if_pos rfl] at hE
        subst hE
        refine ⟨_, rfl, ?_, HR.out, HB.out⟩
        rw [HF.out (by simp)]
        exact Own.nil _ _
      · have hG' : ((G : Int) == 0) = false := by simp; omega
        go_wp2
        go_ret3
        have hE := HE.out
        rw [← HX.out] at hE ⊢
        rw [if_neg (show ¬ (G, B).1 = 0 from hG)] at hE
        subst hE
        exact ⟨_, rfl, HO.out, HR.out, HB.out⟩

end Go.Proofs.YtaijjogjohbheaaGreat
