/- The contract of root's Commit. -/
import Derived.Test.YtaijjogjohbheaaGreatGDiskToRSec
import Derived.Test.YtaijjogjohbheaaGreatOrders
import Derived.Test.YtaijjogjohbheaaGreatGVNextToERead
namespace Go.Proofs.YtaijjogjohbheaaGreat
open Go.RowKit
set_option maxRecDepth 100000
set_option linter.unusedSimpArgs false

/-- What Commit does: power behind it, the disk's bytes, the error. -/
def rCom (s : Pw) (L : List Nat) (k G : Nat) (b : List Nat) : Pw × List Nat × Nat :=
  if (dAll s L (2 + (G + 1) % 2 * sect k) b).2.2 ≠ 0 then dAll s L (2 + (G + 1) % 2 * sect k) b
  else dPut (dAll s L (2 + (G + 1) % 2 * sect k) b).1 (dAll s L (2 + (G + 1) % 2 * sect k) b).2.1 ((G + 1) % 2) (rSec (G + 1) b)

theorem Rd.saveIf {w w' : World} {X : List Nat} {a : Option Addr} {n : Nat} {l : List Nat} (h : Rd w a n l) (hs : Save X w w') (hX : 0 < n → ∀ b o, a = some ⟨b, o, none⟩ → b ∉ X) : Rd w' a n l := by
  refine ⟨h.1, h.2.1, fun hn => ?_⟩
  exact (h.save hs (hX hn)).2.2 hn

theorem dPut_within {s : Pw} {N : Nat} (h : s.within N) (L : List Nat) (i : Nat) (b : List Nat) : (dPut s L i b).1.within (N + 1) := h.write

theorem commit_full (w : World) (gr gd gp gb k G : Nat) (s : Pw) (L : List Nat) (hr : w.heap[gr]? = some (rootObj gd G)) (h : Dsk w gd gp gb s L k) (hk : 4 ≤ k) (a : Option Addr) (n c : Nat) (hn : 64 * sect k < n) :
    Calls Tryz.prog 56 #[.pointer (some ⟨gr, 0, none⟩), .slice a n c] w fun e w' => e = .returned (.int .i64 7) ∧ w' = w := by
  have HR := Lib.hid (room_any w gr gd gp gb k G s L hr h hk)
  obtain ⟨R, hR⟩ : ∃ R, R = 64 * sect k := ⟨_, rfl⟩
  rw [← hR] at HR hn
  have hn' : (R : Int) < (n : Int) := by omega
  clear hr h hR
  go_enter Tryz.func56, Tryz.ntmps56
  go_wp2_with fail
  refine HR.out.mono ?_
  rintro e w1 ⟨rfl, rfl⟩
  go_wp2
  go_ret
  exact ⟨rfl, rfl⟩

set_option maxRecDepth 100000 in
set_option maxHeartbeats 400000 in
theorem commit_any (w : World) (gr gd gp gb k G N : Nat) (s : Pw) (L : List Nat) (hr : w.heap[gr]? = some (rootObj gd G)) (h : Dsk w gd gp gb s L k) (hk : 4 ≤ k) (hne : gr ≠ gd ∧ gr ≠ gp ∧ gr ≠ gb) (hG : G < 1000000) (hw : s.within N) (hN : N < 4000000000000)
    (a : Option Addr) (n c : Nat) (b : List Nat) (hb : Rd w a n b) (hn : n ≤ 64 * sect k) (hnc : n ≤ c) (hoff : 0 < n → Off a [gp, gb]) :
    Calls Tryz.prog 56 #[.pointer (some ⟨gr, 0, none⟩), .slice a n c] w fun e w' => e = .returned (.int .i64 ((rCom s L k G b).2.2 : Int)) ∧
      Dsk w' gd gp gb (rCom s L k G b).1 (rCom s L k G b).2.1 k ∧ w'.heap[gr]? = some (rootObj gd (if (rCom s L k G b).2.2 = 0 then G + 1 else G)) ∧ Save [gp, gb, gr] w w' ∧ (rCom s L k G b).1.within (N + n + 1) := by
  have hks := h.ksmall
  have hs : sect k ≤ 32768 := by unfold sect; omega
  have hsk : 2 + 2 * sect k ≤ k := by unfold sect; omega
  obtain ⟨i, hi⟩ : ∃ i, i = (G + 1) % 2 := ⟨_, rfl⟩
  have hi2 : i < 2 := by omega
  have hai : 2 + i * sect k ≤ 2 + sect k ∧ 64 * sect k ≤ 64 * (k - (2 + i * sect k)) := by
    rcases (by omega : i = 0 ∨ i = 1) with rfl | rfl <;> omega
  have HRM := Lib.hid (room_any w gr gd gp gb k G s L hr h hk)
  have hsave : ∀ W, Save [] w W → W.heap[gr]? = some (rootObj gd G) ∧ Dsk W gd gp gb s L k ∧ Rd W a n b := fun W hW => ⟨(hW.block gr (lt_of_block hr) (by simp)).trans hr, h.save hW (by simp), hb.save hW (by simp)⟩
  have HAR : Hid (∀ W, Save [] w W → Calls Tryz.prog 72 #[.pointer (some ⟨gr, 0, none⟩), .int .i64 (i : Int)] W fun e w' => e = .returned (.int .i64 ((2 + i * sect k : Nat) : Int)) ∧ w' = W) :=
    Lib.hid fun W hW => area_any W gr gd gp gb k G i s L (hsave W hW).1 (hsave W hW).2.1 hk hi2
  obtain ⟨A, hA⟩ : ∃ A, A = 2 + i * sect k := ⟨_, rfl⟩
  have HPA : Hid (∀ W, Save [] w W → Calls Tryz.prog 86 #[.pointer (some ⟨gd, 0, none⟩), .int .i64 (A : Int), .slice a n c] W fun e w' => e = .returned (.int .i64 ((dAll s L A b).2.2 : Int)) ∧ Dsk w' gd gp gb (dAll s L A b).1 (dAll s L A b).2.1 k ∧ Save [gp, gb] W w' ∧ (dAll s L A b).1.within (N + n)) :=
    Lib.hid fun W hW => putAll_yes W gd gp gb k s L A a n c N b (hsave W hW).2.1 hw (by omega) (by omega) (by omega) (hsave W hW).2.2 hnc hoff
  have HKP : Hid (∀ W, Save [gp, gb] w W → W.cell? ⟨gr, 0, none⟩ = some (.pointer (some ⟨gd, 0, none⟩))) :=
    Lib.hid fun W hW => (root_cells ((hW.block gr (lt_of_block hr) (by simp; omega)).trans hr)).1
  have hm : rCom s L k G b = if (dAll s L A b).2.2 ≠ 0 then dAll s L A b else dPut (dAll s L A b).1 (dAll s L A b).2.1 i (rSec (G + 1) b) := by rw [rCom, ← hi, ← hA]
  obtain ⟨Z, hZ⟩ : ∃ Z, Z = rCom s L k G b := ⟨_, rfl⟩
  rw [← hZ] at hm ⊢
  obtain ⟨Y, hY⟩ : ∃ Y, Y = dAll s L A b := ⟨_, rfl⟩
  rw [← hY] at hm HPA
  rw [← hA] at HAR
  obtain ⟨c0, c1⟩ := root_cells hr
  obtain ⟨R, hR⟩ : ∃ R, R = 64 * sect k := ⟨_, rfl⟩
  rw [← hR] at HRM hn
  have hn' : ¬ (R : Int) < (n : Int) := by omega
  have HPL := Lib.hid (place_any (G + 1) w (by omega))
  have eG : ((G + 1 : Nat) : Int) = (G : Int) + 1 := by omega
  rw [← hi, eG] at HPL
  have HEG := Lib.hid eG
  clear eG
  have hfull : ((G : Int) == 18446744073709551615) = false := by simp; omega
  have HR := Lib.hid hr
  have HB := Lib.hid hb
  have HM := Lib.hid hm
  have HY := Lib.hid hY
  have HOFF : Hid (0 < n → Off a [gp, gb]) := Lib.hid hoff
  have HNE := Lib.hid hne
  have HS := Lib.hid hs
  have HLT := Lib.hid h.lts
  have HRI := Lib.hid hR
  have HHN := Lib.hid hN
  clear hr hb hm hY hZ hR hoff h hai hA hi hne hsk hs hN hw hsave
  go_enter Tryz.func56, Tryz.ntmps56
  go_wp2_with fail
  refine HRM.out.mono ?_
  rintro e w1 ⟨rfl, rfl⟩
  go_wp2_with fail
  refine HPL.out.mono ?_
  rintro e w2 ⟨rfl, rfl⟩
  obtain ⟨s1, L1, E1⟩ := Y
  simp only at HPA HM
  go_upto_region 7 with fail
  go_region_held3 (fun W => W.cell? ⟨gr, 0, none⟩ = some (.pointer (some ⟨gd, 0, none⟩)))
    (first
      | exact HKP.out _ (Save.refl _ _).drew
      | exact HKP.out _ ((Save.refl _ _).drew.trans hs4)
      | go_keep)
    (first
      | (go_at_call 72; refine (HAR.out _ ?_).mono ?_; exact (Save.refl _ _).drew; rintro e wA ⟨rfl, rfl⟩)
      | (go_at_call 86; refine (HPA.out _ ?_).mono ?_; exact (Save.refl _ _).drew; rintro e w4 ⟨rfl, hd4, hs4, hw4⟩))
  rename_i hheld
  clear hheld
  have hs4 : Save [gp, gb] w2 w4 := (Save.refl _ _).drew.trans hs4
  have hr4 : w4.heap[gr]? = some (rootObj gd G) := (hs4.block gr (lt_of_block HR.out) (by have := HNE.out; simp; omega)).trans HR.out
  obtain ⟨d0, d1⟩ := root_cells hr4
  by_cases hE : E1 = 0
  · subst hE
    have hZ : Z = dPut s1 L1 i (rSec (G + 1) b) := by have := HM.out; simpa using this
    have hb4 : Rd w4 a n b := HB.out.saveIf hs4 (fun hn x o e => HOFF.out hn ⟨x, o, none⟩ e)
    have HRS : Hid (∀ W, Save [] w4 W → Calls Tryz.prog 88 #[.int .u64 ((G : Int) + 1), .slice a n c] W fun e w' => ∃ v, e = .returned v ∧ Own w' W.heap.size v (rSec (G + 1) b) ∧ Below W.heap.size W w') := by
      refine Lib.hid fun W hW => ?_
      have h := rootSector_any (G + 1) a n c b W (hb4.save hW (by simp)) (by have := HS.out; have := HRI.out; omega)
      rw [HEG.out] at h
      exact h
    have HKQ : Hid (∀ W, Save [gp, gb] w4 W → W.cell? ⟨gr, 0, none⟩ = some (.pointer (some ⟨gd, 0, none⟩))) :=
      Lib.hid fun W hW => (root_cells ((hW.block gr (lt_of_block hr4) (by have := HNE.out; simp; omega)).trans hr4)).1
    have HD4 := Lib.hid hd4
    have HS4 := Lib.hid hs4
    have HW4 := Lib.hid hw4
    have HR4 := Lib.hid hr4
    have HZ := Lib.hid hZ
    have HL := Lib.hid hb4.1
    have HPU : Hid (∀ W v, Save [] w4 W → Own W w4.heap.size v (rSec (G + 1) b) → Calls Tryz.prog 87 #[.pointer (some ⟨gd, 0, none⟩), .int .i64 (i : Int), v] W fun e w' => e = .returned (.int .i64 (Z.2.2 : Int)) ∧ Dsk w' gd gp gb Z.1 Z.2.1 k ∧ Save [gp, gb] W w') := by
      refine Lib.hid fun W v hW ho => ?_
      obtain ⟨a5, c5, rfl, hr5, hc5⟩ := ho.sl
      have e64 : (rSec (G + 1) b).length = 64 := rSec_len _ _ (by have := HS.out; have := HRI.out; have := hb4.1; omega)
      rw [e64] at hr5 ⊢
      rw [hZ]
      exact put_yes W gd gp gb k s1 L1 i a5 64 c5 (rSec (G + 1) b) (hd4.save hW (by simp)) (hw4.ok (by have := HHN.out; have := HS.out; have := HRI.out; omega)) (by omega) (by omega) hr5
    clear hd4 hs4 hw4 hr4 hb4 hZ
    obtain ⟨s2, L2, E2⟩ := Z
    simp only at HPU HZ HM
    go_upto_region 10 with fail
    go_region_held3 (fun W => W.cell? ⟨gr, 0, none⟩ = some (.pointer (some ⟨gd, 0, none⟩)))
      (first
        | exact HKQ.out _ (Save.refl _ _).drew
        | exact HKQ.out _ ((Save.refl _ _).drew.trans (Save.of_below hb5 _))
        | exact HKQ.out _ (((Save.refl _ _).drew.trans (Save.of_below hb5 _)).trans hs6)
        | go_keep)
      (first
        | (go_at_call 88; refine (HRS.out _ ?_).mono ?_; exact (Save.refl _ _).drew; rintro e w5 ⟨v5, rfl, ho5, hb5⟩)
        | (go_at_call 87; refine (HPU.out _ _ ?_ ho5).mono ?_; exact (Save.refl _ _).drew.trans (Save.of_below hb5 _); rintro e w6 ⟨rfl, hd6, hs6⟩))
    have hs6' : Save [gp, gb] w4 w6 := ((Save.refl _ _).drew.trans (Save.of_below hb5 _)).trans hs6
    have hw6 : s2.within (N + n + 1) := by have := dPut_within HW4.out L1 i (rSec (G + 1) b); rw [← HZ.out] at this; exact this
    have hr6 : w6.heap[gr]? = some (rootObj gd G) := (hs6'.block gr (lt_of_block HR4.out) (by have := HNE.out; simp; omega)).trans HR4.out
    have hs7 : Save [gp, gb, gr] w2 w6 := (HS4.out.mono (by simp)).trans (hs6'.mono (by simp))
    have HD6 := Lib.hid hd6
    have HW6 := Lib.hid hw6
    have HS7 := Lib.hid hs7
    have HR6 := Lib.hid hr6
    obtain ⟨d6, d7⟩ := root_cells hr6
    have f6 := root_soft hr6 1
    clear hd6 hw6 hs7 hs6 hr6 hs6' ho5 hb5
    by_cases hE2 : E2 = 0
    · subst hE2
      go_wp2
      go_ret
      have ew := root_set HR6.out (G + 1)
      rw [HEG.out] at ew
      rw [ew]
      refine ⟨rfl, ?_, ?_, HS7.out.put (by simp) _, HW6.out⟩
      · exact HD6.out.save (X := [gr]) ((Save.refl _ _).put (by simp) _) (by have := HNE.out; simp; omega)
      · exact put_same HR6.out
    · have hE' : ((E2 : Int) != 0) = true := by simp; omega
      go_wp2
      go_ret
      exact ⟨rfl, HD6.out, HR6.out, HS7.out, HW6.out⟩
  · have hZ : Z = (s1, L1, E1) := by have := HM.out; simpa [hE] using this
    subst hZ
    have hE' : ((E1 : Int) != 0) = true := by simp; omega
    have HD4 := Lib.hid hd4
    have HS4 := Lib.hid hs4
    have HW4 := Lib.hid hw4
    have HR4 := Lib.hid hr4
    clear hd4 hs4 hw4 hr4
    go_wp2
    go_ret
    exact ⟨rfl, HD4.out, HR4.out, HS4.out.mono (by simp), HW4.out.mono (by omega)⟩

end Go.Proofs.YtaijjogjohbheaaGreat

/- The contract of root's intact. -/
namespace Go.Proofs.YtaijjogjohbheaaGreat
open Go.RowKit
set_option maxRecDepth 100000
set_option linter.unusedSimpArgs false

/-- The generation of a root sector that is intact, and its bytes. -/
def rInt (L : List Nat) (k i : Nat) (S : List Nat) : Option (Nat × List Nat) :=
  if le (S.take 8) = 0 ∨ le (S.take 8) ≠ le ((S.drop 56).take 8) ∨ le (S.take 8) % 2 ≠ i then none
  else if (rNum (rNum 0 ((S.take 56).drop 8) (64 * sect k)).2.1 (rNum 0 ((S.take 56).drop 8) (64 * sect k)).2.2 4294967295).2.1 ≠ 0 then none
  else if cSum (dCut L (2 + i * sect k) (rNum 0 ((S.take 56).drop 8) (64 * sect k)).1) ≠ (rNum (rNum 0 ((S.take 56).drop 8) (64 * sect k)).2.1 (rNum 0 ((S.take 56).drop 8) (64 * sect k)).2.2 4294967295).1 then none
  else some (le (S.take 8), dCut L (2 + i * sect k) (rNum 0 ((S.take 56).drop 8) (64 * sect k)).1)

def rGen : Option (Nat × List Nat) → Nat
  | none => 0
  | some x => x.1

def rB : Option (Nat × List Nat) → List Nat
  | none => []
  | some x => x.2

theorem rNum_leR (E : Nat) (l : List Nat) (most : Nat) : (rNum E l most).1 ≤ most := by
  unfold rNum
  split
  · simp
  · split
    · simp
    · split
      · simp
      · simp; omega

theorem le8_lt {l : List Nat} (hb : ∀ x ∈ l, x < 256) : le (l.take 8) < 18446744073709551616 := le_take_lt hb 8

set_option maxRecDepth 100000 in
set_option maxHeartbeats 400000 in
theorem intact_any (w : World) (gr gd gp gb k G i : Nat) (s : Pw) (L : List Nat) (hr : w.heap[gr]? = some (rootObj gd G)) (h : Dsk w gd gp gb s L k) (hk : 4 ≤ k) (hk1 : k ≤ 1000) (ho : s.on = true) (hi : i < 2)
    (a : Option Addr) (c : Nat) (S : List Nat) (hS : Rd w a 64 S) (hc : 64 ≤ c) :
    Calls Tryz.prog 44 #[.pointer (some ⟨gr, 0, none⟩), .int .i64 (i : Int), .slice a 64 c] w fun e w' => ∃ v, e = .returned (.tuple #[.int .u64 (rGen (rInt L k i S) : Int), v, .bool (rInt L k i S).isSome]) ∧ Own w' w.heap.size v (rB (rInt L k i S)) ∧ Below w.heap.size w w' := by
  obtain ⟨bb, oo, rfl, hcl⟩ := hS.2.2 (by omega)
  clear hcl
  have e56 : cutA (some ⟨bb, oo, none⟩) c 56 = some ⟨bb, oo + 56, none⟩ := by rw [cutA, if_neg (by omega)]; simp [add_plain]
  have e8 : cutA (some ⟨bb, oo, none⟩) c 8 = some ⟨bb, oo + 8, none⟩ := by rw [cutA, if_neg (by omega)]; simp [add_plain]
  have HG1 := Lib.hid (genOf_any (some ⟨bb, oo, none⟩) 64 c S w hS (by omega) hc)
  have HG2 := Lib.hid (genOf_any (cutA (some ⟨bb, oo, none⟩) c 56) (64 - 56) (c - 56) (S.drop 56) w (hS.cut (by omega) hc) (by omega) (by omega))
  rw [e56] at HG2
  have hbs := hS.2.1
  have hg1 := le8_lt hbs
  have hg2 := le8_lt (l := S.drop 56) fun x hx => hbs x (List.mem_of_mem_drop hx)
  obtain ⟨R, hR⟩ : ∃ R, R = rInt L k i S := ⟨_, rfl⟩
  have hR' := hR
  unfold rInt at hR'
  rw [← hR]
  obtain ⟨g1, hg1e⟩ : ∃ g1, g1 = le (S.take 8) := ⟨_, rfl⟩
  obtain ⟨g2, hg2e⟩ : ∃ g2, g2 = le ((S.drop 56).take 8) := ⟨_, rfl⟩
  rw [← hg1e] at hR' HG1 hg1
  rw [← hg2e] at hR' HG2 hg2
  have HP := Lib.hid (place_any g1 w hg1)
  have HM : Hid (Rd w (some ⟨bb, oo + 8, none⟩) 48 ((S.take 56).drop 8)) := by
    have h := (hS.first (k := 56) (by omega)).cut (k := 8) (c := c) (by omega) (by omega)
    rw [e8] at h
    exact Lib.hid h
  obtain ⟨M, hMe⟩ : ∃ M, M = (S.take 56).drop 8 := ⟨_, rfl⟩
  rw [← hMe] at hR' HM
  have HR' := Lib.hid hR'
  have HR := Lib.hid hr
  have HD := Lib.hid h
  clear hR' hR hr h hS hbs hg1e hg2e hMe e56 e8
  by_cases h0 : g1 = 0
  · subst h0
    have hR2 : R = none := by have := HR'.out; simpa using this
    subst hR2
    go_enter Tryz.func44, Tryz.ntmps44
    go_wp2_with fail
    refine HG1.out.mono ?_
    rintro e w1 ⟨rfl, rfl⟩
    go_wp2
    go_ret3
    exact ⟨_, rfl, Own.nil _ _, Below.refl _ _⟩
  · have h0' : ((g1 : Int) == 0) = false := by simp; omega
    by_cases h2 : g1 = g2
    · subst h2
      by_cases h3 : g1 % 2 = i
      · have h3' : (((g1 % 2 : Nat) : Int) != (i : Int)) = false := by simp; omega
        have hR3 := HR'.out
        simp only [h0, h3, ne_eq, not_true_eq_false, or_self, if_false] at hR3
        have HR3 := Lib.hid hR3
        have hks : 64 * sect k ≤ 64000 := by unfold sect; omega
        have HRM : Hid (∀ W, Below w.heap.size w W → Calls Tryz.prog 70 #[.pointer (some ⟨gr, 0, none⟩)] W fun e w' => e = .returned (.int .i64 ((64 * sect k : Nat) : Int)) ∧ w' = W) :=
          Lib.hid fun W hW => room_any W gr gd gp gb k G s L ((hW.block gr (lt_of_block HR.out)).trans HR.out) (HD.out.later hW) hk
        obtain ⟨RM, hRM⟩ : ∃ RM, RM = 64 * sect k := ⟨_, rfl⟩
        rw [← hRM] at HRM HR3 hks
        have HRE := Lib.hid hRM
        clear hR3 hRM
        go_enter Tryz.func44, Tryz.ntmps44
        go_wp2_with fail
        refine HG1.out.mono ?_
        rintro e w1 ⟨rfl, rfl⟩
        go_wp2_with fail
        refine HG2.out.mono ?_
        rintro e w1 ⟨rfl, rfl⟩
        go_wp2_with fail
        refine HP.out.mono ?_
        rintro e w1 ⟨rfl, rfl⟩
        go_wp2_with fail
        refine (open_any (some ⟨bb, oo + 8, none⟩) 48 _ M w1 HM.out (by omega)).mono ?_
        rintro e w2 ⟨gn, rfl, hgn, hrd, hb2⟩
        have HB2 := Lib.hid hb2
        have HRD := Lib.hid hrd
        have HGN := Lib.hid hgn
        clear hb2 hrd hgn
        go_wp2_with fail
        refine (HRM.out _ HB2.out).mono ?_
        rintro e w3 ⟨rfl, rfl⟩
        go_wp2_with fail
        have hN1 := number_any w3 gn 0 M RM HRD.out
        obtain ⟨Y1, hY1⟩ : ∃ Y1, Y1 = rNum 0 M RM := ⟨_, rfl⟩
        have hle := rNum_leR 0 M RM
        rw [← hY1] at hN1 HR3 hle
        obtain ⟨x1, E1, M1⟩ := Y1
        simp only at hN1 HR3 hle
        clear hY1
        refine hN1.mono ?_
        clear hN1
        rintro e w4 ⟨rfl, hrd4, hgr4⟩
        have HB4 := Lib.hid (HB2.out.grown hgr4 HB2.out.size (by intro k hk; injection hk with hk; have := HGN.out; omega))
        have HRD4 := Lib.hid hrd4
        clear hrd4 hgr4
        go_wp2_with fail
        have hN2 := number_any w4 gn E1 M1 4294967295 HRD4.out
        obtain ⟨Y2, hY2⟩ : ∃ Y2, Y2 = rNum E1 M1 4294967295 := ⟨_, rfl⟩
        have hle2 := rNum_leR E1 M1 4294967295
        rw [← hY2] at hN2 HR3 hle2
        obtain ⟨x2, E2, M2⟩ := Y2
        simp only at hN2 HR3 hle2
        clear hY2
        refine hN2.mono ?_
        clear hN2
        rintro e w5 ⟨rfl, hrd5, hgr5⟩
        have HB5 := Lib.hid (HB4.out.grown hgr5 HB4.out.size (by intro k hk; injection hk with hk; have := HGN.out; omega))
        have HRD5 := Lib.hid hrd5
        clear hrd5 hgr5
        go_wp2_with fail
        refine (failed_any w5 gn E2 M2 HRD5.out).mono ?_
        rintro e w6 ⟨rfl, rfl⟩
        by_cases hE2 : E2 = 0
        · subst hE2
          have hR4 := HR3.out
          simp only [ne_eq, not_true_eq_false, if_false] at hR4
          have HR4 := Lib.hid hR4
          have hr5 : w5.heap[gr]? = some (rootObj gd G) := (HB5.out.block gr (lt_of_block HR.out)).trans HR.out
          have hd5 : Dsk w5 gd gp gb s L k := HD.out.later HB5.out
          have hc0 := (root_cells hr5).1
          have hsk : 2 + 2 * sect k ≤ k := by unfold sect; omega
          have hai : 2 + i * sect k ≤ 2 + sect k ∧ 64 * sect k ≤ 64 * (k - (2 + i * sect k)) := by
            rcases (by omega : i = 0 ∨ i = 1) with h | h <;> rw [h] <;> omega
          have HAR : Hid (∀ W, Save [] w5 W → Calls Tryz.prog 72 #[.pointer (some ⟨gr, 0, none⟩), .int .i64 (i : Int)] W fun e w' => e = .returned (.int .i64 ((2 + i * sect k : Nat) : Int)) ∧ w' = W) :=
            Lib.hid fun W hW => area_any W gr gd gp gb k G i s L ((hW.block gr (lt_of_block hr5) (by simp)).trans hr5) (hd5.save hW (by simp)) hk hi
          have HGA : Hid (∀ W, Save [] w5 W → Calls Tryz.prog 67 #[.pointer (some ⟨gd, 0, none⟩), .int .i64 ((2 + i * sect k : Nat) : Int), .int .i64 (IntKind.i64.wrap (x1 : Int))] W fun e w' => ∃ v, e = .returned (.tuple #[v, .int .i64 0]) ∧ Own w' W.heap.size v (dCut L (2 + i * sect k) x1) ∧ Below W.heap.size W w') :=
            Lib.hid fun W hW => by
              rw [show IntKind.i64.wrap (x1 : Int) = (x1 : Int) by rw [IntKind.wrap_i64] <;> omega]
              exact getAll_yes W gd gp gb k s L (2 + i * sect k) x1 (hd5.save hW (by simp)) (by omega) (by have := HRE.out; omega) ho (by omega)
          have HKQ : Hid (∀ W, Save [] w5 W → W.cell? ⟨gr, 0, none⟩ = some (.pointer (some ⟨gd, 0, none⟩))) :=
            Lib.hid fun W hW => (root_cells ((hW.block gr (lt_of_block hr5) (by simp)).trans hr5)).1
          obtain ⟨A, hA⟩ : ∃ A, A = 2 + i * sect k := ⟨_, rfl⟩
          rw [← hA] at HAR HGA HR4
          have hlen : (dCut L A x1).length ≤ 64000 := by unfold dCut; simp; omega
          obtain ⟨B, hB⟩ : ∃ B, B = dCut L A x1 := ⟨_, rfl⟩
          rw [← hB] at HGA HR4 hlen
          have HL := Lib.hid hlen
          clear hR4 hr5 hd5 hsk hai hA hB hlen
          go_upto_region 9 with fail
          go_region_held3 (fun W => W.cell? ⟨gr, 0, none⟩ = some (.pointer (some ⟨gd, 0, none⟩)))
            (first
              | exact HKQ.out _ (Save.refl _ _).drew
              | exact HKQ.out _ ((Save.refl _ _).drew.trans (Save.of_below hb7 _))
              | go_keep)
            (first
              | (go_at_call 72; refine (HAR.out _ ?_).mono ?_; exact (Save.refl _ _).drew; rintro e wA ⟨rfl, rfl⟩)
              | (go_at_call 67; refine (HGA.out _ ?_).mono ?_; exact (Save.refl _ _).drew; rintro e w7 ⟨v7, rfl, ho7, hb7⟩))
          have hb8 : Below w5.heap.size w5 w7 := (Below.refl _ _).drew.trans hb7
          obtain ⟨a7, c7, rfl, hr7, hc7⟩ := ho7.sl
          have HO7 := Lib.hid ho7
          have HB7 := Lib.hid (HB5.out.trans (hb8.mono HB5.out.size))
          have HR7 := Lib.hid hr7
          have HSZ := Lib.hid (Nat.le_trans HB5.out.size hb8.size)
          have HB8 := Lib.hid hb8
          have hsum := cSum_lt B
          clear ho7 hb7 hr7 hb8
          obtain ⟨Q, hQ⟩ : ∃ Q, Q = cSum B := ⟨_, rfl⟩
          have HQ := Lib.hid hQ
          rw [← hQ] at HR4 hsum
          clear hQ
          go_wp2_with fail
          refine (of_one HR7.out (by have := HL.out; omega) 40).mono ?_
          rintro e w8 ⟨rfl, rfl⟩
          rw [← HQ.out]
          by_cases hQx : Q = x2
          · subst hQx
            have hR5 : R = some (g1, B) := by have := HR4.out; simpa using this
            subst hR5
            go_wp2
            go_ret3
            exact ⟨_, rfl, (HO7.out.mono HB5.out.size).alloc _, HB7.out.alloc (by have := HB7.out.size; omega) _⟩
          · have hR5 : R = none := by have := HR4.out; simpa [hQx] using this
            subst hR5
            have hQ' : ((Q : Int) != (x2 : Int)) = true := by simp; omega
            go_wp2
            go_ret3
            exact ⟨_, rfl, Own.nil _ _, HB7.out.alloc (by have := HB7.out.size; omega) _⟩
        · have hE' : ((E2 : Int) != 0) = true := by simp; omega
          have hR4 : R = none := by have := HR3.out; simpa [hE2] using this
          subst hR4
          go_wp2
          go_ret3
          exact ⟨_, rfl, Own.nil _ _, HB5.out⟩
      · have hR2 : R = none := by have := HR'.out; simpa [h0, h3] using this
        subst hR2
        have h3' : (((g1 % 2 : Nat) : Int) != (i : Int)) = true := by simp; omega
        go_enter Tryz.func44, Tryz.ntmps44
        go_wp2_with fail
        refine HG1.out.mono ?_
        rintro e w1 ⟨rfl, rfl⟩
        go_wp2_with fail
        refine HG2.out.mono ?_
        rintro e w1 ⟨rfl, rfl⟩
        go_wp2_with fail
        refine HP.out.mono ?_
        rintro e w1 ⟨rfl, rfl⟩
        go_wp2
        go_ret3
        exact ⟨_, rfl, Own.nil _ _, Below.refl _ _⟩
    · have hR2 : R = none := by have := HR'.out; simpa [h0, h2] using this
      subst hR2
      have h2' : ((g1 : Int) != (g2 : Int)) = true := by simp; omega
      go_enter Tryz.func44, Tryz.ntmps44
      go_wp2_with fail
      refine HG1.out.mono ?_
      rintro e w1 ⟨rfl, rfl⟩
      go_wp2_with fail
      refine HG2.out.mono ?_
      rintro e w1 ⟨rfl, rfl⟩
      go_wp2
      go_ret3
      exact ⟨_, rfl, Own.nil _ _, Below.refl _ _⟩

end Go.Proofs.YtaijjogjohbheaaGreat

/- The contract of root's Open. -/
namespace Go.Proofs.YtaijjogjohbheaaGreat
open Go.RowKit
set_option maxRecDepth 100000
set_option linter.unusedSimpArgs false

/-- The greater generation of two. -/
def rStep (X : Nat × List Nat) (R : Option (Nat × List Nat)) : Nat × List Nat := if R.isSome = true ∧ X.1 < rGen R then (rGen R, rB R) else X

/-- What the first j root sectors tell. -/
def rFold (L : List Nat) (k : Nat) : Nat → Nat × List Nat
  | 0 => (0, [])
  | j + 1 => rStep (rFold L k j) (rInt L k j (dCut L j 64))

theorem rFold_none (L : List Nat) (k j : Nat) (h : (rFold L k j).1 = 0) : (rFold L k j).2 = [] := by
  induction j with
  | zero => rfl
  | succ j ih =>
    rw [rFold, rStep] at h ⊢
    split at h
    · next hc => simp only at h; omega
    · next hc => rw [if_neg hc]; exact ih h

theorem Own.aside {w w' : World} {base g : Nat} {v : Value} {l : List Nat} (h : Own w base v l) (hw : w.grownBy w' (some g)) (hg : g < base) : Own w' base v l :=
  ⟨h.1, h.2.kept (row := some g) hw (by
    cases hv : v.ownBlock with
    | none => exact .inl rfl
    | some b => exact .inr (by intro e; injection e with e; have := (h.2.lt b hv).1; omega))⟩

theorem len_nil (w : World) : Calls Tryz.prog 42 #[.pointer none] w fun e w' => e = .returned (.int .i64 0) ∧ w' = w := by
  go_enter Tryz.func42, Tryz.ntmps42
  go_wp2
  go_ret
  exact ⟨rfl, rfl⟩

theorem ropen_nil (w : World) : Calls Tryz.prog 22 #[.pointer none] w fun e w' => e = .returned (.tuple #[.pointer none, .slice none 0 0, .int .i64 1]) ∧ w' = w := by
  go_enter Tryz.func22, Tryz.ntmps22
  go_wp2_with fail
  refine (len_nil w).mono ?_
  rintro e w1 ⟨rfl, rfl⟩
  go_wp2
  go_ret3
  exact ⟨rfl, rfl⟩

theorem ropen_small (w : World) (gd gp gb k : Nat) (s : Pw) (L : List Nat) (h : Dsk w gd gp gb s L k) (hk : k < 4) :
    Calls Tryz.prog 22 #[.pointer (some ⟨gd, 0, none⟩)] w fun e w' => e = .returned (.tuple #[.pointer none, .slice none 0 0, .int .i64 1]) ∧ w' = w := by
  have HL := Lib.hid (len_any w gd gp gb k s L h)
  have hk' : (k : Int) < 4 := by omega
  clear h
  go_enter Tryz.func22, Tryz.ntmps22
  go_wp2_with fail
  refine HL.out.mono ?_
  rintro e w1 ⟨rfl, rfl⟩
  go_wp2
  go_ret3
  exact ⟨rfl, rfl⟩

theorem root_new (w : World) (gd : Nat) : (w.alloc (rootObj gd 0)).heap[w.heap.size]? = some (rootObj gd 0) := heap_alloc_new w _

set_option maxRecDepth 100000 in
theorem ropen_down (w : World) (gd gp gb k : Nat) (s : Pw) (L : List Nat) (h : Dsk w gd gp gb s L k) (hk : 4 ≤ k) (ho : s.on = false) :
    Calls Tryz.prog 22 #[.pointer (some ⟨gd, 0, none⟩)] w fun e w' => e = .returned (.tuple #[.pointer none, .slice none 0 0, .int .i64 11]) ∧ Below w.heap.size w w' := by
  have HL := Lib.hid (len_any w gd gp gb k s L h)
  have hk' : ¬ (k : Int) < 4 := by omega
  have HD := Lib.hid h
  clear h
  go_enter Tryz.func22, Tryz.ntmps22
  go_wp2_with fail
  refine HL.out.mono ?_
  rintro e w1 ⟨rfl, rfl⟩
  go_wp2
  go_loopg [6, 19] 1 (fun _ d i wr => i = .int .i64 0 ∧ d = .slice none 0 0 ∧ wr.heap[w1.heap.size]? = some (rootObj gd 0) ∧ Below w1.heap.size w1 wr)
  case atStart => exact ⟨rfl, rfl, root_new w1 gd, Below.alloc0 _ _⟩
  case round =>
    obtain ⟨rfl, rfl, hr, hb⟩ := hrel
    have hc := (root_cells hr).1
    have HG : Hid (Calls Tryz.prog 43 #[.pointer (some ⟨gd, 0, none⟩), .int .i64 0] wr fun e w' => e = .returned (.tuple #[.slice none 0 0, .int .i64 11]) ∧ w' = wr) :=
      Lib.hid (get_of wr gd 0 _ ((getAll_down wr gd gp gb k s L 0 64 (HD.out.later hb) (by omega) (by omega) ho).mono (by rintro e w' ⟨rfl, rfl⟩; exact ⟨_, _, rfl, rfl, rfl⟩)))
    have HB := Lib.hid hb
    clear hb hr
    go_wp2_with fail
    refine HG.out.mono ?_
    rintro e w2 ⟨rfl, rfl⟩
    go_wp2
    go_ret3
    exact ⟨rfl, HB.out⟩

set_option maxRecDepth 100000 in
set_option maxHeartbeats 400000 in
theorem ropen_any (w : World) (gd gp gb k : Nat) (s : Pw) (L : List Nat) (h : Dsk w gd gp gb s L k) (hk : 4 ≤ k) (hk1 : k ≤ 1000) (ho : s.on = true) :
    Calls Tryz.prog 22 #[.pointer (some ⟨gd, 0, none⟩)] w fun e w' => ∃ v, e = .returned (.tuple #[.pointer (some ⟨w.heap.size, 0, none⟩), v, .int .i64 ((if (rFold L k 2).1 = 0 then 6 else 0 : Nat) : Int)]) ∧
      Own w' (w.heap.size + 1) v (rFold L k 2).2 ∧ w'.heap[w.heap.size]? = some (rootObj gd (rFold L k 2).1) ∧ Below w.heap.size w w' := by
  have HL := Lib.hid (len_any w gd gp gb k s L h)
  obtain ⟨E, hE⟩ : ∃ E : Nat, E = if (rFold L k 2).1 = 0 then 6 else 0 := ⟨_, rfl⟩
  rw [← hE]
  have HE := Lib.hid hE
  clear hE
  have hk' : ¬ (k : Int) < 4 := by omega
  have HD := Lib.hid h
  clear h
  go_enter Tryz.func22, Tryz.ntmps22
  go_wp2_with fail
  refine HL.out.mono ?_
  rintro e w1 ⟨rfl, rfl⟩
  go_wp2
  go_loopg [6, 19] 2 (fun q d i wr => ∃ j : Nat, q = 2 - j ∧ j ≤ 2 ∧ i = .int .i64 (j : Int) ∧ Own wr (w1.heap.size + 1) d (rFold L k j).2 ∧ wr.heap[w1.heap.size]? = some (rootObj gd (rFold L k j).1) ∧ Below w1.heap.size w1 wr)
  case atStart => exact ⟨0, rfl, by omega, rfl, Own.nil _ _, root_new w1 gd, Below.alloc0 _ _⟩
  case round =>
    obtain ⟨j, hq, hj, rfl, how, hr, hb⟩ := hrel
    have HQ := Lib.hid hq
    have HF := Lib.hid (rFold_none L k j)
    have HST : Hid (rFold L k (j + 1) = rStep (rFold L k j) (rInt L k j (dCut L j 64))) := Lib.hid rfl
    obtain ⟨X, hX⟩ : ∃ X, X = rFold L k j := ⟨_, rfl⟩
    rw [← hX] at how hr HF HST
    obtain ⟨G, B⟩ := X
    simp only at how hr HF
    have HX := Lib.hid hX
    clear hq hX
    obtain ⟨c0, c1⟩ := root_cells hr
    have HB := Lib.hid hb
    have HR := Lib.hid hr
    have HO := Lib.hid how
    have hlt := lt_of_block hr
    clear hb hr how
    by_cases hlt2 : j < 2
    · obtain ⟨S, hS⟩ : ∃ S, S = dCut L j 64 := ⟨_, rfl⟩
      have hSl : S.length = 64 := by rw [hS]; unfold dCut; have := HD.out.len; simp; omega
      have HG : Hid (Calls Tryz.prog 43 #[.pointer (some ⟨gd, 0, none⟩), .int .i64 (j : Int)] wr fun e w' => ∃ a c, e = .returned (.tuple #[.slice a 64 c, .int .i64 0]) ∧ Rd w' a 64 S ∧ 64 ≤ c ∧ Below wr.heap.size wr w') := by
        refine Lib.hid (get_of wr gd j _ ((getAll_yes wr gd gp gb k s L j 64 (HD.out.later HB.out) (by omega) (by omega) ho (by omega)).mono ?_))
        rintro e w' ⟨v, rfl, hv, hbv⟩
        rw [← hS] at hv
        obtain ⟨a, c, rfl, hrd, hc⟩ := hv.sl
        rw [hSl] at hrd hc ⊢
        exact ⟨_, _, rfl, a, c, rfl, hrd, hc, hbv⟩
      rw [← hS] at HST
      clear hS
      go_wp2_with fail
      refine HG.out.mono ?_
      rintro e w2 ⟨a, c, rfl, hrd, hc, hb2⟩
      have hr2 : w2.heap[w1.heap.size]? = some (rootObj gd G) := (hb2.block _ hlt).trans HR.out
      have HI := Lib.hid (intact_any w2 w1.heap.size gd gp gb k G j s L hr2 ((HD.out.later HB.out).later hb2) hk hk1 ho hlt2 a c S hrd hc)
      obtain ⟨R, hR⟩ : ∃ R, R = rInt L k j S := ⟨_, rfl⟩
      rw [← hR] at HI HST
      have HR2 := Lib.hid hr2
      have HB2 := Lib.hid hb2
      clear hR hrd hc hb2 hr2
      go_wp2_with fail
      refine HI.out.mono ?_
      rintro e w3 ⟨v3, rfl, ho3, hb3⟩
      have hr3 : w3.heap[w1.heap.size]? = some (rootObj gd G) := (hb3.block _ (Nat.lt_of_lt_of_le hlt HB2.out.size)).trans HR2.out
      obtain ⟨d0, d1⟩ := root_cells hr3
      have f1 := root_soft hr3 1
      have HO3 := Lib.hid ho3
      have HB3 := Lib.hid (HB2.out.trans (hb3.mono HB2.out.size))
      have HR3 := Lib.hid hr3
      clear ho3 hb3 hr3
      cases R with
      | none =>
        simp only [rGen, rB, Option.isSome_none]
        go_wp2
        go_roundg (2 - (j + 1))
        case measure => have := HQ.out; omega
        case rel =>
          refine ⟨j + 1, rfl, by omega, by go_num, ?_, ?_, ?_⟩
          · rw [HST.out]; exact HO.out.kept HB3.out
          · rw [HST.out]; exact HR3.out
          · exact HB.out.trans (HB3.out.mono HB.out.size)
      | some x =>
        obtain ⟨g, b⟩ := x
        simp only [rGen, rB, Option.isSome_some]
        simp only [rStep, rGen, rB, Option.isSome_some, true_and] at HST HO3
        by_cases hgt : G < g
        · have hgt' : (G : Int) < (g : Int) := by omega
          go_wp2
          go_roundg (2 - (j + 1))
          case measure => have := HQ.out; omega
          case rel =>
            rw [root_set HR3.out]
            refine ⟨j + 1, rfl, by omega, by go_num, ?_, ?_, ?_⟩
            · rw [HST.out, if_pos hgt]; exact (HO3.out.mono (by have := HB2.out.size; omega)).aside (put_grown _ _ _) (Nat.lt_succ_self _)
            · rw [HST.out, if_pos hgt]; exact put_same HR3.out
            · exact (HB.out.trans (HB3.out.mono HB.out.size)).trans (put_below _ (Nat.le_refl _))
        · have hgt' : ¬ (G : Int) < (g : Int) := by omega
          go_wp2
          go_roundg (2 - (j + 1))
          case measure => have := HQ.out; omega
          case rel =>
            refine ⟨j + 1, rfl, by omega, by go_num, ?_, ?_, ?_⟩
            · rw [HST.out, if_neg hgt]; exact HO.out.kept HB3.out
            · rw [HST.out, if_neg hgt]; exact HR3.out
            · exact HB.out.trans (HB3.out.mono HB.out.size)
    · have hge : ¬ (j : Int) < 2 := by omega
      have e2 : j = 2 := by omega
      rw [e2] at HX
      clear e2 HST
      by_cases hG : G = 0
      · subst hG
        go_wp2
        go_ret3
        have hE := HE.out
        rw [← HX.out] at hE ⊢
        rw [if_pos rfl] at hE
        subst hE
        refine ⟨_, rfl, ?_, HR.out, HB.out⟩
        rw [HF.out (by simp)]
        exact Own.nil _ _
      · have hG' : ((G : Int) == 0) = false := by simp; omega
        go_wp2
        go_ret3
        have hE := HE.out
        rw [← HX.out] at hE ⊢
        rw [if_neg (show ¬ (G, B).1 = 0 from hG)] at hE
        subst hE
        exact ⟨_, rfl, HO.out, HR.out, HB.out⟩

end Go.Proofs.YtaijjogjohbheaaGreat

/- What a disk has behind Commits, whenever power fell: plain lists. -/
namespace Go.Proofs.YtaijjogjohbheaaGreat
open Go.RowKit
set_option maxRecDepth 100000
set_option linter.unusedSimpArgs false

theorem splice_get (L x : List Nat) (o j : Nat) (h : o + x.length ≤ L.length) : (splice L o x)[j]? = if j < o then L[j]? else if j < o + x.length then x[j - o]? else L[j]? := by
  unfold splice
  by_cases h1 : j < o
  · rw [if_pos h1, List.getElem?_append_left (by simp; omega), List.getElem?_take, if_pos h1]
  · rw [if_neg h1]
    by_cases h2 : j < o + x.length
    · rw [if_pos h2, List.getElem?_append_right (by simp; omega), List.getElem?_append_left (by simp; omega)]
      congr 1
      simp
      omega
    · rw [if_neg h2, List.getElem?_append_right (by simp; omega), List.getElem?_append_right (by simp; omega), List.getElem?_drop]
      congr 1
      simp
      omega

theorem dCut_congr {L L' : List Nat} {i n : Nat} (h : ∀ j, j < n → L'[64 * i + j]? = L[64 * i + j]?) : dCut L' i n = dCut L i n := by
  apply List.ext_getElem?
  intro j
  unfold dCut
  rw [List.getElem?_take, List.getElem?_take]
  split
  · rw [List.getElem?_drop, List.getElem?_drop]
    exact h j ‹_›
  · rfl

theorem dCut_len {L : List Nat} {i n : Nat} (h : 64 * i + n ≤ L.length) : (dCut L i n).length = n := by unfold dCut; simp; omega

theorem writeOn (s : Pw) (h : s.on = true) : (s.write 64).2.1.toNat ≤ 64 ∧ ((s.write 64).2.2 = 0 ∧ (s.write 64).2.1.toNat = 64 ∧ (s.write 64).1.on = true ∨ (s.write 64).2.2 = 11) := by
  unfold Pw.write
  rw [if_neg (by omega), if_neg (by simp [h])]
  split
  · exact ⟨by simp, .inl ⟨rfl, by simp, h⟩⟩
  · exact ⟨by simp; omega, .inr rfl⟩
  · exact ⟨by simp, .inl ⟨rfl, by simp, h⟩⟩

def cl (n : Nat) : Nat := 64 * ((n + 63) / 64)

/-- Bytes put, sector by sector, while power may fall. -/
theorem dAll_spec (n : Nat) : ∀ (b : List Nat) (s : Pw) (L : List Nat) (i : Nat), b.length = n → s.on = true → 64 * i + cl n ≤ L.length →
    (dAll s L i b).2.1.length = L.length ∧ (∀ j, j < 64 * i ∨ 64 * i + cl n ≤ j → (dAll s L i b).2.1[j]? = L[j]?) ∧
    ((dAll s L i b).2.2 = 0 ∧ (dAll s L i b).1.on = true ∧ (∀ j, j < n → (dAll s L i b).2.1[64 * i + j]? = b[j]?) ∨ (dAll s L i b).2.2 = 11) := by
  induction n using Nat.strongRecOn with
  | _ n ih =>
    intro b s L i hb ho hL
    by_cases h0 : b.length = 0
    · rw [dAll_nil s L i b h0]
      exact ⟨rfl, fun _ _ => rfl, .inl ⟨rfl, ho, fun j hj => by omega⟩⟩
    · have hc : 64 ≤ cl n := by unfold cl; omega
      have hc2 : cl (n - 64) + 64 = cl n := by unfold cl; omega
      have hbl : (b.take 64).length ≤ 64 := by simp; omega
      obtain ⟨hw, hw'⟩ := writeOn s ho
      have hsl := secOf_length hbl
      have hX : ((secOf (b.take 64)).take (s.write 64).2.1.toNat).length = (s.write 64).2.1.toNat := by rw [List.length_take, hsl]; omega
      have hl1 : (dPut s L i (b.take 64)).2.1.length = L.length := length_splice _ _ _ (by rw [hX]; omega)
      have hg1 : ∀ j, j < 64 * i ∨ 64 * i + 64 ≤ j → (dPut s L i (b.take 64)).2.1[j]? = L[j]? := by
        intro j hj
        unfold dPut
        rw [splice_get _ _ _ _ (by rw [hX]; omega), hX]
        rcases hj with hj | hj
        · rw [if_pos hj]
        · rw [if_neg (by omega), if_neg (by omega)]
      by_cases he : (dPut s L i (b.take 64)).2.2 = 0
      · rw [dAll_go s L i b (by omega) he]
        have hw2 : (s.write 64).2.1.toNat = 64 ∧ (s.write 64).1.on = true := by
          rcases hw' with h | h
          · exact h.2
          · have : (s.write 64).2.2 = 0 := he
            omega
        obtain ⟨i1, i2, i3⟩ := ih (n - 64) (by omega) (b.drop 64) (dPut s L i (b.take 64)).1 (dPut s L i (b.take 64)).2.1 (i + 1) (by simp; omega) hw2.2 (by rw [hl1]; omega)
        refine ⟨i1.trans hl1, fun j hj => (i2 j (by omega)).trans (hg1 j (by omega)), ?_⟩
        rcases i3 with ⟨e1, e2, e3⟩ | e
        · refine .inl ⟨e1, e2, fun j hj => ?_⟩
          by_cases hj6 : j < 64
          · rw [i2 _ (by omega)]
            unfold dPut
            rw [splice_get _ _ _ _ (by rw [hX]; omega), hX, if_neg (by omega), if_pos (by omega), hw2.1, show 64 * i + j - 64 * i = j by omega, List.getElem?_take, if_pos hj6]
            unfold secOf
            rw [List.getElem?_append_left (by simp; omega), List.getElem?_take, if_pos hj6]
          · have := e3 (j - 64) (by omega)
            rw [List.getElem?_drop, show 64 * (i + 1) + (j - 64) = 64 * i + j by omega, show 64 + (j - 64) = j by omega] at this
            exact this
        · exact .inr e
      · rw [dAll_err s L i b (by omega) he]
        refine ⟨hl1, fun j hj => hg1 j (by omega), .inr ?_⟩
        rcases hw' with h | h
        · exact absurd h.1 he
        · exact h

def c8 (x : Nat) : List Nat := [x, 0, 0, 0, 0, 0, 0, 0]

theorem g8_small {G : Nat} (h : G < 256) : g8 8 G = c8 G := by
  have e : G / 256 = 0 := by omega
  simp [g8, c8, e, Nat.mod_eq_of_lt h]

theorem le_c8 (x : Nat) : le (c8 x) = x := by simp [le, c8]

/-- A disk of k sectors on which G is the greatest generation that is intact, with the bytes b (0: there is none). -/
structure RInv (L : List Nat) (k G : Nat) (b : List Nat) : Prop where
  len : L.length = 64 * k
  small : G < 256
  no : G = 0 → b = [] ∧ dCut L 0 64 = List.replicate 64 0
  yes : 0 < G → dCut L (G % 2) 64 = rSec G b ∧ dCut L (2 + G % 2 * sect k) b.length = b ∧ b.length ≤ 64 * sect k
  other : ∃ f l, l ≤ G ∧ (dCut L ((G + 1) % 2) 64).take 8 = c8 f ∧ (dCut L ((G + 1) % 2) 64).drop 56 = c8 l

theorem rNum_putR (x : Nat) (r : List Nat) (most : Nat) (hx : x ≤ most) (h : x < 18446744073709551616) : rNum 0 (vEnc x ++ r) most = (x, 0, r) := by
  obtain ⟨h1, h2, h3⟩ := vRead (n := x) r h
  rw [rNum_ok h1 (by omega), h2, h3]
  simp

theorem rInt_yes {L b : List Nat} {k G : Nat} (hG : 0 < G) (hs : G < 256) (hb : dCut L (2 + G % 2 * sect k) b.length = b) (hl : b.length ≤ 64 * sect k) (hk : k ≤ 65536) : rInt L k (G % 2) (rSec G b) = some (G, b) := by
  have hb4 : b.length < 4294967296 := by have : sect k ≤ k := by unfold sect; omega
                                         omega
  have e1 : le ((rSec G b).take 8) = G := by rw [rSec_first, g8_small hs, le_c8]
  have e2 : le (((rSec G b).drop 56).take 8) = G := by rw [rSec_last _ _ hb4, List.take_of_length_le (by rw [g8_length]; omega), g8_small hs, le_c8]
  obtain ⟨r, hr⟩ := rSec_mid G b hb4
  have e3 : ((rSec G b).take 56).drop 8 = vEnc b.length ++ (vEnc (cSum b) ++ r) := by rw [List.drop_take, hr]
  have e4 := rNum_putR b.length (vEnc (cSum b) ++ r) (64 * sect k) hl (by omega)
  have e5 := rNum_putR (cSum b) r 4294967295 (by have := cSum_lt b; omega) (by have := cSum_lt b; omega)
  unfold rInt
  rw [e1, e2, e3, e4]
  simp only [e5, hb]
  rw [if_neg (by omega)]
  simp

theorem rInt_zero (L : List Nat) (k i : Nat) : rInt L k i (List.replicate 64 0) = none := by
  unfold rInt
  rw [if_pos (.inl (by decide))]

theorem rInt_other {L S : List Nat} {k G f l : Nat} (hl : l ≤ G) (h1 : S.take 8 = c8 f) (h2 : S.drop 56 = c8 l) : rInt L k ((G + 1) % 2) S = none ∨ ∃ g b, rInt L k ((G + 1) % 2) S = some (g, b) ∧ g < G := by
  have e1 : le (S.take 8) = f := by rw [h1, le_c8]
  have e2 : le ((S.drop 56).take 8) = l := by rw [h2, List.take_of_length_le (by simp [c8]), le_c8]
  unfold rInt
  rw [e1, e2]
  split
  · exact .inl rfl
  · next hc =>
    split
    · exact .inl rfl
    · split
      · exact .inl rfl
      · exact .inr ⟨f, _, rfl, by omega⟩

theorem rStep_none (X : Nat × List Nat) : rStep X none = X := by simp [rStep]

theorem rStep_some (X : Nat × List Nat) (g : Nat) (b : List Nat) : rStep X (some (g, b)) = if X.1 < g then (g, b) else X := by simp [rStep, rGen, rB]

theorem rFold_two (L : List Nat) (k : Nat) : rFold L k 2 = rStep (rStep (0, []) (rInt L k 0 (dCut L 0 64))) (rInt L k 1 (dCut L 1 64)) := rfl

theorem RInv.fold {L b : List Nat} {k G : Nat} (h : RInv L k G b) (hk : k ≤ 65536) : rFold L k 2 = (G, b) := by
  obtain ⟨f, l, hl, h1, h2⟩ := h.other
  have hO := rInt_other (L := L) (k := k) hl h1 h2
  by_cases hG : G = 0
  · obtain ⟨hb, h0⟩ := h.no hG
    subst hG
    subst hb
    have hn : rInt L k 1 (dCut L 1 64) = none := by
      rcases hO with h | ⟨g, b, _, h⟩
      · exact h
      · omega
    have hz := rInt_zero L k 0
    rw [← h0] at hz
    rw [rFold_two, hz, hn, rStep_none, rStep_none]
  · obtain ⟨h3, h4, h5⟩ := h.yes (by omega)
    have hY := rInt_yes (by omega) h.small h4 h5 hk
    rw [← h3] at hY
    rcases (by omega : G % 2 = 0 ∨ G % 2 = 1) with e | e
    · have e' : (G + 1) % 2 = 1 := by omega
      rw [e] at hY
      rw [e'] at hO
      rw [rFold_two, hY, rStep_some, if_pos (show 0 < G by omega)]
      rcases hO with h | ⟨g, b', h, hg⟩
      · rw [h, rStep_none]
      · rw [h, rStep_some, if_neg (show ¬ G < g by omega)]
    · have e' : (G + 1) % 2 = 0 := by omega
      rw [e] at hY
      rw [e'] at hO
      rw [rFold_two, hY, rStep_some]
      rcases hO with h | ⟨g, b', h, hg⟩
      · rw [h, rStep_none, if_pos (show 0 < G by omega)]
      · rw [h, rStep_some]
        by_cases hg0 : 0 < g
        · rw [if_pos (show (0, ([] : List Nat)).1 < g from hg0), if_pos (show g < G from hg)]
        · rw [if_neg (show ¬ (0, ([] : List Nat)).1 < g from hg0), if_pos (show 0 < G by omega)]

/-- A sector of which m bytes were put. -/
theorem dCut_put {L x : List Nat} {i m : Nat} (hx : x.length = m) (hm : m ≤ 64) (hL : 64 * i + 64 ≤ L.length) : dCut (splice L (64 * i) x) i 64 = x ++ (dCut L i 64).drop m := by
  apply List.ext_getElem?
  intro j
  unfold dCut
  rw [List.getElem?_take]
  by_cases hj : j < 64
  · rw [if_pos hj, List.getElem?_drop, splice_get _ _ _ _ (by omega), if_neg (by omega), hx]
    by_cases hjm : j < m
    · rw [if_pos (by omega), List.getElem?_append_left (by omega)]
      congr 1
      omega
    · rw [if_neg (by omega), List.getElem?_append_right (by omega), List.getElem?_drop, List.getElem?_take, if_pos (by omega), List.getElem?_drop]
      congr 1
      omega
  · rw [if_neg hj, List.getElem?_eq_none]
    simp
    omega

theorem mix_first (x f m : Nat) (X Y : List Nat) (hm : 0 < m) (hX : 8 ≤ X.length) (h1 : X.take 8 = c8 x) (h2 : Y.take 8 = c8 f) : (X.take m ++ Y.drop m).take 8 = c8 x := by
  have eX : X = c8 x ++ X.drop 8 := by rw [← h1, List.take_append_drop]
  have eY : Y = c8 f ++ Y.drop 8 := by rw [← h2, List.take_append_drop]
  by_cases h8 : 8 ≤ m
  · rw [List.take_append_of_le_length (by simp; omega), List.take_take, Nat.min_eq_left h8, h1]
  · rw [eX, eY]
    rcases (by omega : m = 1 ∨ m = 2 ∨ m = 3 ∨ m = 4 ∨ m = 5 ∨ m = 6 ∨ m = 7) with rfl | rfl | rfl | rfl | rfl | rfl | rfl <;> simp [c8]

theorem mix_whole (x f m : Nat) (X Y : List Nat) (hm : 57 ≤ m) (hm2 : m ≤ 64) (h1 : X.drop 56 = c8 x) (h2 : Y.drop 56 = c8 f) : X.take m ++ Y.drop m = X := by
  have e : X.drop m = Y.drop m := by
    rw [show m = 56 + (m - 56) by omega, ← List.drop_drop, ← List.drop_drop, h1, h2]
    rcases (by omega : m - 56 = 1 ∨ m - 56 = 2 ∨ m - 56 = 3 ∨ m - 56 = 4 ∨ m - 56 = 5 ∨ m - 56 = 6 ∨ m - 56 = 7 ∨ m - 56 = 8) with h | h | h | h | h | h | h | h <;> rw [h] <;> simp [c8]
  rw [← e, List.take_append_drop]

end Go.Proofs.YtaijjogjohbheaaGreat

/- What a Commit makes of a disk, whenever power falls: plain lists. -/
namespace Go.Proofs.YtaijjogjohbheaaGreat
open Go.RowKit
set_option maxRecDepth 100000
set_option linter.unusedSimpArgs false

theorem RInv.area {L L' b : List Nat} {k G : Nat} (h : RInv L k G b) (hk : 4 ≤ k) (hl : L'.length = L.length) (hc : ∀ j, j < 64 * (2 + (G + 1) % 2 * sect k) ∨ 64 * (2 + (G + 1) % 2 * sect k) + 64 * sect k ≤ j → L'[j]? = L[j]?) : RInv L' k G b := by
  have hs : 1 ≤ sect k := by unfold sect; omega
  have hsec : ∀ q, q < 2 → dCut L' q 64 = dCut L q 64 := fun q hq => dCut_congr fun j hj => hc _ (.inl (by
    have : 2 ≤ 2 + (G + 1) % 2 * sect k := Nat.le_add_right _ _
    omega))
  refine ⟨hl.trans h.len, h.small, fun hG => ?_, fun hG => ?_, ?_⟩
  · rw [hsec 0 (by omega)]; exact h.no hG
  · obtain ⟨h1, h2, h3⟩ := h.yes hG
    refine ⟨by rw [hsec _ (by omega)]; exact h1, ?_, h3⟩
    refine (dCut_congr fun j hj => hc _ ?_).trans h2
    rcases (by omega : G % 2 = 0 ∨ G % 2 = 1) with e | e
    · have e' : (G + 1) % 2 = 1 := by omega
      rw [e, e']; left; omega
    · have e' : (G + 1) % 2 = 0 := by omega
      rw [e, e']; right; omega
  · obtain ⟨f, l, h1, h2, h3⟩ := h.other
    rw [hsec _ (by omega)]
    exact ⟨f, l, h1, h2, h3⟩

theorem splice_keep {L x : List Nat} {i q n m : Nat} (hx : x.length = m) (hm : m ≤ 64) (hL : 64 * i + 64 ≤ L.length) (hd : q + 1 ≤ i ∧ n ≤ 64 ∨ i < q) : dCut (splice L (64 * i) x) q n = dCut L q n := by
  refine dCut_congr fun j hj => ?_
  rw [splice_get _ _ _ _ (by omega), hx]
  rcases hd with hd | hd
  · rw [if_pos (by omega)]
  · rw [if_neg (by omega), if_neg (by omega)]

theorem RInv.torn {L b0 b : List Nat} {k G m : Nat} (h : RInv L k G b0) (hk : 4 ≤ k) (hk2 : k ≤ 65536) (hG : G + 1 < 256) (hm : m ≤ 64) (hb : b.length ≤ 64 * sect k) (hA : dCut L (2 + (G + 1) % 2 * sect k) b.length = b) :
    (57 ≤ m → RInv (splice L (64 * ((G + 1) % 2)) ((rSec (G + 1) b).take m)) k (G + 1) b) ∧ (m ≤ 56 → RInv (splice L (64 * ((G + 1) % 2)) ((rSec (G + 1) b).take m)) k G b0) := by
  have hb4 : b.length < 4294967296 := by have : sect k ≤ k := by unfold sect; omega
                                         omega
  have hrl := rSec_len (G + 1) b hb4
  have hf := rSec_first (G + 1) b
  have hla := rSec_last (G + 1) b hb4
  rw [g8_small hG] at hf hla
  obtain ⟨rs, hrs⟩ : ∃ rs, rs = rSec (G + 1) b := ⟨_, rfl⟩
  have hml : (rs.take m).length = m := by rw [List.length_take, hrs, hrl]; omega
  obtain ⟨i, hi⟩ : ∃ i, i = (G + 1) % 2 := ⟨_, rfl⟩
  have hlen := h.len
  have hL : 64 * i + 64 ≤ L.length := by omega
  have hlL : (splice L (64 * i) (rs.take m)).length = 64 * k := (length_splice _ _ _ (by omega)).trans hlen
  have hsec := dCut_put (L := L) (i := i) hml hm hL
  obtain ⟨f, l, h1, h2, h3⟩ := h.other
  rw [← hi] at h2 h3 hA ⊢
  rw [← hrs] at hrl hf hla ⊢
  refine ⟨fun h57 => ?_, fun h56 => ?_⟩
  · rw [mix_whole (G + 1) l m rs (dCut L i 64) h57 hm hla h3] at hsec
    refine ⟨hlL, hG, fun e => by omega, fun _ => ⟨?_, ?_, hb⟩, ?_⟩
    · rw [← hi, hsec, hrs]
    · rw [← hi, splice_keep hml hm hL (.inr (by have : 2 ≤ 2 + i * sect k := Nat.le_add_right _ _; omega))]
      exact hA
    · have hp : (G + 1 + 1) % 2 = G % 2 := by omega
      rw [hp, splice_keep hml hm hL (by omega)]
      by_cases hG0 : G = 0
      · subst hG0
        refine ⟨0, 0, by omega, ?_, ?_⟩ <;> rw [show 0 % 2 = 0 from rfl, (h.no rfl).2] <;> rfl
      · obtain ⟨y1, y2, y3⟩ := h.yes (by omega)
        have hb04 : b0.length < 4294967296 := by have : sect k ≤ k := by unfold sect; omega
                                                 omega
        refine ⟨G, G, by omega, ?_, ?_⟩
        · rw [y1, rSec_first, g8_small h.small]
        · rw [y1, rSec_last _ _ hb04, g8_small h.small]
  · refine ⟨hlL, h.small, fun hG0 => ?_, fun hG0 => ?_, ?_⟩
    · have : i = 1 := by omega
      rw [splice_keep hml hm hL (by omega)]
      exact h.no hG0
    · obtain ⟨y1, y2, y3⟩ := h.yes hG0
      refine ⟨?_, ?_, y3⟩
      · rw [splice_keep hml hm hL (by omega)]; exact y1
      · rw [splice_keep hml hm hL (.inr (by have : 2 ≤ 2 + G % 2 * sect k := Nat.le_add_right _ _; omega))]; exact y2
    · rw [← hi, hsec]
      have hd : (rs.take m ++ (dCut L i 64).drop m).drop 56 = c8 l := by
        rw [List.drop_append, List.drop_eq_nil_of_le (by omega), hml, List.nil_append, List.drop_drop, show m + (56 - m) = 56 by omega, h3]
      by_cases hm0 : m = 0
      · exact ⟨f, l, h1, by subst hm0; simpa using h2, hd⟩
      · exact ⟨G + 1, l, h1, mix_first (G + 1) f m rs (dCut L i 64) (by omega) (by omega) hf h2, hd⟩

/-- What a Commit leaves. -/
theorem RInv.commit {L b0 b : List Nat} {k G : Nat} {s : Pw} (h : RInv L k G b0) (hk : 4 ≤ k) (hk2 : k ≤ 65536) (hG : G + 1 < 256) (ho : s.on = true) (hb : b.length ≤ 64 * sect k) :
    (rCom s L k G b).2.2 = 0 ∧ RInv (rCom s L k G b).2.1 k (G + 1) b ∨ (rCom s L k G b).2.2 = 11 ∧ (RInv (rCom s L k G b).2.1 k G b0 ∨ RInv (rCom s L k G b).2.1 k (G + 1) b) := by
  have hs : 2 + 2 * sect k ≤ k := by unfold sect; omega
  have hcl : cl b.length ≤ 64 * sect k := by unfold cl; omega
  have hA : 64 * (2 + (G + 1) % 2 * sect k) + 64 * sect k ≤ 64 * k := by
    rcases (by omega : (G + 1) % 2 = 0 ∨ (G + 1) % 2 = 1) with e | e <;> rw [e] <;> omega
  obtain ⟨s1, s2, s3⟩ := dAll_spec b.length b s L (2 + (G + 1) % 2 * sect k) rfl ho (by have := h.len; omega)
  have h1 := h.area hk s1 (fun j hj => s2 j (by omega))
  rcases s3 with ⟨e0, eo, eb⟩ | e
  · have hr : rCom s L k G b = dPut (dAll s L (2 + (G + 1) % 2 * sect k) b).1 (dAll s L (2 + (G + 1) % 2 * sect k) b).2.1 ((G + 1) % 2) (rSec (G + 1) b) := by rw [rCom, if_neg (by omega)]
    rw [hr]
    obtain ⟨w1, w2⟩ := writeOn _ eo
    have hb4 : b.length < 4294967296 := by omega
    have hsec : secOf (rSec (G + 1) b) = rSec (G + 1) b := by unfold secOf; rw [rSec_len _ _ hb4]; simp
    have hcut : dCut (dAll s L (2 + (G + 1) % 2 * sect k) b).2.1 (2 + (G + 1) % 2 * sect k) b.length = b := by
      apply List.ext_getElem?
      intro j
      unfold dCut
      rw [List.getElem?_take]
      split
      · rw [List.getElem?_drop]; exact eb j ‹_›
      · rw [List.getElem?_eq_none (by omega)]
    obtain ⟨t1, t2⟩ := h1.torn hk hk2 hG w1 hb hcut
    unfold dPut
    rw [hsec]
    rcases w2 with ⟨x1, x2, _⟩ | x1
    · exact .inl ⟨x1, t1 (by omega)⟩
    · refine .inr ⟨x1, ?_⟩
      by_cases h57 : 57 ≤ ((dAll s L (2 + (G + 1) % 2 * sect k) b).1.write 64).2.1.toNat
      · exact .inr (t1 h57)
      · exact .inl (t2 (by omega))
  · have hr : rCom s L k G b = dAll s L (2 + (G + 1) % 2 * sect k) b := by rw [rCom, if_pos (by omega)]
    rw [hr]
    exact .inr ⟨e, .inl h1⟩

/-- A new disk. -/
theorem rinv_new (k : Nat) (hk : 4 ≤ k) : RInv (List.replicate (64 * k) 0) k 0 [] := by
  have hz : ∀ q, q < 2 → dCut (List.replicate (64 * k) 0) q 64 = List.replicate 64 0 := by
    intro q hq
    unfold dCut
    rw [List.drop_replicate, List.take_replicate, Nat.min_eq_left (by omega)]
  refine ⟨by simp, by omega, fun _ => ⟨rfl, hz 0 (by omega)⟩, fun h => by omega, ⟨0, 0, by omega, ?_, ?_⟩⟩ <;> rw [hz _ (by omega)] <;> rfl

end Go.Proofs.YtaijjogjohbheaaGreat

/- Commit while power stays on; Open and Commit of a disk as the document has it; a new disk. -/
namespace Go.Proofs.YtaijjogjohbheaaGreat
open Go.RowKit
set_option maxRecDepth 100000
set_option linter.unusedSimpArgs false

/-- Bytes, and bytes 0 up to a sector's end. -/
def padS (b : List Nat) : List Nat := b ++ List.replicate ((64 - b.length % 64) % 64) 0

theorem padS_length (b : List Nat) : (padS b).length = cl b.length := by simp only [padS, cl, List.length_append, List.length_replicate]; omega

theorem padS_cons (b : List Nat) (h : 0 < b.length) : padS b = secOf (b.take 64) ++ padS (b.drop 64) := by
  by_cases h64 : b.length ≤ 64
  · rw [List.take_of_length_le h64, List.drop_eq_nil_of_le h64]
    simp only [padS, secOf, List.length_nil, List.nil_append]
    rw [show (64 - b.length % 64) % 64 = 64 - b.length by omega]
    simp
  · have e : 64 - (b.take 64).length = 0 := by simp; omega
    simp only [padS, secOf]
    rw [e, List.replicate_zero, List.append_nil, ← List.append_assoc, List.take_append_drop, show (64 - (b.drop 64).length % 64) % 64 = (64 - b.length % 64) % 64 by simp; omega]

theorem splice_two (L x y : List Nat) (o : Nat) (h : o + x.length + y.length ≤ L.length) : splice (splice L o x) (o + x.length) y = splice L o (x ++ y) := by
  have hl := length_splice L o x (by omega)
  apply List.ext_getElem?
  intro j
  rw [splice_get _ _ _ _ (by omega), splice_get _ _ _ _ (by omega), splice_get _ _ _ _ (by simp; omega), List.length_append]
  by_cases h1 : j < o
  · rw [if_pos (show j < o + x.length by omega), if_pos h1, if_pos h1]
  · by_cases h2 : j < o + x.length
    · rw [if_pos h2, if_neg h1, if_pos h2, if_neg h1, if_pos (show j < o + (x.length + y.length) by omega), List.getElem?_append_left (by omega)]
    · by_cases h3 : j < o + x.length + y.length
      · rw [if_neg h2, if_pos h3, if_neg h1, if_pos (show j < o + (x.length + y.length) by omega), List.getElem?_append_right (by omega)]
        congr 1
        omega
      · rw [if_neg h2, if_neg h3, if_neg h1, if_neg h2, if_neg h1, if_neg (show ¬ j < o + (x.length + y.length) by omega)]

theorem dPut_on (c : Nat) (L : List Nat) (i : Nat) (b : List Nat) (hb : b.length ≤ 64) : dPut ⟨true, none, c⟩ L i b = (⟨true, none, c + 1⟩, splice L (64 * i) (secOf b), 0) := by
  have e : (⟨true, none, c⟩ : Pw).write 64 = (⟨true, none, c + 1⟩, 64, 0) := rfl
  unfold dPut
  rw [e]
  simp only
  rw [show (64 : Int).toNat = 64 from rfl, List.take_of_length_le (by rw [secOf_length hb]; omega)]

theorem dAll_on (n : Nat) : ∀ (b : List Nat) (c : Nat) (L : List Nat) (i : Nat), b.length = n → 64 * i + cl n ≤ L.length → dAll ⟨true, none, c⟩ L i b = (⟨true, none, c + (n + 63) / 64⟩, splice L (64 * i) (padS b), 0) := by
  induction n using Nat.strongRecOn with
  | _ n ih =>
    intro b c L i hb hL
    by_cases h0 : b.length = 0
    · have : b = [] := List.eq_nil_of_length_eq_zero h0
      subst this
      rw [dAll_nil _ _ _ _ h0]
      have e : padS [] = [] := rfl
      rw [e, splice_nil]
      have : n = 0 := by simpa using hb.symm
      subst this
      rfl
    · have hc : 64 ≤ cl n := by unfold cl; omega
      have hc2 : cl (n - 64) + 64 = cl n := by unfold cl; omega
      have hbl : (b.take 64).length ≤ 64 := by simp; omega
      have hp := dPut_on c L i (b.take 64) hbl
      have hsl := secOf_length hbl
      rw [dAll_go _ _ _ _ (by omega) (by rw [hp]), hp]
      simp only
      rw [ih (n - 64) (by omega) (b.drop 64) (c + 1) _ (i + 1) (by simp; omega) (by rw [length_splice _ _ _ (by omega)]; omega)]
      have hpl := padS_length (b.drop 64)
      have hdl : (b.drop 64).length = n - 64 := by simp; omega
      have e2 := splice_two L (secOf (b.take 64)) (padS (b.drop 64)) (64 * i) (by rw [hpl, hdl]; omega)
      rw [hsl] at e2
      rw [show 64 * (i + 1) = 64 * i + 64 by omega, e2, ← padS_cons b (by omega)]
      congr 2
      omega

theorem rCom_on {L : List Nat} {k G c : Nat} {b : List Nat} (hL : L.length = 64 * k) (hk : 4 ≤ k) (hk2 : k ≤ 65536) (hb : b.length ≤ 64 * sect k) :
    rCom ⟨true, none, c⟩ L k G b = (⟨true, none, c + (b.length + 63) / 64 + 1⟩, splice (splice L (64 * (2 + (G + 1) % 2 * sect k)) (padS b)) (64 * ((G + 1) % 2)) (rSec (G + 1) b), 0) := by
  have hs : 2 + 2 * sect k ≤ k := by unfold sect; omega
  have hcl : cl b.length ≤ 64 * sect k := by unfold cl; omega
  have hA : 64 * (2 + (G + 1) % 2 * sect k) + 64 * sect k ≤ 64 * k := by
    rcases (by omega : (G + 1) % 2 = 0 ∨ (G + 1) % 2 = 1) with e | e <;> rw [e] <;> omega
  have hr := rSec_len (G + 1) b (by omega)
  rw [rCom, dAll_on b.length b c L _ rfl (by omega)]
  simp only
  rw [if_neg (by omega), dPut_on _ _ _ _ (by omega)]
  have e : secOf (rSec (G + 1) b) = rSec (G + 1) b := by unfold secOf; rw [hr]; simp
  rw [e]

theorem open_inv (w : World) (gd gp gb k G : Nat) (s : Pw) (L b : List Nat) (h : Dsk w gd gp gb s L k) (hk : 4 ≤ k) (hk1 : k ≤ 1000) (ho : s.on = true) (hi : RInv L k G b) (E : Nat) (hE : E = if G = 0 then 6 else 0) :
    Calls Tryz.prog 22 #[.pointer (some ⟨gd, 0, none⟩)] w fun e w' => ∃ gr a c, e = .returned (.tuple #[.pointer (some ⟨gr, 0, none⟩), .slice a b.length c, .int .i64 (E : Int)]) ∧ w.heap.size ≤ gr ∧
      Rd w' a b.length b ∧ w'.heap[gr]? = some (rootObj gd G) ∧ Below w.heap.size w w' := by
  have h1 := ropen_any w gd gp gb k s L h hk hk1 ho
  rw [hi.fold (by omega)] at h1
  refine h1.mono ?_
  rintro e w' ⟨v, rfl, hv, hr, hb⟩
  obtain ⟨a, c, rfl, hrd, _⟩ := hv.sl
  subst hE
  exact ⟨_, a, c, rfl, Nat.le_refl _, hrd, hr, hb⟩

theorem new_at (w : World) : Calls Tryz.prog 7 #[] w fun e w' => ∃ gp, e = .returned (.pointer (some ⟨gp, 0, none⟩)) ∧ w.heap.size ≤ gp ∧ Pow w' gp ⟨true, none, 0⟩ ∧ Below w.heap.size w w' := by
  refine (new_any w).mono ?_
  rintro e w' ⟨rfl, rfl⟩
  exact ⟨_, rfl, Nat.le_refl _, heap_alloc_new w _, Below.alloc0 _ _⟩

theorem dnew_at (w : World) (n gp : Nat) (s : Pw) (h : Pow w gp s) (hn : 0 < n) (hn' : n ≤ 65536) :
    Calls Tryz.prog 6 #[.int .i64 (n : Int), .pointer (some ⟨gp, 0, none⟩)] w fun e w' => ∃ gd gb, e = .returned (.tuple #[.pointer (some ⟨gd, 0, none⟩), .int .i64 0]) ∧ w.heap.size ≤ gd ∧ w.heap.size ≤ gb ∧ Dsk w' gd gp gb s (List.replicate (64 * n) 0) n ∧ Below w.heap.size w w' := by
  refine (dnew_any w n gp hn hn').mono ?_
  rintro e w' ⟨rfl, rfl⟩
  exact ⟨_, _, rfl, Nat.le_succ _, Nat.le_refl _, dsk_new w n gp s h hn hn', (Below.alloc0 _ _).alloc (by simp) _⟩

end Go.Proofs.YtaijjogjohbheaaGreat
