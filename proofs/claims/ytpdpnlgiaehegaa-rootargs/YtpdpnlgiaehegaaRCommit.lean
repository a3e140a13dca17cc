/- The contract of root's Commit. -/
import Derived.Test.YtpdpnlgiaehegaaRSec
import Derived.Test.YtpdpnlgiaehegaaOrders
namespace Go.Proofs.Ytpdpnlgiaehegaa
open Go.RowKit
set_option linter.unusedSimpArgs false

/-- What Commit does: power behind it, the disk's bytes, the error. -/
def rCom (s : Pw) (L : List Nat) (k G : Nat) (b : List Nat) : Pw × List Nat × Nat :=
  if (dAll s L (2 + (G + 1) % 2 * sect k) b).2.2 ≠ 0 then dAll s L (2 + (G + 1) % 2 * sect k) b
  else dPut (dAll s L (2 + (G + 1) % 2 * sect k) b).1 (dAll s L (2 + (G + 1) % 2 * sect k) b).2.1 ((G + 1) % 2) (rSec (G + 1) b)

theorem Rd.saveIf {w w' : World} {X : List Nat} {a : Option Addr} {n : Nat} {l : List Nat} (h : Rd w a n l) (hs : Save X w w') (hX : 0 < n → ∀ b o, a = some ⟨b, o, none⟩ → b ∉ X) : Rd w' a n l := by
  refine ⟨h.1, h.2.1, fun hn => ?_⟩
  exact (h.save hs (hX hn)).2.2 hn

theorem dPut_within {s : Pw} {N : Nat} (h : s.within N) (L : List Nat) (i : Nat) (b : List Nat) : (dPut s L i b).1.within (N + 1) := h.write

theorem commit_full (w : World) (gr gd gp gb k G : Nat) (s : Pw) (L : List Nat) (hr : w.heap[gr]? = some (rootObj gd G)) (h : Dsk w gd gp gb s L k) (hk : 4 ≤ k) (a : Option Addr) (n c : Nat) (hn : 64 * sect k < n) :
    Calls Try.prog 12 #[.pointer (some ⟨gr, 0, none⟩), .slice a n c] w fun e w' => e = .returned (.int .i64 7) ∧ w' = w := by
  have HR := Lib.hid (room_any w gr gd gp gb k G s L hr h hk)
  obtain ⟨R, hR⟩ : ∃ R, R = 64 * sect k := ⟨_, rfl⟩
  rw [← hR] at HR hn
  have hn' : (R : Int) < (n : Int) := by omega
  clear hr h hR
  go_enter Try.func12, Try.ntmps12
  go_wp2_with fail
  refine HR.out.mono ?_
  rintro e w1 ⟨rfl, rfl⟩
  go_wp2
  go_ret
  exact ⟨rfl, rfl⟩

set_option maxRecDepth 100000 in
set_option maxHeartbeats 400000 in
theorem commit_any (w : World) (gr gd gp gb k G N : Nat) (s : Pw) (L : List Nat) (hr : w.heap[gr]? = some (rootObj gd G)) (h : Dsk w gd gp gb s L k) (hk : 4 ≤ k) (hne : gr ≠ gd ∧ gr ≠ gp ∧ gr ≠ gb) (hG : G < 1000000) (hw : s.within N) (hN : N < 4000000000000)
    (a : Option Addr) (n c : Nat) (b : List Nat) (hb : Rd w a n b) (hn : n ≤ 64 * sect k) (hnc : n ≤ c) (hoff : 0 < n → Off a [gp, gb]) :
    Calls Try.prog 12 #[.pointer (some ⟨gr, 0, none⟩), .slice a n c] w fun e w' => e = .returned (.int .i64 ((rCom s L k G b).2.2 : Int)) ∧
      Dsk w' gd gp gb (rCom s L k G b).1 (rCom s L k G b).2.1 k ∧ w'.heap[gr]? = some (rootObj gd (if (rCom s L k G b).2.2 = 0 then G + 1 else G)) ∧ Save [gp, gb, gr] w w' ∧ (rCom s L k G b).1.within (N + n + 1) := by
  have hks := h.ksmall
  have hs : sect k ≤ 32768 := by unfold sect; omega
  have hsk : 2 + 2 * sect k ≤ k := by unfold sect; omega
  obtain ⟨i, hi⟩ : ∃ i, i = (G + 1) % 2 := ⟨_, rfl⟩
  have hi2 : i < 2 := by omega
  have hai : 2 + i * sect k ≤ 2 + sect k ∧ 64 * sect k ≤ 64 * (k - (2 + i * sect k)) := by
    rcases (by omega : i = 0 ∨ i = 1) with rfl | rfl <;> omega
  have HRM := Lib.hid (room_any w gr gd gp gb k G s L hr h hk)
  have hsave : ∀ W, Save [] w W → W.heap[gr]? = some (rootObj gd G) ∧ Dsk W gd gp gb s L k ∧ Rd W a n b := fun W hW => ⟨(hW.block gr (lt_of_block hr) (by simp)).trans hr, h.save hW (by simp), hb.save hW (by simp)⟩
  have HAR : Hid (∀ W, Save [] w W → Calls Try.prog 24 #[.pointer (some ⟨gr, 0, none⟩), .int .i64 (i : Int)] W fun e w' => e = .returned (.int .i64 ((2 + i * sect k : Nat) : Int)) ∧ w' = W) :=
    Lib.hid fun W hW => area_any W gr gd gp gb k G i s L (hsave W hW).1 (hsave W hW).2.1 hk hi2
  obtain ⟨A, hA⟩ : ∃ A, A = 2 + i * sect k := ⟨_, rfl⟩
  have HPA : Hid (∀ W, Save [] w W → Calls Try.prog 23 #[.pointer (some ⟨gd, 0, none⟩), .int .i64 (A : Int), .slice a n c] W fun e w' => e = .returned (.int .i64 ((dAll s L A b).2.2 : Int)) ∧ Dsk w' gd gp gb (dAll s L A b).1 (dAll s L A b).2.1 k ∧ Save [gp, gb] W w' ∧ (dAll s L A b).1.within (N + n)) :=
    Lib.hid fun W hW => putAll_yes W gd gp gb k s L A a n c N b (hsave W hW).2.1 hw (by omega) (by omega) (by omega) (hsave W hW).2.2 hnc hoff
  have HKP : Hid (∀ W, Save [gp, gb] w W → W.cell? ⟨gr, 0, none⟩ = some (.pointer (some ⟨gd, 0, none⟩))) :=
    Lib.hid fun W hW => (root_cells ((hW.block gr (lt_of_block hr) (by simp; omega)).trans hr)).1
  have hm : rCom s L k G b = if (dAll s L A b).2.2 ≠ 0 then dAll s L A b else dPut (dAll s L A b).1 (dAll s L A b).2.1 i (rSec (G + 1) b) := by rw [rCom, ← hi, ← hA]
  obtain ⟨Z, hZ⟩ : ∃ Z, Z = rCom s L k G b := ⟨_, rfl⟩
  rw [← hZ] at hm ⊢
  obtain ⟨Y, hY⟩ : ∃ Y, Y = dAll s L A b := ⟨_, rfl⟩
  rw [← hY] at hm HPA
  rw [← hA] at HAR
  obtain ⟨c0, c1⟩ := root_cells hr
  obtain ⟨R, hR⟩ : ∃ R, R = 64 * sect k := ⟨_, rfl⟩
  rw [← hR] at HRM hn
  have hn' : ¬ (R : Int) < (n : Int) := by omega
  have HPL := Lib.hid (place_any (G + 1) w (by omega))
  have eG : ((G + 1 : Nat) : Int) = (G : Int) + 1 := by omega
  rw [← hi, eG] at HPL
  have HEG := Lib.hid eG
  clear eG
  have hfull : ((G : Int) == 18446744073709551615) = false := by simp; omega
  have HR := Lib.hid hr
  have HB := Lib.hid hb
  have HM := Lib.hid hm
  have HY := Lib.hid hY
  have HOFF : Hid (0 < n → Off a [gp, gb]) := Lib.hid hoff
  have HNE := Lib.hid hne
  have HS := Lib.hid hs
  have HLT := Lib.hid h.lts
  have HRI := Lib.hid hR
  have HHN := Lib.hid hN
  clear hr hb hm hY hZ hR hoff h hai hA hi hne hsk hs hN hw hsave
  go_enter Try.func12, Try.ntmps12
  go_wp2_with fail
  refine HRM.out.mono ?_
  rintro e w1 ⟨rfl, rfl⟩
  go_wp2_with fail
  refine HPL.out.mono ?_
  rintro e w2 ⟨rfl, rfl⟩
  obtain ⟨s1, L1, E1⟩ := Y
  simp only at HPA HM
  go_upto_region 7 with fail
  go_region_held3 (fun W => W.cell? ⟨gr, 0, none⟩ = some (.pointer (some ⟨gd, 0, none⟩)))
    (first
      | exact HKP.out _ (Save.refl _ _).drew
      | exact HKP.out _ ((Save.refl _ _).drew.trans hs4)
      | go_keep)
    (first
      | (go_at_call 24; refine (HAR.out _ ?_).mono ?_; exact (Save.refl _ _).drew; rintro e wA ⟨rfl, rfl⟩)
      | (go_at_call 23; refine (HPA.out _ ?_).mono ?_; exact (Save.refl _ _).drew; rintro e w4 ⟨rfl, hd4, hs4, hw4⟩))
  rename_i hheld
  clear hheld
  have hs4 : Save [gp, gb] w2 w4 := (Save.refl _ _).drew.trans hs4
  have hr4 : w4.heap[gr]? = some (rootObj gd G) := (hs4.block gr (lt_of_block HR.out) (by have := HNE.out; simp; omega)).trans HR.out
  obtain ⟨d0, d1⟩ := root_cells hr4
  by_cases hE : E1 = 0
  · subst hE
    have hZ : Z = dPut s1 L1 i (rSec (G + 1) b) := by have := HM.out; simpa using this
    have hb4 : Rd w4 a n b := HB.out.saveIf hs4 (fun hn x o e => HOFF.out hn ⟨x, o, none⟩ e)
    have HRS : Hid (∀ W, Save [] w4 W → Calls Try.prog 25 #[.int .u64 ((G : Int) + 1), .slice a n c] W fun e w' => ∃ v, e = .returned v ∧ Own w' W.heap.size v (rSec (G + 1) b) ∧ Below W.heap.size W w') := by
      refine Lib.hid fun W hW => ?_
      have h := rootSector_any (G + 1) a n c b W (hb4.save hW (by simp)) (by have := HS.out; have := HRI.out; omega)
      rw [HEG.out] at h
      exact h
    have HKQ : Hid (∀ W, Save [gp, gb] w4 W → W.cell? ⟨gr, 0, none⟩ = some (.pointer (some ⟨gd, 0, none⟩))) :=
      Lib.hid fun W hW => (root_cells ((hW.block gr (lt_of_block hr4) (by have := HNE.out; simp; omega)).trans hr4)).1
    have HD4 := Lib.hid hd4
    have HS4 := Lib.hid hs4
    have HW4 := Lib.hid hw4
    have HR4 := Lib.hid hr4
    have HZ := Lib.hid hZ
    have HL := Lib.hid hb4.1
    have HPU : Hid (∀ W v, Save [] w4 W → Own W w4.heap.size v (rSec (G + 1) b) → Calls Try.prog 17 #[.pointer (some ⟨gd, 0, none⟩), .int .i64 (i : Int), v] W fun e w' => e = .returned (.int .i64 (Z.2.2 : Int)) ∧ Dsk w' gd gp gb Z.1 Z.2.1 k ∧ Save [gp, gb] W w') := by
      refine Lib.hid fun W v hW ho => ?_
      obtain ⟨a5, c5, rfl, hr5, hc5⟩ := ho.sl
      have e64 : (rSec (G + 1) b).length = 64 := rSec_len _ _ (by have := HS.out; have := HRI.out; have := hb4.1; omega)
      rw [e64] at hr5 ⊢
      rw [hZ]
      exact put_yes W gd gp gb k s1 L1 i a5 64 c5 (rSec (G + 1) b) (hd4.save hW (by simp)) (hw4.ok (by have := HHN.out; have := HS.out; have := HRI.out; omega)) (by omega) (by omega) hr5
    clear hd4 hs4 hw4 hr4 hb4 hZ
    obtain ⟨s2, L2, E2⟩ := Z
    simp only at HPU HZ HM
    go_upto_region 10 with fail
    go_region_held3 (fun W => W.cell? ⟨gr, 0, none⟩ = some (.pointer (some ⟨gd, 0, none⟩)))
      (first
        | exact HKQ.out _ (Save.refl _ _).drew
        | exact HKQ.out _ ((Save.refl _ _).drew.trans (Save.of_below hb5 _))
        | exact HKQ.out _ (((Save.refl _ _).drew.trans (Save.of_below hb5 _)).trans hs6)
        | go_keep)
      (first
        | (go_at_call 25; refine (HRS.out _ ?_).mono ?_; exact (Save.refl _ _).drew; rintro e w5 ⟨v5, rfl, ho5, hb5⟩)
        | (go_at_call 17; refine (HPU.out _ _ ?_ ho5).mono ?_; exact (Save.refl _ _).drew.trans (Save.of_below hb5 _); rintro e w6 ⟨rfl, hd6, hs6⟩))
    have hs6' : Save [gp, gb] w4 w6 := ((Save.refl _ _).drew.trans (Save.of_below hb5 _)).trans hs6
    have hw6 : s2.within (N + n + 1) := by have := dPut_within HW4.out L1 i (rSec (G + 1) b); rw [← HZ.out] at this; exact this
    have hr6 : w6.heap[gr]? = some (rootObj gd G) := (hs6'.block gr (lt_of_block HR4.out) (by have := HNE.out; simp; omega)).trans HR4.out
    have hs7 : Save [gp, gb, gr] w2 w6 := (HS4.out.mono (by simp)).trans (hs6'.mono (by simp))
    have HD6 := Lib.hid hd6
    have HW6 := Lib.hid hw6
    have HS7 := Lib.hid hs7
    have HR6 := Lib.hid hr6
    obtain ⟨d6, d7⟩ := root_cells hr6
    have f6 := root_soft hr6 1
    clear hd6 hw6 hs7 hs6 hr6 hs6' ho5 hb5
    by_cases hE2 : E2 = 0
    · subst hE2
      go_wp2
      go_ret
      have ew := root_set HR6.out (G + 1)
      rw [HEG.out] at ew
      rw [ew]
      refine ⟨rfl, ?_, ?_, HS7.out.put (by simp) _, HW6.out⟩
      · exact HD6.out.save (X := [gr]) ((Save.refl _ _).put (by simp) _) (by have := HNE.out; simp; omega)
      · exact put_same HR6.out
    · have hE' : ((E2 : Int) != 0) = true := by simp; omega
      go_wp2
      go_ret
      exact ⟨rfl, HD6.out, HR6.out, HS7.out, HW6.out⟩
  · have hZ : Z = (s1, L1, E1) := by have := HM.out; simpa [hE] using this
    subst hZ
    have hE' : ((E1 : Int) != 0) = true := by simp; omega
    have HD4 := Lib.hid hd4
    have HS4 := Lib.hid hs4
    have HW4 := Lib.hid hw4
    have HR4 := Lib.hid hr4
    clear hd4 hs4 hw4 hr4
    go_wp2
    go_ret
    exact ⟨rfl, HD4.out, HR4.out, HS4.out.mono (by simp), HW4.out.mono (by omega)⟩

end Go.Proofs.Ytpdpnlgiaehegaa
