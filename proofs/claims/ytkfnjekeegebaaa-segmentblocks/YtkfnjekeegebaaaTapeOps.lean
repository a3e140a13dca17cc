/- The contracts of a tape's cut and add. -/
import Derived.Test.YtkfnjekeegebaaaTapeAdd
import Derived.Deep.RegionWith
namespace Go.Proofs.Ytkfnjekeegebaaa
open Go.RowKit
set_option linter.unusedSimpArgs false

theorem Tst.cut_self {t : Tst} (h : t.pos = t.P.length) : t.cut = t := by
  obtain ⟨r, y, a, b, P, p⟩ := t
  simp only at h
  simp [Tst.cut, h]

/-- What a tape's cells are, as long as its block is as it was. -/
theorem tap_keep {W : World} {gt gp room early bW bR pos : Nat} {v : Value} (h : W.heap[gt]? = some (tapObj gp room early bW bR v pos)) :
    W.cell? ⟨gt, 5, none⟩ = some v ∧ W.cell? ⟨gt, 6, none⟩ = some (.int .i64 (pos : Int)) ∧ W.frozen? ⟨gt, 5, none⟩ = false := by
  refine ⟨?_, ?_, ?_⟩
  · rw [cell_of_row W gt _ _ 80 (0, 0) h]; rfl
  · rw [cell_of_row W gt _ _ 80 (0, 0) h]; rfl
  · simp [World.frozen?, h, tapObj]

set_option maxHeartbeats 4000000 in
theorem cut_any (w : World) (gt gp : Nat) (s : Pw) (t : Tst) (F : List Nat) (h : Tap w gt gp s t F) :
    Calls Try.prog 55 #[.pointer (some ⟨gt, 0, none⟩)] w fun e w' => e = .returned (.tuple #[]) ∧ Tap w' gt gp s t.cut F ∧ Save F w w' := by
  obtain ⟨v, X, bW, bR, h⟩ := h
  have HH := Lib.hid h
  obtain ⟨d5, d6, f5⟩ := tap_keep h.obj
  obtain ⟨a, c, rfl, hc, hsh⟩ := h.shape
  have hpl := h.pos_le
  have hrn := h.row_ne
  by_cases hp : t.pos = t.P.length
  · have HD : Hid (∀ W : World, _) := Lib.hid fun W => delete_same W a t.P.length c hc
    rw [hp] at d6
    obtain ⟨n, hn⟩ : ∃ n, n = t.P.length := ⟨_, rfl⟩
    rw [← hn] at d5 d6 HD
    have HN := Lib.hid (And.intro hn hp)
    clear h hsh hpl hrn hp hn
    go_enter Try.func55, Try.ntmps55
    go_upto_region 0 with fail
    go_region_with (first
        | (go_at_call 60; refine (HD.out _).mono ?_; rintro e w1 ⟨rfl, rfl⟩))
    all_goals
      go_wp2
      go_end0
      have e : (w.setCell ⟨gt, 5, none⟩ (.slice a n c)).drew = w.drew := by
        change w.drew.setCell ⟨gt, 5, none⟩ (.slice a n c) = w.drew
        rw [HN.out.1, setCell5 (w := w.drew) HH.out.obj, put_self (w := w.drew) HH.out.obj]
      refine ⟨rfl, ?_, ?_⟩
      · rw [e, Tst.cut_self HN.out.2]
        exact ⟨_, X, bW, bR, HH.out.kept (Nat.le_refl _) (fun _ _ _ => rfl) HH.out.pow⟩
      · rw [e]
        exact (Save.refl _ _).drew
  · have hlt0 : t.pos < t.P.length := Nat.lt_of_le_of_ne hpl hp
    have hpos0 : 0 < t.P.length := Nat.lt_of_le_of_lt (Nat.zero_le _) hlt0
    obtain ⟨g, cur, rfl, hg, hm, hs, ht⟩ := hsh hpos0
    obtain ⟨n, hn⟩ : ∃ n, n = t.P.length := ⟨_, rfl⟩
    obtain ⟨p, hpp⟩ : ∃ p, p = t.pos := ⟨_, rfl⟩
    have hng : gt ≠ g := by
      rintro rfl
      exact hrn.1 rfl
    rw [← hn] at d5
    rw [← hpp] at d6
    have hpn : p < n := by rw [hn, hpp]; exact hlt0
    have hnc : n ≤ c := by rw [hn]; exact hc
    have hsz : n * 2 ≤ cur.size := by rw [hs]; exact Nat.mul_le_mul_right _ hnc
    have HD : Hid (∀ W : World, W.heap[g]? = some (.cells cur 99 (0, 0)) → W.heap[gt]? = w.heap[gt]? → Calls Try.prog 60 #[.slice (some ⟨g, 0, none⟩) n c, .int .i64 (p : Int), .int .i64 (n : Int)] W fun e w' => e = .returned (.slice (some ⟨g, 0, none⟩) p c) ∧ w'.cell? ⟨gt, 5, none⟩ = some (.slice (some ⟨g, 0, none⟩) n c) ∧ w'.frozen? ⟨gt, 5, none⟩ = false ∧ Hid (∃ m cur', w' = put (W.drewN m) g (.cells cur' 99 (0, 0)) ∧ cur'.size = cur.size ∧ cur'.toList.take (p * 2) = cur.toList.take (p * 2))) := by
      refine Lib.hid fun W hW hWt => ?_
      refine (delete_tail W g n c p cur hW hpn hnc hsz).mono ?_
      rintro e w1 ⟨rfl, m, cur', hw1, hz, hcut⟩
      have ho1 : w1.heap[gt]? = some (tapObj gp t.room t.early bW bR (.slice (some ⟨g, 0, none⟩) t.P.length c) t.pos) := by
        rw [hw1]
        exact (put_other hng).trans (hWt.trans h.obj)
      obtain ⟨k5, k6, k7⟩ := tap_keep ho1
      rw [← hn] at k5
      exact ⟨rfl, k5, k7, Lib.hid ⟨m, cur', hw1, hz, hcut⟩⟩
    have HN := Lib.hid (And.intro hn (And.intro hpp (And.intro hg (And.intro hm (And.intro hs (And.intro ht (And.intro hc (And.intro hpl hng))))))))
    clear h hsh hpl hrn hp hn hpp hg hm hs ht hc hng hpn hnc hsz hlt0 hpos0
    go_enter Try.func55, Try.ntmps55
    go_upto_region 0 with fail
    go_region_with (first
        | (go_at_call 60; refine (HD.out _ ?_ ?_).mono ?_; exact HN.out.2.2.1; rfl; rintro e w1 ⟨rfl, g5, g7, HR⟩))
    all_goals
      go_wp2
      go_end0
      obtain ⟨hn, hpp, hg, hm, hs, ht, hc, hpl, hng⟩ := HN.out
      obtain ⟨m, cur', rfl, hz, hcut⟩ := HR.out
      have ho1 : (put ((w.drew).drewN m) g (.cells cur' 99 (0, 0))).heap[gt]? = some (tapObj gp t.room t.early bW bR (.slice (some ⟨g, 0, none⟩) t.P.length c) t.pos) := (put_other hng).trans HH.out.obj
      refine ⟨rfl, ⟨.slice (some ⟨g, 0, none⟩) p c, X.take t.pos, bW, bR, HH.out.cutRow ?_ ?_ rfl ?_ ?_⟩, ?_⟩
      · rw [setCell5 ho1]
        exact put_same ho1
      · rw [setCell5 ho1]
        refine ⟨?_, .inr ⟨g, c, cur', by rw [hpp], Nat.zero_le _, (put_other (Ne.symm hng)).trans (put_same (w := (w.drew).drewN m) hg), by omega, hm, by rw [hz]; exact hs, ?_⟩⟩
        · rw [cP_length, List.length_take, HH.out.len]
          omega
        · rw [← hpp, hcut, ← cP_take, ← ht, List.take_take, Nat.min_eq_left (by omega)]
      · rw [setCell5 ho1, put_size, put_size]
        exact Nat.le_refl _
      · intro k _ h1 h2
        rw [setCell5 ho1]
        exact (put_other h1).trans (put_other (fun e => h2 (by rw [e]; rfl)))
      · rw [setCell5 ho1]
        exact (((Save.refl F w).drew.drewN m).put (g := g) (HH.out.fv g rfl) _).put HH.out.ft _

end Go.Proofs.Ytkfnjekeegebaaa
