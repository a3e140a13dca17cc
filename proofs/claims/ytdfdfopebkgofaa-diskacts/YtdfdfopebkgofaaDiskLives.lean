/- The chapter's example, run. -/
import Derived.Test.YtdfdfopebkgofaaDModelAll
namespace Go.Proofs.Ytdfdfopebkgofaa
open Go.RowKit
set_option linter.unusedSimpArgs false

theorem pow_laid (w : World) (s : Pw) : Pow (w.alloc (powObj s)) w.heap.size s := heap_alloc_new w _

set_option maxRecDepth 100000 in
theorem lives_any (w : World) : Calls Try.prog 4 #[] w fun e w' => e = .returned (.bool true) ∧ Below w.heap.size w w' := by
  have HN := Lib.hid (new_any w)
  obtain ⟨w1, h1⟩ : ∃ w1, w1 = w.alloc (powObj ⟨true, none, 0⟩) := ⟨_, rfl⟩
  obtain ⟨gp, hgp⟩ : ∃ gp, gp = w.heap.size := ⟨_, rfl⟩
  have HP1 : Pow w1 gp ⟨true, none, 0⟩ := by rw [h1, hgp]; exact pow_laid w _
  rw [← h1, ← hgp] at HN
  have hs1 : w1.heap.size = gp + 1 := by rw [h1, hgp]; simp
  have HD := dnew_any w1 2 gp (by omega) (by omega)
  have hdk := dsk_new w1 2 gp _ HP1 (by omega) (by omega)
  have HB1 : Below w.heap.size w w1 := by rw [h1]; exact (Below.refl _ _).alloc (Nat.le_refl _) _
  have HB2 : Below w.heap.size w ((w1.alloc (rowObj 5 (List.replicate (64 * 2) 0))).alloc (dskObj gp w1.heap.size (64 * 2))) := (HB1.alloc HB1.size _).alloc (by have := HB1.size; simp; omega) _
  obtain ⟨w2, h2⟩ : ∃ w2, w2 = (w1.alloc (rowObj 5 (List.replicate (64 * 2) 0))).alloc (dskObj gp w1.heap.size (64 * 2)) := ⟨_, rfl⟩
  obtain ⟨gd, hgd⟩ : ∃ gd, gd = w1.heap.size + 1 := ⟨_, rfl⟩
  obtain ⟨gb, hgb⟩ : ∃ gb, gb = w1.heap.size := ⟨_, rfl⟩
  rw [← h2, ← hgd] at HD hdk
  rw [← hgb] at hdk
  rw [← h2] at HB2
  obtain ⟨w3, h3⟩ : ∃ w3, w3 = w2.alloc (.cells #[.int .u8 1] 5) := ⟨_, rfl⟩
  obtain ⟨g3, hg3⟩ : ∃ g3, g3 = w2.heap.size := ⟨_, rfl⟩
  have hb3 : Below w2.heap.size w2 w3 := by rw [h3]; exact Below.alloc0 _ _
  have hd3 := hdk.later hb3
  have hr3 : Rd w3 (some ⟨g3, 0, none⟩) 1 [1] := by rw [h3, hg3]; exact rd_new w2 [1] (by simp)
  have HPUT := put_yes w3 gd gp gb 2 _ _ 0 _ 1 1 [1] hd3 ⟨by simp, by simp⟩ (by omega) (by omega) hr3
  have HB3 : Below w.heap.size w w3 := HB2.trans (hb3.mono HB2.size)
  have e : dPut ⟨true, none, 0⟩ (List.replicate (64 * 2) 0) 0 [1] = (⟨true, none, 1⟩, secOf [1] ++ List.replicate 64 0, 0) := rfl
  rw [e] at HPUT
  have HX := Lib.hid (And.intro hgp (And.intro hgd (And.intro hgb (And.intro h3 (And.intro hg3 hs1)))))
  have HDH := Lib.hid HD
  have HPH := Lib.hid HPUT
  have HBH := Lib.hid HB3
  clear h1 h2 hgp hgd hgb h3 hg3 hs1 HD HPUT HB3 hdk HB2 HB1 HP1 hb3 hd3 hr3 e
  go_enter Try.func4, Try.ntmps4
  go_wp2_with fail
  refine HN.out.mono ?_
  rintro e w' ⟨rfl, rfl⟩
  go_wp2_with fail
  refine HDH.out.mono ?_
  rintro e w' ⟨rfl, rfl⟩
  go_wp2_with fail
  rw [← HX.out.2.2.2.1, ← HX.out.2.2.2.2.1]
  refine HPH.out.mono ?_
  rintro e w4 ⟨rfl, hd4, hs4⟩
  have HB4 : Below w.heap.size w w4 := HBH.out.trans (hs4.below HBH.out.size (by
    have := HX.out
    intro k hk
    simp only [List.mem_cons, List.not_mem_nil, or_false] at hk
    omega))
  have HD4 := Lib.hid hd4
  have HB4H := Lib.hid HB4
  have HG := get_of w4 gd 0 (fun e w' => ∃ v, e = .returned (.tuple #[v, .int .i64 0]) ∧ Own w' w4.heap.size v (secOf [1]) ∧ Below w4.heap.size w4 w') ((getAll_yes w4 gd gp gb 2 _ _ 0 64 hd4 (by omega) (by omega) rfl (by omega)).mono (by
    rintro e w' ⟨v, rfl, hv, hb⟩
    exact ⟨v, 0, rfl, v, rfl, hv, hb⟩))
  have HGH := Lib.hid HG
  clear hd4 hs4 HB4 HG HPH HBH HDH
  go_wp2_with fail
  refine HGH.out.mono ?_
  rintro e w5 ⟨v, rfl, hv, hb⟩
  obtain ⟨g5, c5, rfl⟩ := hv.held (by decide)
  have hr5 := hv.asSlice1 rfl
  obtain ⟨g5', o5, he, hc⟩ := hr5.2.2 (by decide)
  have hc0 := hc 0 (by decide)
  have hc1 := hc 1 (by decide)
  injection he with he
  injection he with he1 he2
  subst he1
  subst he2
  have HD5 := Lib.hid (len_any w5 gd gp gb 2 _ _ (HD4.out.later hb))
  have HB5 := Lib.hid (HB4H.out.trans (hb.mono HB4H.out.size))
  have k0 : w5.cell? ⟨g5, 0, none⟩ = some (.int .u8 1) := hc0
  have k1 : w5.cell? ⟨g5, 1, none⟩ = some (.int .u8 0) := hc1
  clear hc0 hc1 hc hr5 hv hb HGH HD4 HB4H
  go_wp2_with fail
  refine HD5.out.mono ?_
  rintro e w6 ⟨rfl, rfl⟩
  go_wp2
  go_ret
  exact ⟨rfl, HB5.out⟩
end Go.Proofs.Ytdfdfopebkgofaa
