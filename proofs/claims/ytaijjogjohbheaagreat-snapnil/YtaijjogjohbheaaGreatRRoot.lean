/- A root in memory, and the contracts of its small functions: place, sectors, area, Room, Gen. -/
import Derived.Test.YtaijjogjohbheaaGreatRGenAll
import Derived.Test.YtaijjogjohbheaaGreatDiskAllG
namespace Go.Proofs.YtaijjogjohbheaaGreat
open Go.RowKit
set_option maxRecDepth 100000
set_option linter.unusedSimpArgs false

def rootObj (gd G : Nat) : Obj := .cells #[.pointer (some ⟨gd, 0, none⟩), .int .u64 (G : Int)] 106 (0, 0)

/-- How many sectors an area has. -/
def sect (k : Nat) : Nat := (k - 2) / 2

theorem root_cells {w : World} {gr gd G : Nat} (h : w.heap[gr]? = some (rootObj gd G)) : w.cell? ⟨gr, 0, none⟩ = some (.pointer (some ⟨gd, 0, none⟩)) ∧ w.cell? ⟨gr, 1, none⟩ = some (.int .u64 (G : Int)) := by
  constructor <;> rw [cell_of_row w gr _ _ 106 (0, 0) h] <;> rfl

theorem root_soft {w : World} {gr gd G : Nat} (h : w.heap[gr]? = some (rootObj gd G)) (i : Nat) : w.frozen? ⟨gr, i, none⟩ = false := by
  simp [World.frozen?, h, rootObj]

theorem root_set {w : World} {gr gd G : Nat} (h : w.heap[gr]? = some (rootObj gd G)) (G' : Nat) : w.setCell ⟨gr, 1, none⟩ (.int .u64 (G' : Int)) = put w gr (rootObj gd G') := set_put _ h

theorem place_any (G : Nat) (w : World) (hG : G < 18446744073709551616) : Calls Tryz.prog 69 #[.int .u64 (G : Int)] w fun e w' => e = .returned (.int .i64 ((G % 2 : Nat) : Int)) ∧ w' = w := by
  go_enter Tryz.func69, Tryz.ntmps69
  go_wp2
  go_ret
  refine ⟨?_, rfl⟩
  go_num

theorem sectors_any (w : World) (gr gd gp gb k G : Nat) (s : Pw) (L : List Nat) (hr : w.heap[gr]? = some (rootObj gd G)) (h : Dsk w gd gp gb s L k) (hk : 4 ≤ k) :
    Calls Tryz.prog 97 #[.pointer (some ⟨gr, 0, none⟩)] w fun e w' => e = .returned (.int .i64 (sect k : Int)) ∧ w' = w := by
  have c0 := (root_cells hr).1
  have hk2 := h.ksmall
  have HL := Lib.hid (len_any w gd gp gb k s L h)
  clear hr h
  go_enter Tryz.func97, Tryz.ntmps97
  go_wp2_with fail
  refine HL.out.mono ?_
  rintro e w1 ⟨rfl, rfl⟩
  go_wp2
  go_ret
  refine ⟨?_, rfl⟩
  unfold sect
  go_num

theorem area_any (w : World) (gr gd gp gb k G i : Nat) (s : Pw) (L : List Nat) (hr : w.heap[gr]? = some (rootObj gd G)) (h : Dsk w gd gp gb s L k) (hk : 4 ≤ k) (hi : i < 2) :
    Calls Tryz.prog 72 #[.pointer (some ⟨gr, 0, none⟩), .int .i64 (i : Int)] w fun e w' => e = .returned (.int .i64 ((2 + i * sect k : Nat) : Int)) ∧ w' = w := by
  have HS := Lib.hid (sectors_any w gr gd gp gb k G s L hr h hk)
  have hs : sect k ≤ 32768 := by have := h.ksmall; unfold sect; omega
  obtain ⟨S, hS⟩ : ∃ S, S = sect k := ⟨_, rfl⟩
  rw [← hS] at HS hs ⊢
  have e1 : i = 0 ∨ i = 1 := by omega
  clear hr h hS
  rcases e1 with rfl | rfl
  all_goals
    go_enter Tryz.func72, Tryz.ntmps72
    go_wp2_with fail
    refine HS.out.mono ?_
    rintro e w1 ⟨rfl, rfl⟩
    go_wp2
    go_ret
    exact ⟨by simp, rfl⟩

theorem room_any (w : World) (gr gd gp gb k G : Nat) (s : Pw) (L : List Nat) (hr : w.heap[gr]? = some (rootObj gd G)) (h : Dsk w gd gp gb s L k) (hk : 4 ≤ k) :
    Calls Tryz.prog 70 #[.pointer (some ⟨gr, 0, none⟩)] w fun e w' => e = .returned (.int .i64 ((64 * sect k : Nat) : Int)) ∧ w' = w := by
  have HS := Lib.hid (sectors_any w gr gd gp gb k G s L hr h hk)
  have hs : sect k ≤ 32768 := by have := h.ksmall; unfold sect; omega
  obtain ⟨S, hS⟩ : ∃ S, S = sect k := ⟨_, rfl⟩
  rw [← hS] at HS hs ⊢
  clear hr h hS
  go_enter Tryz.func70, Tryz.ntmps70
  go_wp2_with fail
  refine HS.out.mono ?_
  rintro e w1 ⟨rfl, rfl⟩
  go_wp2
  go_ret
  refine ⟨?_, rfl⟩
  go_num

theorem room_nil (w : World) : Calls Tryz.prog 70 #[.pointer none] w fun e w' => e = .returned (.int .i64 0) ∧ w' = w := by
  go_enter Tryz.func70, Tryz.ntmps70
  go_wp2
  go_ret
  exact ⟨rfl, rfl⟩

theorem commit_nil (w : World) (a : Option Addr) (n c : Nat) : Calls Tryz.prog 56 #[.pointer none, .slice a n c] w fun e w' => e = .returned (.int .i64 1) ∧ w' = w := by
  go_enter Tryz.func56, Tryz.ntmps56
  go_wp2
  go_ret
  exact ⟨rfl, rfl⟩

end Go.Proofs.YtaijjogjohbheaaGreat
