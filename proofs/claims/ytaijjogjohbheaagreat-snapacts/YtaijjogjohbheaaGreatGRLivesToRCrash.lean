/- The chapter's example, run. -/
import Derived.Test.YtaijjogjohbheaaGreatGRCommitToRCom
import Derived.Lib.SlBytesConst
import Derived.BigRegion
import Derived.Deep.DeepCutAuto
import Derived.Deep.CutBlock
import Derived.Deep.RegionHeld3
namespace Go.Proofs.YtaijjogjohbheaaGreat
open Go.RowKit
set_option maxRecDepth 100000
set_option linter.unusedSimpArgs false

/-- A constant's bytes, laid and marked. -/
def heyObj : Obj := .cells #[.int .u8 104, .int .u8 101, .int .u8 121] 5 (3, 4)

theorem rd_hey (w : World) : Rd (w.alloc heyObj) (some ⟨w.heap.size, 0, none⟩) 3 [104, 101, 121] := by
  refine ⟨rfl, by simp, fun _ => ⟨_, _, rfl, fun j hj => ?_⟩⟩
  rw [cell_of_row _ _ _ _ 5 (3, 4) (heap_alloc_new w heyObj)]
  rcases (by omega : j = 0 ∨ j = 1 ∨ j = 2) with rfl | rfl | rfl <;> rfl

theorem hey_list : (strB [104, 101, 121]).toList = [104, 101, 121] := by kernel_rfl

end Go.Proofs.YtaijjogjohbheaaGreat

/- RootCrash, run: Commits, one behind the other, while power falls. -/
namespace Go.Proofs.YtaijjogjohbheaaGreat
open Go.RowKit
set_option maxRecDepth 100000
set_option linter.unusedSimpArgs false

/-- A Commit: its bytes and where they lie, when power falls, and how many bytes go through. -/
structure Cm where
  a : Option Addr
  n : Nat
  c : Nat
  b : List Nat
  I : Int
  Z : Int

def Cm.none : Cm := ⟨.none, 0, 0, [], 0, 0⟩

/-- A Commit as it may come in. -/
def Cm.fits (w : World) (x : Cm) : Prop := x.I < 9223372036854775808 ∧ x.n ≤ x.c ∧ Rd w x.a x.n x.b

/-- The slice '.slice a n _' reads as the Commits X. -/
def RdC (w : World) (a : Option Addr) (n : Nat) (X : List Cm) : Prop :=
  X.length = n ∧ (∀ x ∈ X, x.fits w) ∧ (0 < n → ∃ b o, a = some ⟨b, o, none⟩ ∧ ∀ j, j < n → w.cell? ⟨b, o + j * 3, none⟩ = some (.slice (X.getD j Cm.none).a (X.getD j Cm.none).n (X.getD j Cm.none).c) ∧ w.cell? ⟨b, o + j * 3 + 1, none⟩ = some (.int .i64 (X.getD j Cm.none).I) ∧ w.cell? ⟨b, o + j * 3 + 2, none⟩ = some (.int .i64 (X.getD j Cm.none).Z))

theorem RdC.later {w w' : World} {a : Option Addr} {n : Nat} {X : List Cm} (h : RdC w a n X) (hb : Below w.heap.size w w') : RdC w' a n X := by
  refine ⟨h.1, fun x hx => ?_, fun hn => ?_⟩
  · obtain ⟨h1, h2, h3⟩ := h.2.1 x hx
    exact ⟨h1, h2, h3.later hb⟩
  obtain ⟨b, o, rfl, hc⟩ := h.2.2 hn
  refine ⟨b, o, rfl, fun j hj => ?_⟩
  have hlt : b < w.heap.size := World.block_lt_of_cell? w _ (hc j hj).1
  exact ⟨(hb.cell (p := ⟨b, o + j * 3, none⟩) hlt).trans (hc j hj).1, (hb.cell (p := ⟨b, o + j * 3 + 1, none⟩) hlt).trans (hc j hj).2.1, (hb.cell (p := ⟨b, o + j * 3 + 2, none⟩) hlt).trans (hc j hj).2.2⟩

/-- Commit, whatever the bytes, while power may fall: what is told anew. -/
theorem commit_both (w : World) (gr gd gp gb k G N : Nat) (s : Pw) (L b0 : List Nat) (hr : w.heap[gr]? = some (rootObj gd G)) (h : Dsk w gd gp gb s L k) (hi : RInv L k G b0) (hk : 4 ≤ k) (hk2 : k ≤ 23) (hne : gr ≠ gd ∧ gr ≠ gp ∧ gr ≠ gb) (hG : G < 200) (hon : s.on = true) (hw : s.within N) (hN : N < 4000000000)
    (a : Option Addr) (n c : Nat) (b : List Nat) (hb : Rd w a n b) (hnc : n ≤ c) (hn : n ≤ 3000) (hoff : 0 < n → Off a [gp, gb]) :
    Calls Tryz.prog 56 #[.pointer (some ⟨gr, 0, none⟩), .slice a n c] w fun e w' => ∃ (E G' : Nat) (s' : Pw) (L' b' : List Nat), e = .returned (.int .i64 (E : Int)) ∧
      Dsk w' gd gp gb s' L' k ∧ RInv L' k G' b' ∧ Save [gp, gb, gr] w w' ∧ s'.within (N + 3001) ∧ G' ≤ G + 1 ∧ (E = 0 ∧ b' = b ∨ E = 7 ∧ b' = b0 ∨ E = 11 ∧ b' = b0 ∨ E = 11 ∧ b' = b) := by
  by_cases hf : 64 * sect k < n
  · refine (commit_full w gr gd gp gb k G s L hr h hk a n c hf).mono ?_
    rintro e w' ⟨rfl, rfl⟩
    exact ⟨7, G, s, L, b0, rfl, h, hi, Save.refl _ _, hw.mono (by omega), by omega, .inr (.inl ⟨rfl, rfl⟩)⟩
  · refine (commit_any w gr gd gp gb k G N s L hr h hk hne (by omega) hw (by omega) a n c b hb (by omega) hnc hoff).mono ?_
    rintro e w' ⟨rfl, hd, _, hs, hwi⟩
    have hb1 := hb.1
    rcases hi.commit (s := s) (b := b) hk (by omega) (by omega) hon (by omega) with ⟨h0, h1⟩ | ⟨h0, h1 | h1⟩
    · exact ⟨0, G + 1, _, _, b, by rw [h0], hd, h1, hs, hwi.mono (by omega), by omega, .inl ⟨rfl, rfl⟩⟩
    · exact ⟨11, G, _, _, b0, by rw [h0], hd, h1, hs, hwi.mono (by omega), by omega, .inr (.inr (.inl ⟨rfl, rfl⟩))⟩
    · exact ⟨11, G + 1, _, _, b, by rw [h0], hd, h1, hs, hwi.mono (by omega), by omega, .inr (.inr (.inr ⟨rfl, rfl⟩))⟩

theorem within_planned {s : Pw} {N : Nat} (h : s.within N) {a : Int} (t : Int) (ha : a < 9223372036854775808) : (s.planned a t).within N := by
  refine ⟨fun k t' e => ?_, h.2⟩
  by_cases h0 : 0 ≤ a
  · rw [planned_yes _ _ h0] at e; simp at e; omega
  · rw [planned_no _ _ (by omega)] at e; cases e

theorem plan_dsk (w : World) (gd gp gb k : Nat) (s : Pw) (L : List Nat) (I Z : Int) (h : Dsk w gd gp gb s L k) :
    Calls Tryz.prog 9 #[.pointer (some ⟨gp, 0, none⟩), .int .i64 I, .int .i64 Z] w fun e w' => e = .returned (.tuple #[]) ∧ Dsk w' gd gp gb (s.planned I Z) L k ∧ Save [gp] w w' := by
  refine (plan_any w gp s I Z h.pow).mono ?_
  rintro e w' ⟨rfl, rfl⟩
  exact ⟨rfl, h.setPow _, (Save.refl _ _).put (by simp) _⟩

theorem up_dsk (w : World) (gd gp gb k : Nat) (s : Pw) (L : List Nat) (h : Dsk w gd gp gb s L k) :
    Calls Tryz.prog 13 #[.pointer (some ⟨gp, 0, none⟩)] w fun e w' => e = .returned (.tuple #[]) ∧ Dsk w' gd gp gb ⟨true, none, s.count⟩ L k ∧ Save [gp] w w' := by
  refine (up_any w gp s h.pow).mono ?_
  rintro e w' ⟨rfl, rfl⟩
  exact ⟨rfl, h.setPow _, (Save.refl _ _).put (by simp) _⟩

end Go.Proofs.YtaijjogjohbheaaGreat
