/- The calls that came in; the boxes of LabelTapes. -/
import Derived.Test.YtcmbnijjkpfhlaaLtPut
import Derived.Test.YtcmbnijjkpfhlaaLtGet
import Derived.Test.YtcmbnijjkpfhlaaLbRefRead
import Derived.Test.YtcmbnijjkpfhlaaLbRefBytes
import Derived.Test.YtcmbnijjkpfhlaaLbLives
namespace Go.Proofs.Ytcmbnijjkpfhlaa
open Go.RowKit
set_option linter.unusedSimpArgs false

/-- A call: its kind, its two numbers, its bytes and where they lie. -/
structure Cal where
  K : Nat
  I : Int
  Z : Int
  a : Option Addr
  n : Nat
  c : Nat
  b : List Nat

def Cal.none : Cal := ⟨0, 0, 0, .none, 0, 0, []⟩

/-- A call as it may come in. -/
def Cal.fits (w : World) (x : Cal) : Prop := x.K < 256 ∧ x.I < 9223372036854775808 ∧ x.n ≤ x.c ∧ Rd w x.a x.n x.b

/-- The slice '.slice a n _' reads as the calls X. -/
def RdC (w : World) (a : Option Addr) (n : Nat) (X : List Cal) : Prop :=
  X.length = n ∧ (∀ x ∈ X, x.fits w) ∧ (0 < n → ∃ b o, a = some ⟨b, o, none⟩ ∧ ∀ j, j < n → w.cell? ⟨b, o + j * 4, none⟩ = some (.int .u8 ((X.getD j Cal.none).K : Int)) ∧ w.cell? ⟨b, o + j * 4 + 1, none⟩ = some (.int .i64 (X.getD j Cal.none).I) ∧ w.cell? ⟨b, o + j * 4 + 2, none⟩ = some (.int .i64 (X.getD j Cal.none).Z) ∧ w.cell? ⟨b, o + j * 4 + 3, none⟩ = some (.slice (X.getD j Cal.none).a (X.getD j Cal.none).n (X.getD j Cal.none).c))

theorem RdC.later {w w' : World} {a : Option Addr} {n : Nat} {X : List Cal} (h : RdC w a n X) (hb : Below w.heap.size w w') : RdC w' a n X := by
  refine ⟨h.1, fun x hx => ?_, fun hn => ?_⟩
  · obtain ⟨h1, h2, h3, h4⟩ := h.2.1 x hx
    exact ⟨h1, h2, h3, h4.later hb⟩
  obtain ⟨b, o, rfl, hc⟩ := h.2.2 hn
  refine ⟨b, o, rfl, fun j hj => ?_⟩
  have hlt : b < w.heap.size := World.block_lt_of_cell? w _ (hc j hj).1
  exact ⟨(hb.cell (p := ⟨b, o + j * 4, none⟩) hlt).trans (hc j hj).1, (hb.cell (p := ⟨b, o + j * 4 + 1, none⟩) hlt).trans (hc j hj).2.1, (hb.cell (p := ⟨b, o + j * 4 + 2, none⟩) hlt).trans (hc j hj).2.2.1, (hb.cell (p := ⟨b, o + j * 4 + 3, none⟩) hlt).trans (hc j hj).2.2.2⟩

/-- The box of a slot that is labelled. -/
def sltObj (z : Int) (s : ByteArray) (g m t u : Int) : Obj := .cells #[.int .i64 z, .string s, .int .i64 g, .int .i64 m, .int .i64 t, .int .i64 u] 45

theorem slt_cells {W : World} {q : Nat} {z : Int} {s : ByteArray} {g m t u : Int} (h : W.heap[q]? = some (sltObj z s g m t u)) :
    W.cell? ⟨q, 0, none⟩ = some (.int .i64 z) ∧ W.cell? ⟨q, 1, none⟩ = some (.string s) ∧ W.cell? ⟨q, 2, none⟩ = some (.int .i64 g) ∧ W.cell? ⟨q, 3, none⟩ = some (.int .i64 m) ∧ W.cell? ⟨q, 4, none⟩ = some (.int .i64 t) ∧ W.cell? ⟨q, 5, none⟩ = some (.int .i64 u) := by
  refine ⟨?_, ?_, ?_, ?_, ?_, ?_⟩ <;> rw [cell_of_row W q _ _ 45 (0, 0) h] <;> rfl

/-- Of power it counts alone whether it is on. -/
theorem get_on {s s' : Pw} (t : Tst) (h : s.on = true) (h' : s'.on = true) : Tst.get s t = Tst.get s' t := by
  unfold Tst.get
  rw [h, h']

/-- Where the label and its mark are put, the place behind is the third. -/
theorem labPut_pos (s : Pw) (t : Tst) (B : List Nat) (ht : t.pos = 0) (h : (labPut s t B).2.2 = 0) : (labPut s t B).2.1.pos = 2 := by
  have hw : ∀ (s : Pw) (t : Tst) (l : List Nat), (Tst.write s t l).2.2 = 0 → (Tst.write s t l).2.1.pos = t.pos + 1 := by
    intro s t l
    unfold Tst.write
    by_cases h1 : s.on = false
    · rw [if_pos h1]; intro h; simp at h
    rw [if_neg h1]
    by_cases h2 : t.room < t.used + (4 + l.length)
    · rw [if_pos h2]; intro h; simp at h
    rw [if_neg h2]
    by_cases h3 : (s.write ((4 + l.length : Nat) : Int)).2.2 = 0
    · rw [if_pos h3]
      by_cases h4 : (t.pos : Int) ∈ t.nw
      · rw [if_pos h4]; intro h; simp at h
      · rw [if_neg h4]; intro _; rfl
    · rw [if_neg h3]
      by_cases h4 : 4 < (s.write ((4 + l.length : Nat) : Int)).2.1
      · rw [if_pos h4]; intro h; simp at h
      · rw [if_neg h4]; intro h; simp at h
  unfold labPut at h ⊢
  by_cases h1 : (Tst.put s t B).2.2 = 0
  · rw [if_pos h1] at h ⊢
    rw [hw _ _ _ h]
    have h2 : (Tst.put s t B).2.1.pos = t.pos + 1 := by
      unfold Tst.put at h1 ⊢
      by_cases h3 : B.length = 0
      · rw [if_pos h3] at h1; simp at h1
      · rw [if_neg h3] at h1 ⊢
        by_cases h4 : 200 < B.length
        · rw [if_pos h4] at h1; simp at h1
        · rw [if_neg h4] at h1 ⊢
          exact hw _ _ _ h1
    rw [h2, ht]
  · rw [if_neg h1] at h
    exact absurd h h1

theorem labPut_like (s : Pw) (t : Tst) (B : List Nat) (N : Nat) (h : s.within N) : Tst.like t (labPut s t B).2.1 ∧ (labPut s t B).1.within (N + 2) := by
  have h1 := put_like s t B N h
  unfold labPut
  split
  · have h2 := write_like (Tst.put s t B).1 (Tst.put s t B).2.1 [] (N + 1) h1.2
    exact ⟨Tst.like_trans h1.1 h2.1, h2.2⟩
  · exact ⟨h1.1, h1.2.mono (by omega)⟩

end Go.Proofs.Ytcmbnijjkpfhlaa
