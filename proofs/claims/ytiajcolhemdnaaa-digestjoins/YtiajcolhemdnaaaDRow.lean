/- A row of digests of the call's own; a part of a slice of bytes; the digests of parts. -/
import Derived.Test.YtiajcolhemdnaaaDLives
namespace Go.Proofs.Ytiajcolhemdnaaa
open Go.RowKit

theorem info_digest : (Try.prog.info? 28).map (fun i => (i.zero, i.size, i.bytes)) = some (some (.agg #[.int .u64 0, .int .u64 0]), 2, 16) := by kernel_rfl

def cD (L : List (Nat × Nat)) : List Value := L.flatMap fun d => [.int .u64 (d.1 : Int), .int .u64 (d.2 : Int)]

theorem cD_append (A B : List (Nat × Nat)) : cD (A ++ B) = cD A ++ cD B := by simp [cD]

theorem cD_length (L : List (Nat × Nat)) : (cD L).length = L.length * 2 := by
  induction L with
  | nil => rfl
  | cons d r ih => simp only [cD, List.flatMap_cons, List.length_append, List.length_cons, List.length_nil] at ih ⊢; omega

theorem cD_get (L : List (Nat × Nat)) {j : Nat} (hj : j < L.length) : (cD L)[j * 2]? = some (.int .u64 (((L.getD j (0, 0)).1 : Nat) : Int)) ∧ (cD L)[j * 2 + 1]? = some (.int .u64 (((L.getD j (0, 0)).2 : Nat) : Int)) := by
  induction L generalizing j with
  | nil => simp at hj
  | cons d r ih =>
    have e : cD (d :: r) = .int .u64 (d.1 : Int) :: .int .u64 (d.2 : Int) :: cD r := by simp [cD]
    cases j with
    | zero => rw [e]; simp
    | succ k =>
      have hk : k < r.length := by simpa using hj
      have h := ih hk
      have e1 : (k + 1) * 2 = k * 2 + 1 + 1 := by omega
      rw [e, e1]
      simpa using h

/-- The value v owns the digests L, in a block from 'base' on (or it is nil). -/
def OwnD (w : World) (base : Nat) (v : Value) (L : List (Nat × Nat)) : Prop := w.ownsRow base 28 2 v L.length (cD L)

theorem OwnD.rd {w : World} {base : Nat} {v : Value} {L : List (Nat × Nat)} (h : OwnD w base v L) : ∃ a c, v = .slice a L.length c ∧ RdD w a L.length L := by
  have h1 := h
  rcases h.2 with ⟨rfl, hl⟩ | ⟨g, cap, cur, rfl, _⟩
  · have : L = [] := List.eq_nil_of_length_eq_zero hl
    subst this
    exact ⟨none, 0, rfl, rfl, by simp⟩
  · refine ⟨_, cap, rfl, rfl, fun _ => ⟨g, 0, rfl, fun j hj => ?_⟩⟩
    obtain ⟨k0, k1⟩ := cD_get L hj
    have e0 := h1.cells (g := g) rfl _ _ k0
    have e1 := h1.cells (g := g) rfl _ _ k1
    rw [add_plain] at e0 e1
    exact ⟨e0, by rw [Nat.add_assoc]; exact e1⟩

theorem OwnD.nil (w : World) (base : Nat) : OwnD w base (.slice none 0 0) [] := World.ownsRow_nil w base 28 2

theorem OwnD.kept {w w' : World} {base : Nat} {v : Value} {L : List (Nat × Nat)} (h : OwnD w base v L) (hb : Below w.heap.size w w') : OwnD w' base v L :=
  World.ownsRow.kept h (row := none) ⟨hb.os, hb.tape, hb.output, hb.size, fun k hk _ => hb.block k hk⟩ (by
    cases hv : v.ownBlock with
    | none => exact .inl rfl
    | some k => exact .inr (by simp))

theorem OwnD.of_append {w : World} {base : Nat} {v : Value} {L : List (Nat × Nat)} {x y : Nat} (h : w.ownsRow base 28 2 v (L.length + 1) (cD L ++ [.int .u64 (x : Int), .int .u64 (y : Int)])) : OwnD w base v (L ++ [(x, y)]) := by
  unfold OwnD
  rw [cD_append, List.length_append]
  simpa [cD] using h

theorem slice_both (a : Option Addr) (n c k m : Nat) (q q2 : IntKind) (hk : k ≤ m) (hm : m ≤ c) (w : World) :
    (Instr.slice 22 (.slice a n c) (some (.int q (k : Int))) (some (.int q2 (m : Int))) none).run Try.prog w = .ok (.slice (cutA a c k) (m - k) (c - k)) w := by
  obtain ⟨i0, hi0, hz0, hz1, hz2⟩ := info_parts info5
  rw [run_slice_lh w 22 a n c (by kernel_rfl) q q2 k m (by omega) (by omega) (by omega)]
  simp [sizeOf, typeInfo, elem22, hi0, hz1, sliced, cutA]
  try omega

/-- A part of bytes. -/
theorem take_part (l : List Nat) {q t : Nat} (h : q ≤ t) : l.take t = l.take q ++ (l.drop q).take (t - q) := by
  have : t = q + (t - q) := by omega
  rw [this, List.take_add, show q + (t - q) - q = t - q by omega]

theorem dSum_split (l : List Nat) (t : Nat) : dSum l = (dSum (l.take t) * dPow (l.length - t) + dSum (l.drop t)) % 2305843009213693951 := by
  have := dSum_append (l.take t) (l.drop t)
  rw [List.take_append_drop, List.length_drop] at this
  exact this

/-- What is cut off behind a place. -/
theorem cut_split (l : List Nat) (t : Nat) : (dSum l + (2305843009213693951 - dSum (l.take t) * dPow (l.length - t) % 2305843009213693951)) % 2305843009213693951 = dSum (l.drop t) :=
  dCut (dSum_lt _) (dSum_split l t)
/-- The block b holds the digest (x, y). -/
def Box (w : World) (b x y : Nat) : Prop := w.cell? ⟨b, 0, none⟩ = some (.int .u64 (x : Int)) ∧ w.cell? ⟨b, 1, none⟩ = some (.int .u64 (y : Int))

theorem Box.below {w w' : World} {b x y : Nat} (h : Box w b x y) (hb : Below w.heap.size w w') : Box w' b x y :=
  have hlt : b < w.heap.size := World.block_lt_of_cell? w _ h.1
  ⟨(hb.cell (p := ⟨b, 0, none⟩) hlt).trans h.1, (hb.cell (p := ⟨b, 1, none⟩) hlt).trans h.2⟩

theorem Box.new (w : World) (x y : Nat) : Box (w.alloc (.cells #[.int .u64 (x : Int), .int .u64 (y : Int)] 28)) w.heap.size x y := ⟨by simp [go_sem], by simp [go_sem]⟩

end Go.Proofs.Ytiajcolhemdnaaa
