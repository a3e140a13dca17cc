/- Rows of pairs of numbers (runs, steps) in memory: a slice that reads as them, a row of the call's own; over any world. -/
import Derived.Test.YtlmieegemckodaaMemAll
import Derived.Test.YtlmieegemckodaaExtAll
namespace Go.Proofs.Ytlmieegemckodaa
open Go.RowKit

theorem info_run : (Try.prog.info? 95).map (fun i => (i.zero, i.size, i.bytes)) = some (some (.agg #[.int .i64 0, .int .i64 0]), 2, 16) := by kernel_rfl
theorem info_step : (Try.prog.info? 129).map (fun i => (i.zero, i.size, i.bytes)) = some (some (.agg #[.int .i64 0, .int .i64 0]), 2, 16) := by kernel_rfl

def cR (L : List Rn) : List Value := L.flatMap fun r => [.int .i64 r.f, .int .i64 r.t]

theorem cR_append (A B : List Rn) : cR (A ++ B) = cR A ++ cR B := by simp [cR]

theorem cR_cons (r : Rn) (L : List Rn) : cR (r :: L) = .int .i64 r.f :: .int .i64 r.t :: cR L := by simp [cR]

theorem cR_length (L : List Rn) : (cR L).length = L.length * 2 := by
  induction L with
  | nil => rfl
  | cons d r ih => rw [cR_cons, List.length_cons, List.length_cons, List.length_cons, ih]; omega

theorem cR_get (L : List Rn) {j : Nat} (hj : j < L.length) : (cR L)[j * 2]? = some (.int .i64 (L.getD j default).f) ∧ (cR L)[j * 2 + 1]? = some (.int .i64 (L.getD j default).t) := by
  induction L generalizing j with
  | nil => simp at hj
  | cons d r ih =>
    cases j with
    | zero => rw [cR_cons]; simp
    | succ k =>
      have hk : k < r.length := by simpa using hj
      have h := ih hk
      have e1 : (k + 1) * 2 = k * 2 + 1 + 1 := by omega
      rw [cR_cons, e1]
      simpa using h

theorem cR_one (L : List Rn) : ∀ u ∈ cR L, u.oneCell' = true := by
  intro u hu
  simp only [cR, List.mem_flatMap] at hu
  obtain ⟨x, _, hx⟩ := hu
  simp only [List.mem_cons, List.not_mem_nil, or_false] at hx
  rcases hx with rfl | rfl <;> rfl

/-- The slice '.slice a n _' reads as the runs L. -/
def RdR (w : World) (a : Option Addr) (n : Nat) (L : List Rn) : Prop :=
  L.length = n ∧ (0 < n → ∃ b o, a = some ⟨b, o, none⟩ ∧ ∀ j, j < n → w.cell? ⟨b, o + j * 2, none⟩ = some (.int .i64 (L.getD j default).f) ∧ w.cell? ⟨b, o + j * 2 + 1, none⟩ = some (.int .i64 (L.getD j default).t))

theorem RdR.below {w w' : World} {a : Option Addr} {n B : Nat} {L : List Rn} (h : RdR w a n L) (hb : Below B w w') (hB : ∀ b o, a = some ⟨b, o, none⟩ → b < w.heap.size → b < B) : RdR w' a n L := by
  refine ⟨h.1, fun hn => ?_⟩
  obtain ⟨b, o, rfl, hc⟩ := h.2 hn
  refine ⟨b, o, rfl, fun j hj => ?_⟩
  have hlt : b < w.heap.size := World.block_lt_of_cell? w _ (hc j hj).1
  have hB' := hB b o rfl hlt
  exact ⟨(hb.cell (p := ⟨b, o + j * 2, none⟩) hB').trans (hc j hj).1, (hb.cell (p := ⟨b, o + j * 2 + 1, none⟩) hB').trans (hc j hj).2⟩

theorem RdR.later {w w' : World} {a : Option Addr} {n : Nat} {L : List Rn} (h : RdR w a n L) (hb : Below w.heap.size w w') : RdR w' a n L := h.below hb fun _ _ _ h => h

theorem RdR.nil (w : World) (a : Option Addr) : RdR w a 0 [] := ⟨rfl, by omega⟩

/-- The run at a place. -/
theorem RdR.at_ {w w' : World} {a : Option Addr} {n : Nat} {L : List Rn} (h : RdR w a n L) (hb : Below w.heap.size w w') {j : Nat} (hj : j < n) :
    ∃ b o r, a = some ⟨b, o, none⟩ ∧ r = L.getD j default ∧ b < w.heap.size ∧ w'.cell? ⟨b, o + j * 2, none⟩ = some (.int .i64 r.f) ∧ w'.cell? ⟨b, o + j * 2 + 1, none⟩ = some (.int .i64 r.t) := by
  have h0 := h.later hb
  obtain ⟨b, o, rfl, hc⟩ := h.2 (by omega)
  obtain ⟨b', o', he, hc'⟩ := h0.2 (by omega)
  injection he with he
  injection he with h1 h2
  subst h1
  subst h2
  exact ⟨b, o, _, rfl, rfl, World.block_lt_of_cell? w _ (hc j hj).1, (hc' j hj).1, (hc' j hj).2⟩

/-- The value v owns the runs L (elements of type T), in a block from 'base' on (or it is nil). -/
def OwnR (w : World) (base T : Nat) (v : Value) (L : List Rn) : Prop := w.ownsRow base T 2 v L.length (cR L)

theorem OwnR.rd {w : World} {base T : Nat} {v : Value} {L : List Rn} (h : OwnR w base T v L) : ∃ a c, v = .slice a L.length c ∧ RdR w a L.length L ∧ L.length ≤ c ∧ ∀ b o, a = some ⟨b, o, none⟩ → base ≤ b ∧ b < w.heap.size ∧ o = 0 := by
  have h1 := h
  rcases h.2 with ⟨rfl, hl⟩ | ⟨g, cap, cur, rfl, hbg, hgo, hnc, _⟩
  · have : L = [] := List.eq_nil_of_length_eq_zero hl
    subst this
    exact ⟨none, 0, rfl, RdR.nil _ _, Nat.le_refl _, by simp⟩
  · refine ⟨_, cap, rfl, ⟨rfl, fun _ => ⟨g, 0, rfl, fun j hj => ?_⟩⟩, hnc, ?_⟩
    · obtain ⟨k0, k1⟩ := cR_get L hj
      have e0 := h1.cells (g := g) rfl _ _ k0
      have e1 := h1.cells (g := g) rfl _ _ k1
      rw [add_plain] at e0 e1
      exact ⟨e0, by rw [Nat.add_assoc]; exact e1⟩
    · rintro b o e
      injection e with e
      injection e with e1 e2
      subst e1
      exact ⟨hbg, lt_of_block hgo, e2.symm⟩

theorem OwnR.nil (w : World) (base T : Nat) : OwnR w base T (.slice none 0 0) [] := World.ownsRow_nil w base T 2

theorem OwnR.kept {w w' : World} {base T : Nat} {v : Value} {L : List Rn} (h : OwnR w base T v L) (hb : Below w.heap.size w w') : OwnR w' base T v L :=
  World.ownsRow.kept h (row := none) ⟨hb.os, hb.tape, hb.output, hb.size, fun k hk _ => hb.block k hk⟩ (by
    cases hv : v.ownBlock with
    | none => exact .inl rfl
    | some k => exact .inr (by simp))

theorem OwnR.mono {w : World} {base base' T : Nat} {v : Value} {L : List Rn} (h : OwnR w base T v L) (hb : base' ≤ base) : OwnR w base' T v L := by
  refine ⟨h.1, ?_⟩
  rcases h.2 with h1 | ⟨g, cap, cur, hv, hbg, rest⟩
  · exact .inl h1
  · exact .inr ⟨g, cap, cur, hv, Nat.le_trans hb hbg, rest⟩

theorem OwnR.of_append {w : World} {base T m : Nat} {v : Value} {L M : List Rn} (hm : m = M.length) (h : w.ownsRow base T 2 v (L.length + m) (cR L ++ cR M)) : OwnR w base T v (L ++ M) := by
  unfold OwnR
  rw [cR_append, List.length_append, ← hm]
  exact h

theorem OwnR.base {w : World} {base T : Nat} {v : Value} {L : List Rn} (h : OwnR w base T v L) : ∀ k, v.ownBlock = some k → base ≤ k := fun k hk => (World.ownsRow.lt h k hk).1

/-- The block b holds the run r. -/
def BoxR (w : World) (b : Nat) (r : Rn) : Prop := w.cell? ⟨b, 0, none⟩ = some (.int .i64 r.f) ∧ w.cell? ⟨b, 1, none⟩ = some (.int .i64 r.t)

theorem BoxR.below {w w' : World} {b : Nat} {r : Rn} (h : BoxR w b r) (hb : Below w.heap.size w w') : BoxR w' b r :=
  have hlt : b < w.heap.size := World.block_lt_of_cell? w _ h.1
  ⟨(hb.cell (p := ⟨b, 0, none⟩) hlt).trans h.1, (hb.cell (p := ⟨b, 1, none⟩) hlt).trans h.2⟩

theorem BoxR.new (w : World) (x y : Int) (T : Nat) : BoxR (w.alloc (.cells #[.int .i64 x, .int .i64 y] T)) w.heap.size ⟨x, y⟩ := ⟨by simp [go_sem], by simp [go_sem]⟩

end Go.Proofs.Ytlmieegemckodaa
