/- What TapeActs begins with: lists of numbers copied, the document's tape laid, the calls that came in. -/
import Derived.Test.YtpkfpdklolkgeaaTStepPut
import Derived.Test.YtpkfpdklolkgeaaOrders
namespace Go.Proofs.Ytpkfpdklolkgeaa
open Go.RowKit
set_option linter.unusedSimpArgs false

theorem infoI : (Try.prog.info? 3).map (fun i => (i.zero, i.size, i.bytes)) = some (some (.int .i64 0), 1, 8) := by kernel_rfl

def cI (L : List Int) : List Value := L.map (Value.int .i64)

theorem rdI_cells {w : World} {ad : Addr} {n : Nat} {L : List Int} (h : RdI w (some ad) n L) : ∀ j u, (cI L)[j]? = some u → w.cell? (ad.add j) = some u := by
  intro j u hu
  have hj : j < L.length := by
    rcases Nat.lt_or_ge j L.length with h | h
    · exact h
    · rw [List.getElem?_eq_none (by simp [cI]; exact h)] at hu; cases hu
  have hl := h.1
  obtain ⟨b, o, he, hc'⟩ := h.2.2 (by omega)
  injection he with he
  subst he
  rw [add_plain, hc' j (by omega), ← hu]
  simp [cI, List.getD, hj]

/-- Numbers appended to an empty slice. -/
theorem run_freshI (W : World) (g0 : Nat) (A : Option Addr) (n c : Nat) (L : List Int) (hr : RdI W A n L) (hn : n ≤ 1000000) (hg0 : g0 < W.heap.size) (ty : TypeId) :
    ∃ gg cap W', (Builtin.append_ #[22, 22] ty #[.slice (some ⟨g0, 0, none⟩) 0 0, .slice A n c]).run Try.prog W = .ok (.slice (some ⟨gg, 0, none⟩) n cap) W' ∧ RdI W' (some ⟨gg, 0, none⟩) n L ∧ Below W.heap.size W W' ∧ (gg = g0 ∨ W.heap.size ≤ gg) ∧ gg < W'.heap.size := by
  obtain ⟨i0, hi0, hz0, hz1, hz2⟩ := info_parts infoI
  rcases Nat.eq_zero_or_pos n with h0 | h0
  · subst h0
    have : L = [] := List.eq_nil_of_length_eq_zero hr.1
    subst this
    refine ⟨g0, 0, W, ?_, ⟨rfl, by simp, by omega⟩, Below.refl _ _, .inl rfl, hg0⟩
    cases A <;> simp [Builtin.append_, run_underlying Try.underlying22, sizeOf, typeInfo, hi0, Builtin.lenOf, Builtin.firstCells, storeCells, loadCells, loadCellsFrom]
  · obtain ⟨b, o, rfl, hc⟩ := hr.2.2 h0
    have hcl : (cI L).length = n := by simp [cI, hr.1]
    obtain ⟨v', w', hrun, h1, h2⟩ := run_append_arg_grows (P := Try.prog) W 22 ty 3 i0 _ 1 8 Try.underlying22 hi0 hz0 hz1 hz2 rfl (by omega) ⟨g0, 0, none⟩ 0 0 [] (by simp) (by simp) ⟨b, o, none⟩ n c (cI L) (by rw [hcl]; omega) (rdI_cells hr) (by omega) (by unfold maxLen; omega) (by omega)
    simp only [Nat.zero_add, List.nil_append] at h1
    rcases h1.2 with ⟨_, h⟩ | ⟨g, cap, cur, rfl, hbg, hgo, hcap, _, hcs, ht⟩
    · omega
    · have hB : Below W.heap.size W w' := (Below.refl _ _).grown h2 (Nat.le_refl _) (by simp)
      refine ⟨g, cap, w', hrun, ⟨hr.1, hr.2.1, fun _ => ⟨g, 0, rfl, fun j hj => ?_⟩⟩, hB, .inr hbg, lt_of_block hgo⟩
      rw [Nat.zero_add, cell_of_row w' g j cur 3 (0, 0) hgo, ← Array.getElem?_toList]
      have e : cur.toList[j]? = (cI L)[j]? := by
        rw [← ht, List.getElem?_take_of_lt (by omega)]
      rw [e]
      simp [cI, List.getD, show j < L.length by rw [hr.1]; exact hj]

theorem step_freshI {ops : Array Oper} {o : Oper} {a : Act} {W : World} {K : Act → World → Prop} {Q : Exit → Act → World → Prop} {E : Prop} (hgd : o.guard = none) (s x : Operand)
    (ho : o.op = .call { callee := .builtin .append, args := #[s, x], argTypes := #[22, 22] }) (g0 : Nat) (hs : a.eval s = .slice (some ⟨g0, 0, none⟩) 0 0) (A : Option Addr) (n c : Nat) (hx : a.eval x = .slice A n c)
    (L : List Int) (hr : RdI W A n L) (hn : n ≤ 1000000) (hg0 : g0 < W.heap.size)
    (h : ∀ gg cap W', RdI W' (some ⟨gg, 0, none⟩) n L → Below W.heap.size W W' → (gg = g0 ∨ W.heap.size ≤ gg) → gg < W'.heap.size → K (a.put o.dst (.slice (some ⟨gg, 0, none⟩) n cap)) W') :
    if Region.wanted o (yielded ops a.tmps) = true then Oper.wp Try.prog o a W K Q else E := by
  have hw : Region.wanted o (yielded ops a.tmps) = true := by simp [Region.wanted, hgd]
  rw [if_pos hw]
  obtain ⟨gg, cap, W', hrun, h2, h3, h4, h5⟩ := run_freshI W g0 A n c L hr hn hg0 o.type
  unfold Oper.wp execOp
  simp only [ho, resolve, invoke, builtin, Sem.run_bind, Sem.run_pure, Result.andThen_ok, List.map_toArray, List.map_cons, List.map_nil, hs, hx, hrun]
  exact h gg cap W' h2 h3 h4 h5

/-- A call: its kind, its two numbers, its bytes and where they lie. -/
structure Cal where
  K : Nat
  I : Int
  Z : Int
  a : Option Addr
  n : Nat
  c : Nat
  b : List Nat

def Cal.none : Cal := ⟨0, 0, 0, .none, 0, 0, []⟩

/-- A call as it may come in. -/
def Cal.fits (w : World) (x : Cal) : Prop := x.K < 256 ∧ x.I < 9223372036854775808 ∧ x.n ≤ x.c ∧ Rd w x.a x.n x.b

/-- The slice '.slice a n _' reads as the calls X. -/
def RdC (w : World) (a : Option Addr) (n : Nat) (X : List Cal) : Prop :=
  X.length = n ∧ (∀ x ∈ X, x.fits w) ∧ (0 < n → ∃ b o, a = some ⟨b, o, none⟩ ∧ ∀ j, j < n → w.cell? ⟨b, o + j * 4, none⟩ = some (.int .u8 ((X.getD j Cal.none).K : Int)) ∧ w.cell? ⟨b, o + j * 4 + 1, none⟩ = some (.int .i64 (X.getD j Cal.none).I) ∧ w.cell? ⟨b, o + j * 4 + 2, none⟩ = some (.int .i64 (X.getD j Cal.none).Z) ∧ w.cell? ⟨b, o + j * 4 + 3, none⟩ = some (.slice (X.getD j Cal.none).a (X.getD j Cal.none).n (X.getD j Cal.none).c))

theorem RdC.later {w w' : World} {a : Option Addr} {n : Nat} {X : List Cal} (h : RdC w a n X) (hb : Below w.heap.size w w') : RdC w' a n X := by
  refine ⟨h.1, fun x hx => ?_, fun hn => ?_⟩
  · obtain ⟨h1, h2, h3, h4⟩ := h.2.1 x hx
    exact ⟨h1, h2, h3, h4.later hb⟩
  obtain ⟨b, o, rfl, hc⟩ := h.2.2 hn
  refine ⟨b, o, rfl, fun j hj => ?_⟩
  have hlt : b < w.heap.size := World.block_lt_of_cell? w _ (hc j hj).1
  exact ⟨(hb.cell (p := ⟨b, o + j * 4, none⟩) hlt).trans (hc j hj).1, (hb.cell (p := ⟨b, o + j * 4 + 1, none⟩) hlt).trans (hc j hj).2.1, (hb.cell (p := ⟨b, o + j * 4 + 2, none⟩) hlt).trans (hc j hj).2.2.1, (hb.cell (p := ⟨b, o + j * 4 + 3, none⟩) hlt).trans (hc j hj).2.2.2⟩

/-- Step, whatever the call. -/
theorem step_any (w W : World) (gt gp gm gq : Nat) (s : Pw) (t : Tst) (F G : List Nat) (h : Two w W gt gp gm gq s t F s t G) (N : Nat) (hwi : s.within N) (hN : N ≤ 1000000) (hroom : t.room ≤ 1000000) (hnw : t.nw.length ≤ 1000000) (hnr : t.nr.length ≤ 1000000) (x : Cal) (hx : x.fits w) (hnb : x.n ≤ 300) :
    Calls Try.prog 8 #[.pointer (some ⟨gt, 0, none⟩), .pointer (some ⟨gm, 0, none⟩), .pointer (some ⟨gq, 0, none⟩), .agg #[.int .u8 (x.K : Int), .int .i64 x.I, .int .i64 x.Z, .slice x.a x.n x.c]] W fun e W' => e = .returned (.bool true) ∧ Stepped w gt gp gm gq t N W' := by
  obtain ⟨K, I, Z, a, n, c, b⟩ := x
  obtain ⟨h1, h2, h3, h4⟩ := hx
  simp only at h1 h2 h3 h4 hnb ⊢
  have hcase : (K : Int) % 7 = 0 ∨ (K : Int) % 7 = 1 ∨ (K : Int) % 7 = 2 ∨ (K : Int) % 7 = 3 ∨ (K : Int) % 7 = 4 ∨ (K : Int) % 7 = 5 ∨ (K : Int) % 7 = 6 := by omega
  rcases hcase with hk | hk | hk | hk | hk | hk | hk
  · exact step0 w W gt gp gm gq s t F G h N hwi hN hnw K I Z a n c b h4 hnb hk
  · exact step1 w W gt gp gm gq s t F G h N hwi hN hnw K I Z _ hk
  · exact step2 w W gt gp gm gq s t F G h N hwi hroom hnr K I Z _ hk
  · exact step3 w W gt gp gm gq s t F G h N hwi K I Z _ hk
  · exact step4 w W gt gp gm gq s t F G h N hwi K I Z _ hk h2
  · exact step5 w W gt gp gm gq s t F G h N hwi K I Z _ hk h2
  · exact step6 w W gt gp gm gq s t F G h N hwi K I Z _ hk

end Go.Proofs.Ytpkfpdklolkgeaa
