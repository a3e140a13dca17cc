/- Lists of numbers copied; the document's tape laid; Step, whatever the call (among other things). -/
import Derived.Test.YtcmbnijjkpfhlaaZStepPut
namespace Go.Proofs.Ytcmbnijjkpfhlaa
open Go.RowKit
set_option linter.unusedSimpArgs false

theorem infoI : (Try.prog.info? 3).map (fun i => (i.zero, i.size, i.bytes)) = some (some (.int .i64 0), 1, 8) := by kernel_rfl

def cI (L : List Int) : List Value := L.map (Value.int .i64)

theorem rdI_cells {w : World} {ad : Addr} {n : Nat} {L : List Int} (h : RdI w (some ad) n L) : ∀ j u, (cI L)[j]? = some u → w.cell? (ad.add j) = some u := by
  intro j u hu
  have hj : j < L.length := by
    rcases Nat.lt_or_ge j L.length with h | h
    · exact h
    · rw [List.getElem?_eq_none (by simp [cI]; exact h)] at hu; cases hu
  have hl := h.1
  obtain ⟨b, o, he, hc'⟩ := h.2.2 (by omega)
  injection he with he
  subst he
  rw [add_plain, hc' j (by omega), ← hu]
  simp [cI, List.getD, hj]

/-- Numbers appended to an empty slice. -/
theorem run_freshI (W : World) (g0 : Nat) (A : Option Addr) (n c : Nat) (L : List Int) (hr : RdI W A n L) (hn : n ≤ 1000000) (hg0 : g0 < W.heap.size) (ty : TypeId) :
    ∃ gg cap W', (Builtin.append_ #[40, 40] ty #[.slice (some ⟨g0, 0, none⟩) 0 0, .slice A n c]).run Try.prog W = .ok (.slice (some ⟨gg, 0, none⟩) n cap) W' ∧ RdI W' (some ⟨gg, 0, none⟩) n L ∧ Below W.heap.size W W' ∧ (gg = g0 ∨ W.heap.size ≤ gg) ∧ gg < W'.heap.size := by
  obtain ⟨i0, hi0, hz0, hz1, hz2⟩ := info_parts infoI
  rcases Nat.eq_zero_or_pos n with h0 | h0
  · subst h0
    have : L = [] := List.eq_nil_of_length_eq_zero hr.1
    subst this
    refine ⟨g0, 0, W, ?_, ⟨rfl, by simp, by omega⟩, Below.refl _ _, .inl rfl, hg0⟩
    cases A <;> simp [Builtin.append_, run_underlying Try.underlying40, sizeOf, typeInfo, hi0, Builtin.lenOf, Builtin.firstCells, storeCells, loadCells, loadCellsFrom]
  · obtain ⟨b, o, rfl, hc⟩ := hr.2.2 h0
    have hcl : (cI L).length = n := by simp [cI, hr.1]
    obtain ⟨v', w', hrun, h1, h2⟩ := run_append_arg_grows (P := Try.prog) W 40 ty 3 i0 _ 1 8 Try.underlying40 hi0 hz0 hz1 hz2 rfl (by omega) ⟨g0, 0, none⟩ 0 0 [] (by simp) (by simp) ⟨b, o, none⟩ n c (cI L) (by rw [hcl]; omega) (rdI_cells hr) (by omega) (by unfold maxLen; omega) (by omega)
    simp only [Nat.zero_add, List.nil_append] at h1
    rcases h1.2 with ⟨_, h⟩ | ⟨g, cap, cur, rfl, hbg, hgo, hcap, _, hcs, ht⟩
    · omega
    · have hB : Below W.heap.size W w' := (Below.refl _ _).grown h2 (Nat.le_refl _) (by simp)
      refine ⟨g, cap, w', hrun, ⟨hr.1, hr.2.1, fun _ => ⟨g, 0, rfl, fun j hj => ?_⟩⟩, hB, .inr hbg, lt_of_block hgo⟩
      rw [Nat.zero_add, cell_of_row w' g j cur 3 (0, 0) hgo, ← Array.getElem?_toList]
      have e : cur.toList[j]? = (cI L)[j]? := by
        rw [← ht, List.getElem?_take_of_lt (by omega)]
      rw [e]
      simp [cI, List.getD, show j < L.length by rw [hr.1]; exact hj]

theorem step_freshI {ops : Array Oper} {o : Oper} {a : Act} {W : World} {K : Act → World → Prop} {Q : Exit → Act → World → Prop} {E : Prop} (hgd : o.guard = none) (s x : Operand)
    (ho : o.op = .call { callee := .builtin .append, args := #[s, x], argTypes := #[40, 40] }) (g0 : Nat) (hs : a.eval s = .slice (some ⟨g0, 0, none⟩) 0 0) (A : Option Addr) (n c : Nat) (hx : a.eval x = .slice A n c)
    (L : List Int) (hr : RdI W A n L) (hn : n ≤ 1000000) (hg0 : g0 < W.heap.size)
    (h : ∀ gg cap W', RdI W' (some ⟨gg, 0, none⟩) n L → Below W.heap.size W W' → (gg = g0 ∨ W.heap.size ≤ gg) → gg < W'.heap.size → K (a.put o.dst (.slice (some ⟨gg, 0, none⟩) n cap)) W') :
    if Region.wanted o (yielded ops a.tmps) = true then Oper.wp Try.prog o a W K Q else E := by
  have hw : Region.wanted o (yielded ops a.tmps) = true := by simp [Region.wanted, hgd]
  rw [if_pos hw]
  obtain ⟨gg, cap, W', hrun, h2, h3, h4, h5⟩ := run_freshI W g0 A n c L hr hn hg0 o.type
  unfold Oper.wp execOp
  simp only [ho, resolve, invoke, builtin, Sem.run_bind, Sem.run_pure, Result.andThen_ok, List.map_toArray, List.map_cons, List.map_nil, hs, hx, hrun]
  exact h gg cap W' h2 h3 h4 h5

/-- Numbers appended to an empty slice, in a region, behind a world V. -/
theorem step_freshV {ops : Array Oper} {o : Oper} {a : Act} {V W : World} {K : Act → World → Prop} {Q : Exit → Act → World → Prop} {E : Prop} (hgd : o.guard = none) (s x : Operand)
    (ho : o.op = .call { callee := .builtin .append, args := #[s, x], argTypes := #[40, 40] }) (g0 : Nat) (hs : a.eval s = .slice (some ⟨g0, 0, none⟩) 0 0) (A : Option Addr) (n c : Nat) (hx : a.eval x = .slice A n c)
    (L : List Int) (hr : RdI V A n L) (hn : n ≤ 1000000) (hB : Below V.heap.size V W) (hg0 : V.heap.size ≤ g0 ∧ g0 < W.heap.size)
    (h : ∀ gg cap W', RdI W' (some ⟨gg, 0, none⟩) n L → Below W.heap.size W W' → Below V.heap.size V W' → V.heap.size ≤ gg → gg < W'.heap.size → K (a.put o.dst (.slice (some ⟨gg, 0, none⟩) n cap)) W') :
    if Region.wanted o (yielded ops a.tmps) = true then Oper.wp Try.prog o a W K Q else E := by
  refine step_freshI hgd s x ho g0 hs A n c hx L (hr.later hB) hn hg0.2 ?_
  intro gg cap W' h1 h2 h3 h4
  have h5 := hB.size
  exact h gg cap W' h1 h2 (hB.trans (h2.mono hB.size)) (by rcases h3 with rfl | h3 <;> omega) h4

/-- The document's tape as it is laid. -/
theorem mta_start {V w8 : World} {r y g1 g2 c1 c2 nW nR : Nat} {LW LR : List Int} (hb : Below V.heap.size V w8) (h1 : RdI w8 (some ⟨g1, 0, none⟩) nW LW) (h2 : RdI w8 (some ⟨g2, 0, none⟩) nR LR) (k1 : V.heap.size ≤ g1 ∧ g1 < w8.heap.size) (k2 : V.heap.size ≤ g2 ∧ g2 < w8.heap.size) (hr : r ≤ 3000) :
    ∃ G, Mta (w8.alloc (mtObj r y (.slice (some ⟨g1, 0, none⟩) nW c1) (.slice (some ⟨g2, 0, none⟩) nR c2) (.slice none 0 0) 0)) w8.heap.size ⟨r, y, LW, LR, [], 0⟩ G ∧ ∀ k ∈ G, V.heap.size ≤ k := by
  have hsz := hb.size
  refine ⟨[w8.heap.size, g1, g2], ⟨.slice none 0 0, [], some ⟨g1, 0, none⟩, some ⟨g2, 0, none⟩, nW, c1, nR, c2, ?_⟩, ?_⟩
  · refine ⟨heap_alloc_new w8 _, h1.later (Below.alloc0 _ _), h2.later (Below.alloc0 _ _), World.ownsRow_nil _ _ _ _, by simp, rfl, by simp, by simp [usedOf], by simp only; omega, by simp, by simp [Value.ownBlock], ?_, ?_, ?_⟩
    · intro b o e
      injection e with e
      injection e with e
      subst e
      exact ⟨by simp, by omega⟩
    · intro b o e
      injection e with e
      injection e with e
      subst e
      exact ⟨by simp, by omega⟩
    · intro k hk
      simp only [List.mem_cons, List.not_mem_nil, or_false] at hk
      simp
      omega
  · intro k hk
    simp only [List.mem_cons, List.not_mem_nil, or_false] at hk
    omega

/-- Step, whatever the call. -/
theorem step_any (Zt : List Nat) (w W : World) (gt gp gm gq : Nat) (s : Pw) (t : Tst) (F G : List Nat) (h : Two Zt w W gt gp gm gq s t F s t G) (N : Nat) (hwi : s.within N) (hN : N ≤ 1000000) (hroom : t.room ≤ 1000000) (hnw : t.nw.length ≤ 1000000) (hnr : t.nr.length ≤ 1000000) (K : Nat) (I Z : Int) (a : Option Addr) (n c : Nat) (b : List Nat) (h2 : I < 9223372036854775808) (h4 : Rd w a n b) (hzb : 0 < n → ∀ b o, a = some ⟨b, o, none⟩ → b ∉ Zt) (hnb : n ≤ 300) :
    Calls Try.prog 21 #[.pointer (some ⟨gt, 0, none⟩), .pointer (some ⟨gm, 0, none⟩), .pointer (some ⟨gq, 0, none⟩), .agg #[.int .u8 (K : Int), .int .i64 I, .int .i64 Z, .slice a n c]] W fun e W' => e = .returned (.bool true) ∧ Stepped Zt w gt gp gm gq t N W' := by
  have hcase : (K : Int) % 7 = 0 ∨ (K : Int) % 7 = 1 ∨ (K : Int) % 7 = 2 ∨ (K : Int) % 7 = 3 ∨ (K : Int) % 7 = 4 ∨ (K : Int) % 7 = 5 ∨ (K : Int) % 7 = 6 := by omega
  rcases hcase with hk | hk | hk | hk | hk | hk | hk
  · exact step0 Zt w W gt gp gm gq s t F G h N hwi hN hnw K I Z a n c b h4 hzb hnb hk
  · exact step1 Zt w W gt gp gm gq s t F G h N hwi hN hnw K I Z _ hk
  · exact step2 Zt w W gt gp gm gq s t F G h N hwi hroom hnr K I Z _ hk
  · exact step3 Zt w W gt gp gm gq s t F G h N hwi K I Z _ hk
  · exact step4 Zt w W gt gp gm gq s t F G h N hwi K I Z _ hk h2
  · exact step5 Zt w W gt gp gm gq s t F G h N hwi K I Z _ hk h2
  · exact step6 Zt w W gt gp gm gq s t F G h N hwi K I Z _ hk

end Go.Proofs.Ytcmbnijjkpfhlaa
