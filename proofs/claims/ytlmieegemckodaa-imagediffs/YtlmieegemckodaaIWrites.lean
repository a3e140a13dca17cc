/- Rows of writes of the call's own: append. -/
import Derived.Test.YtlmieegemckodaaIMade
namespace Go.Proofs.Ytlmieegemckodaa
open Go.RowKit
set_option linter.unusedSimpArgs false

/-- The cells of writes. -/
def cW (L : List Wr) : List Value := L.flatMap fun r => [.int .i64 r.i, .bool r.clr, .slice r.a r.m r.c]

theorem cW_append (A B : List Wr) : cW (A ++ B) = cW A ++ cW B := by simp [cW]

theorem cW_length (L : List Wr) : (cW L).length = L.length * 3 := by
  induction L with
  | nil => rfl
  | cons r L ih =>
    have e : cW (r :: L) = [.int .i64 r.i, .bool r.clr, .slice r.a r.m r.c] ++ cW L := by simp [cW]
    rw [e, List.length_append, ih]
    simp
    omega

theorem cW_one (L : List Wr) : ∀ u ∈ cW L, u.oneCell' = true := by
  intro u hu
  simp only [cW, List.mem_flatMap] at hu
  obtain ⟨x, _, hx⟩ := hu
  simp only [List.mem_cons, List.not_mem_nil, or_false] at hx
  rcases hx with rfl | rfl | rfl <;> rfl

theorem cW_get (L : List Wr) : ∀ (j : Nat), j < L.length → (cW L)[j * 3]? = some (.int .i64 (L.getD j default).i) ∧ (cW L)[j * 3 + 1]? = some (.bool (L.getD j default).clr) ∧ (cW L)[j * 3 + 2]? = some (.slice (L.getD j default).a (L.getD j default).m (L.getD j default).c) := by
  induction L with
  | nil => intro j h; simp at h
  | cons r L ih =>
    intro j hj
    have e : cW (r :: L) = [.int .i64 r.i, .bool r.clr, .slice r.a r.m r.c] ++ cW L := by simp [cW]
    rw [e]
    cases j with
    | zero => simp
    | succ j =>
      have := ih j (by simpa using hj)
      have g : ∀ t, ([.int .i64 r.i, .bool r.clr, .slice r.a r.m r.c] ++ cW L)[(j + 1) * 3 + t]? = (cW L)[j * 3 + t]? := fun t => by
        rw [List.getElem?_append_right (by simp; omega)]
        congr 1
        simp
        omega
      have g0 := g 0
      simp only [Nat.add_zero] at g0
      rw [g0, g 1, g 2]
      simpa using this

/-- The other way: each cell of the row. -/
theorem RdW.news {w : World} {b o n : Nat} {L : List Wr} (h : RdW w (some ⟨b, o, none⟩) n L) : ∀ j u, (cW L)[j]? = some u → w.cell? ((⟨b, o, none⟩ : Addr).add j) = some u := by
  intro j u hu
  have hj : j < L.length * 3 := by
    rw [← cW_length]
    exact (List.getElem?_eq_some_iff.1 hu).1
  have hn : 0 < n := by have := h.len; omega
  obtain ⟨b', o', he, hc⟩ := h.cells hn
  injection he with he
  injection he with e1 e2
  subst e1
  subst e2
  have hd : j / 3 < L.length := by omega
  obtain ⟨c0, c1, c2⟩ := hc (j / 3) (by rw [← h.len]; exact hd)
  obtain ⟨d0, d1, d2⟩ := cW_get L (j / 3) hd
  rw [add_plain]
  have hm : j = j / 3 * 3 + j % 3 := by omega
  have h3 : j % 3 < 3 := Nat.mod_lt _ (by omega)
  generalize j / 3 = q at *
  generalize j % 3 = t at *
  subst hm
  rcases (show t = 0 ∨ t = 1 ∨ t = 2 by omega) with rfl | rfl | rfl
  · rw [Nat.add_zero] at hu ⊢
    rw [c0, ← hu, d0]
  · rw [← Nat.add_assoc, c1, ← hu, d1]
  · rw [← Nat.add_assoc, c2, ← hu, d2]

def OwnW (w : World) (base : Nat) (v : Value) (L : List Wr) : Prop := w.ownsRow base 25 3 v L.length (cW L)

/-- What each write's bytes read as. -/
def EachW (w : World) (L : List Wr) : Prop := ∀ r ∈ L, (Lit.int .i64 r.i).wf = true ∧ r.m ≤ r.c ∧ Rd w r.a r.m r.x

theorem EachW.later {w w' : World} {L : List Wr} (h : EachW w L) (hb : Below w.heap.size w w') : EachW w' L := fun r hr => ⟨(h r hr).1, (h r hr).2.1, (h r hr).2.2.later hb⟩

theorem OwnW.rd {w : World} {base : Nat} {v : Value} {L : List Wr} (h : OwnW w base v L) (he : EachW w L) : ∃ a c, v = .slice a L.length c ∧ RdW w a L.length L := by
  have h0 := h
  rcases h.2 with ⟨rfl, h1⟩ | ⟨g, cap, cur, rfl, _⟩
  · have : L = [] := List.eq_nil_of_length_eq_zero h1
    subst this
    exact ⟨none, 0, rfl, rfl, he, by simp⟩
  · refine ⟨_, _, rfl, rfl, he, fun _ => ⟨g, 0, rfl, fun j hj => ?_⟩⟩
    have hc := World.ownsRow.cells h0 (g := g) rfl
    obtain ⟨d0, d1, d2⟩ := cW_get L j hj
    have a0 := hc _ _ d0
    have a1 := hc _ _ d1
    have a2 := hc _ _ d2
    rw [add_plain] at a0 a1 a2
    simp only [Nat.add_assoc] at a0 a1 a2 ⊢
    exact ⟨a0, a1, a2⟩

theorem info_wr : (Try.prog.info? 25).map (fun i => (i.zero, i.size, i.bytes)) = some (some (.agg #[.int .i64 0, .bool false, .slice none 0 0]), 3, 40) := by kernel_rfl

theorem run_append_w (w : World) (base : Nat) (v : Value) (L0 : List Wr) (ho : OwnW w base v L0) (hbase : base ≤ w.heap.size) (A : Option Addr) (n c : Nat) (L : List Wr) (hr : RdW w A n L) (hn : L0.length + n ≤ 3000) (ty : TypeId) :
    ∃ v' w', (Builtin.append_ #[22, 22] ty #[v, .slice A n c]).run Try.prog w = .ok v' w' ∧ OwnW w' base v' (L0 ++ L) ∧ Below base w w' := by
  obtain ⟨i0, hi0, hz0, hz1, hz2⟩ := info_parts info_wr
  rcases A with _ | ad
  · have h0 : n = 0 := by
      rcases Nat.eq_zero_or_pos n with h | h
      · exact h
      · obtain ⟨b, o, h, _⟩ := hr.cells h; cases h
    subst h0
    have : L = [] := List.eq_nil_of_length_eq_zero hr.len
    subst this
    refine ⟨v, w, ?_, by simpa using ho, Below.refl _ _⟩
    rcases ho.2 with ⟨rfl, _⟩ | ⟨g, cap, cur, rfl, _, _, hnc, _⟩
    · simp [Builtin.append_, run_underlying Try.underlying22, sizeOf, typeInfo, hi0, Builtin.lenOf, Builtin.firstCells]
    · simp [Builtin.append_, run_underlying Try.underlying22, sizeOf, typeInfo, hi0, Builtin.lenOf, Builtin.firstCells, hnc, storeCells]
  · have hnews : ∀ j u, (cW L)[j]? = some u → w.cell? (ad.add j) = some u := by
      rcases Nat.eq_zero_or_pos n with h | h
      · have : L = [] := List.eq_nil_of_length_eq_zero (by rw [hr.len]; exact h)
        subst this
        intro j u hu
        simp [cW] at hu
      · obtain ⟨b, o, e, _⟩ := hr.cells h
        injection e with e
        subst e
        exact hr.news
    obtain ⟨v', w', hrun, h1, h2, h3, h4⟩ := run_append_own_at (P := Try.prog) w base 22 ty 25 i0 _ 3 40 Try.underlying22 hi0 hz0 hz1 hz2 rfl (by omega) v L0.length (cW L0) ho ad n c (cW L) (by rw [cW_length, hr.len]) hnews (cW_one L) (by unfold maxLen; omega) (by omega) hbase
    refine ⟨v', w', hrun, ?_, (Below.refl _ _).grown h2 hbase (fun k hk => (World.ownsRow.lt ho k hk).1)⟩
    unfold OwnW
    rw [cW_append, List.length_append, hr.len]
    exact h1

theorem wpList_append_w {w : World} {ops : Array Oper} {rest : List Oper} {o : Oper} {a : Act} {Q : Exit → Act → World → Prop} (hgd : o.guard = none) (s x : Operand)
    (hop : o.op = .call { callee := .builtin .append, args := #[s, x], argTypes := #[22, 22] }) (v : Value) (hs : a.eval s = v) (A : Option Addr) (n c : Nat) (hx : a.eval x = .slice A n c)
    (base : Nat) (L0 : List Wr) (ho : OwnW w base v L0) (hbase : base ≤ w.heap.size) (L : List Wr) (hr : RdW w A n L) (hn : L0.length + n ≤ 3000)
    (h : ∀ v' w', OwnW w' base v' (L0 ++ L) → Below base w w' → wpList Try.prog ops Q rest (a.put o.dst v') w') :
    wpList Try.prog ops Q (o :: rest) a w := by
  refine wpList_plain hgd fun K hK => ?_
  obtain ⟨v', w', hrun, h1, h2⟩ := run_append_w w base v L0 ho hbase A n c L hr hn o.type
  unfold Oper.wp execOp
  simp only [hop, resolve, invoke, builtin, Sem.run_bind, Sem.run_pure, Result.andThen_ok, List.map_toArray, List.map_cons, List.map_nil, hs, hx, hrun]
  exact hK _ _ (h v' w' h1 h2)

/-- An empty row that was just made. -/
theorem ownW_new (w : World) : OwnW (w.alloc (.cells #[] 25)) w.heap.size (.slice (some ⟨w.heap.size, 0, none⟩) 0 0) [] :=
  ⟨rfl, .inr ⟨w.heap.size, 0, #[], rfl, Nat.le_refl _, heap_alloc_last _ _, Nat.le_refl _, by unfold maxLen; omega, rfl, rfl⟩⟩

end Go.Proofs.Ytlmieegemckodaa
