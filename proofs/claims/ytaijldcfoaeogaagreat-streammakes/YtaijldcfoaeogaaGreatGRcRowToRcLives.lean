/- Rows of records: what a slice of them reads as; a row of the call's own, and one more record behind it. -/
import Derived.Test.YtaijldcfoaeogaaGreatGMemToRcEq
import Derived.Test.YtaijldcfoaeogaaGreatGRcMathToRcBytes
namespace Go.Proofs.YtaijldcfoaeogaaGreat
open Go.RowKit
set_option maxRecDepth 100000
set_option linter.unusedSimpArgs false

/-- A record in memory: its value's slice too. -/
structure RcC where
  x : Rec
  a : Option Addr
  m : Nat
  c : Nat
  le : m ≤ c

instance : Inhabited Rec := ⟨⟨0, 0, 0, 0, 0, [], 0, 0, 0⟩⟩
instance : Inhabited RcC := ⟨⟨default, none, 0, 0, Nat.le_refl _⟩⟩

/-- Its cells. -/
def rcL (e : RcC) : List Value := [.int .u8 (e.x.k : Int), .int .i64 e.x.i, .int .i64 e.x.b, .int .i64 e.x.f, .int .i64 e.x.t, .slice e.a e.m e.c, .int .i64 e.x.c, .int .u64 (e.x.n : Int), .int .u64 (e.x.s : Int)]

def cRc (L : List RcC) : List Value := L.flatMap rcL

theorem cRc_append (A B : List RcC) : cRc (A ++ B) = cRc A ++ cRc B := by simp [cRc]

theorem cRc_length (L : List RcC) : (cRc L).length = L.length * 9 := by
  induction L with
  | nil => rfl
  | cons r L ih =>
    have e : cRc (r :: L) = rcL r ++ cRc L := by simp [cRc]
    rw [e, List.length_append, ih]
    simp [rcL]
    omega

theorem cRc_one (L : List RcC) : ∀ u ∈ cRc L, u.oneCell' = true := by
  intro u hu
  simp only [cRc, List.mem_flatMap] at hu
  obtain ⟨x, _, hx⟩ := hu
  simp only [rcL, List.mem_cons, List.not_mem_nil, or_false] at hx
  rcases hx with rfl | rfl | rfl | rfl | rfl | rfl | rfl | rfl | rfl <;> rfl

theorem cRc_get (L : List RcC) : ∀ (j t : Nat), j < L.length → t < 9 → (cRc L)[j * 9 + t]? = (rcL (L.getD j default))[t]? := by
  induction L with
  | nil => intro j t h; simp at h
  | cons r L ih =>
    intro j t hj ht
    have e : cRc (r :: L) = rcL r ++ cRc L := by simp [cRc]
    have hl : (rcL r).length = 9 := rfl
    rw [e]
    cases j with
    | zero =>
      rw [List.getElem?_append_left (by rw [hl]; omega)]
      simp
    | succ j =>
      rw [List.getElem?_append_right (by rw [hl]; omega), hl]
      have := ih j t (by simpa using hj) ht
      have e2 : (j + 1) * 9 + t - 9 = j * 9 + t := by omega
      rw [e2, this]
      simp

/-- What each record's blocks read as. -/
def EachC (w : World) (L : List RcC) : Prop := ∀ e ∈ L, Rd w e.a e.m e.x.l

theorem EachC.later {w w' : World} {L : List RcC} (h : EachC w L) (hb : Below w.heap.size w w') : EachC w' L := fun e he => (h e he).later hb

/-- The slice '.slice a n _' reads as the records L. -/
structure RdC (w : World) (a : Option Addr) (n : Nat) (L : List RcC) : Prop where
  len : L.length = n
  each : EachC w L
  cells : 0 < n → ∃ b o, a = some ⟨b, o, none⟩ ∧ ∀ j t, j < n → t < 9 → w.cell? ⟨b, o + j * 9 + t, none⟩ = (rcL (L.getD j default))[t]?

theorem rcL_some (e : RcC) {t : Nat} (ht : t < 9) : ∃ v, (rcL e)[t]? = some v := by
  have : t < (rcL e).length := ht
  exact ⟨_, List.getElem?_eq_getElem this⟩

theorem RdC.later {w w' : World} {a : Option Addr} {n : Nat} {L : List RcC} (h : RdC w a n L) (hb : Below w.heap.size w w') : RdC w' a n L := by
  refine ⟨h.len, h.each.later hb, fun hn => ?_⟩
  obtain ⟨b, o, rfl, hc⟩ := h.cells hn
  refine ⟨b, o, rfl, fun j t hj ht => ?_⟩
  obtain ⟨v, hv⟩ := rcL_some (L.getD j default) ht
  have h1 := hc j t hj ht
  rw [hv] at h1 ⊢
  exact (hb.cell (p := ⟨b, o + j * 9 + t, none⟩) (World.block_lt_of_cell? w _ h1)).trans h1

/-- The nine cells of record j. -/
theorem RdC.at_ {w : World} {a : Option Addr} {n : Nat} {L : List RcC} (h : RdC w a n L) {j : Nat} (hj : j < n) :
    ∃ b o e, a = some ⟨b, o, none⟩ ∧ e = L.getD j default ∧ e ∈ L ∧ Rd w e.a e.m e.x.l ∧ ∀ t v, (rcL e)[t]? = some v → w.cell? ⟨b, o + j * 9 + t, none⟩ = some v := by
  obtain ⟨b, o, rfl, hc⟩ := h.cells (by omega)
  have hjl : j < L.length := by rw [h.len]; exact hj
  have hm : L.getD j default ∈ L := by simp [List.getD, hjl]
  refine ⟨b, o, _, rfl, rfl, hm, h.each _ hm, fun t v hv => ?_⟩
  have ht : t < 9 := (List.getElem?_eq_some_iff.1 hv).1
  rw [hc j t hj ht, hv]

/-- Without the first. -/
theorem RdC.tail {w : World} {a : Option Addr} {n : Nat} {L : List RcC} (h : RdC w a (n + 1) L) {b o : Nat} (ha : a = some ⟨b, o, none⟩) : RdC w (some ⟨b, o + 9, none⟩) n L.tail := by
  refine ⟨by have := h.len; simp; omega, fun e he => h.each e (List.mem_of_mem_tail he), fun _ => ⟨b, o + 9, rfl, fun j t hj ht => ?_⟩⟩
  obtain ⟨b', o', he, hc⟩ := h.cells (by omega)
  rw [ha] at he
  injection he with he
  injection he with e1 e2
  subst e1
  subst e2
  have := hc (j + 1) t (by omega) ht
  have e3 : o + (j + 1) * 9 + t = o + 9 + j * 9 + t := by omega
  rw [e3] at this
  rw [this]
  have hl := h.len
  cases L with
  | nil => simp at hl
  | cons r L => simp

def OwnC (w : World) (base : Nat) (v : Value) (L : List RcC) : Prop := w.ownsRow base 57 9 v L.length (cRc L)

theorem OwnC.nil (w : World) (base : Nat) : OwnC w base (.slice none 0 0) [] := World.ownsRow_nil _ _ _ _

theorem OwnC.rd {w : World} {base : Nat} {v : Value} {L : List RcC} (h : OwnC w base v L) (he : EachC w L) : ∃ a c, v = .slice a L.length c ∧ L.length ≤ c ∧ RdC w a L.length L ∧ (0 < L.length → ∃ b, a = some ⟨b, 0, none⟩ ∧ v.ownBlock = some b) := by
  have h0 := h
  rcases h.2 with ⟨rfl, h1⟩ | ⟨g, cap, cur, rfl, _, _, hcap, _⟩
  · have : L = [] := List.eq_nil_of_length_eq_zero h1
    subst this
    exact ⟨none, 0, rfl, Nat.le_refl _, ⟨rfl, he, by simp⟩, by simp⟩
  · refine ⟨_, _, rfl, hcap, ⟨rfl, he, fun _ => ⟨g, 0, rfl, fun j t hj ht => ?_⟩⟩, fun _ => ⟨g, rfl, rfl⟩⟩
    have hc := World.ownsRow.cells h0 (g := g) rfl
    obtain ⟨u, hu⟩ := rcL_some (L.getD j default) ht
    have hd := cRc_get L j t hj ht
    rw [hu] at hd ⊢
    have := hc _ _ hd
    rw [add_plain] at this
    simp only [Nat.add_assoc] at this ⊢
    exact this

theorem info_rc : (Tryz.prog.info? 57).map (fun i => (i.zero, i.size, i.bytes)) = some (some (.agg #[.int .u8 0, .int .i64 0, .int .i64 0, .int .i64 0, .int .i64 0, .slice none 0 0, .int .i64 0, .int .u64 0, .int .u64 0]), 9, 88) := by kernel_rfl

theorem run_append_c (w : World) (base : Nat) (v : Value) (L : List RcC) (ho : OwnC w base v L) (hbase : base ≤ w.heap.size) (A : Addr) (c : Nat) (e : RcC) (hr : ∀ t u, (rcL e)[t]? = some u → w.cell? (A.add t) = some u) (hn : L.length ≤ 1000000) (ty : TypeId) :
    ∃ v' w', (Builtin.append_ #[43, 43] ty #[v, .slice (some A) 1 c]).run Tryz.prog w = .ok v' w' ∧ OwnC w' base v' (L ++ [e]) ∧ w.grownBy w' v.ownBlock ∧ (v'.ownBlock = v.ownBlock ∨ v'.ownBlock = some w.heap.size) := by
  obtain ⟨i0, hi0, hz0, hz1, hz2⟩ := info_parts info_rc
  obtain ⟨v', w', hrun, h1, h2, h3, h4⟩ := run_append_own_at (P := Tryz.prog) w base 43 ty 57 i0 _ 9 88 Tryz.underlying43 hi0 hz0 hz1 hz2 rfl (by omega) v L.length (cRc L) ho A 1 c (rcL e) rfl hr (fun u hu => cRc_one [e] u (by simpa [cRc] using hu)) (by unfold maxLen; omega) (by omega) hbase
  refine ⟨v', w', hrun, ?_, h2, h4⟩
  unfold OwnC
  rw [cRc_append, List.length_append]
  simpa [cRc] using h1

theorem wpList_append_c {w : World} {ops : Array Oper} {rest : List Oper} {o : Oper} {a : Act} {Q : Exit → Act → World → Prop} (hgd : o.guard = none) (s x : Operand)
    (hop : o.op = .call { callee := .builtin .append, args := #[s, x], argTypes := #[43, 43] }) (v : Value) (hs : a.eval s = v) (A : Addr) (c : Nat) (hx : a.eval x = .slice (some A) 1 c)
    (base : Nat) (L : List RcC) (ho : OwnC w base v L) (hbase : base ≤ w.heap.size) (e : RcC) (hr : ∀ t u, (rcL e)[t]? = some u → w.cell? (A.add t) = some u) (hn : L.length ≤ 1000000)
    (h : ∀ v' w', OwnC w' base v' (L ++ [e]) → w.grownBy w' v.ownBlock → (v'.ownBlock = v.ownBlock ∨ v'.ownBlock = some w.heap.size) → wpList Tryz.prog ops Q rest (a.put o.dst v') w') :
    wpList Tryz.prog ops Q (o :: rest) a w := by
  refine wpList_plain hgd fun K hK => ?_
  obtain ⟨v', w', hrun, h1, h2, h3⟩ := run_append_c w base v L ho hbase A c e hr hn o.type
  unfold Oper.wp execOp
  simp only [hop, resolve, invoke, builtin, Sem.run_bind, Sem.run_pure, Result.andThen_ok, List.map_toArray, List.map_cons, List.map_nil, hs, hx, hrun]
  exact hK _ _ (h v' w' h1 h2 h3)

end Go.Proofs.YtaijldcfoaeogaaGreat

/- The chapter's example (lives), over any world. -/
namespace Go.Proofs.YtaijldcfoaeogaaGreat
open Go.RowKit
set_option maxRecDepth 100000
set_option linter.unusedSimpArgs false

theorem hole_ok : Rec.ok ⟨3, 0, 0, 2, 5, [], 0, 0, 0⟩ = true := by simp [Rec.ok, isRunB, Rec.eq]

theorem hole_bytes : Rec.bytes ⟨3, 0, 0, 2, 5, [], 0, 0, 0⟩ = [7, 3, 2, 5] ++ sumB (cSum [3, 2, 5]) := by
  have e1 : Rec.plain ⟨3, 0, 0, 2, 5, [], 0, 0, 0⟩ = [3, 2, 5] := by simp [Rec.plain, vEnc_small]
  have e2 : ([3, 2, 5] ++ sumB (cSum [3, 2, 5])).length = 7 := rfl
  unfold Rec.bytes
  rw [e1]
  unfold tEnc
  rw [e2, vEnc_small (by omega)]
  rfl

end Go.Proofs.YtaijldcfoaeogaaGreat
