/- Bytes in memory: a slice that reads as bytes, a row of the call's own, strings of them, slices of slices, appends; over any world. -/
import Derived.Test.YtkfnjekeegebaaaRows
import Derived.WalkKit
import Derived.WalkSpells
import Derived.WalkLawsBesides
import Derived.Below
import Derived.Deep.LoopGhost
import Derived.Deep.AppendLies
import Derived.Maps.AppendAt
import Derived.Laws.BytesArg
import Derived.Laws.MakeOwn
import Derived.Laws.Concat
import Derived.OwnWalk
import Derived.Lib.Hide
namespace Go.Proofs.Ytkfnjekeegebaaa
open Go.RowKit

theorem info5 : (Try.prog.info? 5).map (fun i => (i.zero, i.size, i.bytes)) = some (some (.int .u8 0), 1, 1) := by kernel_rfl

theorem ret_bool {a b : Bool} (h : a = b) : Ending.returned (.bool a) = .returned (.bool b) := by rw [h]

def cB (l : List Nat) : List Value := l.map fun x : Nat => Value.int .u8 (x : Int)

theorem cB_append (a b : List Nat) : cB (a ++ b) = cB a ++ cB b := by simp [cB]

theorem cB_length (a : List Nat) : (cB a).length = a.length := by simp [cB]

theorem cB_one (l : List Nat) : ∀ u ∈ cB l, u.oneCell' = true := by
  intro u hu
  simp only [cB, List.mem_map] at hu
  obtain ⟨x, _, rfl⟩ := hu
  rfl

/-- The slice '.slice a n _' reads as the bytes l. -/
def Rd (w : World) (a : Option Addr) (n : Nat) (l : List Nat) : Prop :=
  l.length = n ∧ (∀ x ∈ l, x < 256) ∧ (0 < n → ∃ b o, a = some ⟨b, o, none⟩ ∧ ∀ j, j < n → w.cell? ⟨b, o + j, none⟩ = some (.int .u8 ((l.getD j 0 : Nat) : Int)))

/-- The value v owns the bytes l, in a block from 'base' on (or it is nil). -/
def Own (w : World) (base : Nat) (v : Value) (l : List Nat) : Prop := (∀ x ∈ l, x < 256) ∧ w.ownsRow base 5 1 v l.length (cB l)

theorem add_plain (b o j : Nat) : (⟨b, o, none⟩ : Addr).add j = ⟨b, o + j, none⟩ := by unfold Addr.add; split <;> simp_all

theorem Rd.below {w w' : World} {a : Option Addr} {n B : Nat} {l : List Nat} (h : Rd w a n l) (hb : Below B w w') (hB : ∀ b o, a = some ⟨b, o, none⟩ → b < w.heap.size → b < B) : Rd w' a n l := by
  refine ⟨h.1, h.2.1, fun hn => ?_⟩
  obtain ⟨b, o, rfl, hc⟩ := h.2.2 hn
  refine ⟨b, o, rfl, fun j hj => ?_⟩
  have hlt : b < w.heap.size := World.block_lt_of_cell? w _ (hc j hj)
  exact (hb.cell (p := ⟨b, o + j, none⟩) (hB b o rfl hlt)).trans (hc j hj)

theorem Rd.later {w w' : World} {a : Option Addr} {n : Nat} {l : List Nat} (h : Rd w a n l) (hb : Below w.heap.size w w') : Rd w' a n l := h.below hb fun _ _ _ h => h

theorem Own.rd {w : World} {base : Nat} {v : Value} {l : List Nat} (h : Own w base v l) : ∃ a c, v = .slice a l.length c ∧ Rd w a l.length l := by
  obtain ⟨hb, h0⟩ := h
  have h1 := h0
  rcases h0.2 with ⟨rfl, hl⟩ | ⟨g, cap, cur, rfl, _⟩
  · have : l = [] := List.eq_nil_of_length_eq_zero hl
    subst this
    exact ⟨none, 0, rfl, rfl, by simp, by simp⟩
  · refine ⟨_, cap, rfl, rfl, hb, fun _ => ⟨g, 0, rfl, fun j hj => ?_⟩⟩
    have := h1.cells (g := g) rfl j (.int .u8 ((l.getD j 0 : Nat) : Int)) (by simp [cB, List.getD, hj])
    rw [← add_plain]; exact this

theorem Own.nil (w : World) (base : Nat) : Own w base (.slice none 0 0) [] := ⟨by simp, World.ownsRow_nil w base 5 1⟩

theorem Own.kept {w w' : World} {base : Nat} {v : Value} {l : List Nat} (h : Own w base v l) (hb : Below w.heap.size w w') : Own w' base v l :=
  ⟨h.1, h.2.kept (row := none) ⟨hb.os, hb.tape, hb.output, hb.size, fun k hk _ => hb.block k hk⟩ (by
    cases hv : v.ownBlock with
    | none => exact .inl rfl
    | some k => exact .inr (by simp))⟩

theorem Own.mono {w : World} {base base' : Nat} {v : Value} {l : List Nat} (h : Own w base v l) (hb : base' ≤ base) : Own w base' v l :=
  ⟨h.1, h.2.1, h.2.2.imp id fun ⟨g, cap, cur, hv, hg, rest⟩ => ⟨g, cap, cur, hv, Nat.le_trans hb hg, rest⟩⟩

theorem Own.alloc {w : World} {base : Nat} {v : Value} {l : List Nat} (h : Own w base v l) (o : Obj) : Own (w.alloc o) base v l := ⟨h.1, h.2.alloc o⟩

/-- A byte appended. -/
theorem Own.snoc {w : World} {base : Nat} {v : Value} {l : List Nat} {x : Nat} (hx : x < 256) (hl : ∀ y ∈ l, y < 256) (h : w.ownsRow base 5 1 v (l.length + 1) (cB l ++ [.int .u8 (x : Int)])) : Own w base v (l ++ [x]) := by
  refine ⟨?_, ?_⟩
  · intro y hy
    simp only [List.mem_append, List.mem_singleton] at hy
    rcases hy with hy | rfl
    · exact hl y hy
    · exact hx
  · rw [cB_append]; simpa [cB] using h

/-- The bytes l as a string. -/
def strB (l : List Nat) : ByteArray := strOfNums (l.map fun x : Nat => (x : Int))

theorem conv_rd {w : World} {a : Option Addr} {n : Nat} {l : List Nat} (h : Rd w a n l) (c : Nat) : (convert 26 9 (.slice a n c)).run Try.prog w = .ok (.string (strB l)) w := by
  rcases Nat.eq_zero_or_pos n with h0 | h0
  · have hl : l = [] := List.eq_nil_of_length_eq_zero (by rw [h.1]; exact h0)
    subst hl
    subst h0
    cases a with
    | none => exact run_convert_bytes_nil w 26 5 Try.underlying26 Try.underlying5 0 c 9 Try.underlying9
    | some ad =>
      obtain ⟨b, o, e⟩ := ad
      rw [run_convert_bytes_string w 26 9 5 _ 0 c Try.underlying26 Try.underlying5 Try.underlying9, run_bytesToString w _ 0 c [] (by simp [loadCells, loadCellsFrom])]
      rfl
  · obtain ⟨b, o, rfl, hc⟩ := h.2.2 h0
    exact run_convert_bytes_arg w 26 5 Try.underlying26 Try.underlying5 b o n c (l.map fun x : Nat => (x : Int)) (by simpa using h.1) (fun i hi => by
      rw [hc i hi]
      have : i < l.length := by rw [h.1]; exact hi
      simp [List.getD, this]) 9 Try.underlying9

theorem strB_inj {l m : List Nat} (hl : ∀ x ∈ l, x < 256) (hm : ∀ x ∈ m, x < 256) (h : strB l = strB m) : l = m := by
  have h1 : (strB l).data.toList = (strB m).data.toList := by rw [h]
  simp only [strB, strOfNums_data, List.map_map] at h1
  have key : ∀ (l : List Nat), (∀ x ∈ l, x < 256) → (l.map ((fun n : Int => UInt8.ofNat n.toNat) ∘ fun x : Nat => (x : Int))).map UInt8.toNat = l := by
    intro l hl
    induction l with
    | nil => rfl
    | cons x r ih =>
      simp only [List.map_cons, Function.comp_apply, Int.toNat_natCast]
      rw [ih fun y hy => hl y (by simp [hy])]
      congr 1
      have := hl x (by simp)
      simp; omega
  rw [← key l hl, h1, key m hm]

theorem Own.conv {w : World} {base : Nat} {v : Value} {l : List Nat} (h : Own w base v l) : (convert 26 9 v).run Try.prog w = .ok (.string (strB l)) w := by
  obtain ⟨a, c, rfl, hr⟩ := h.rd
  exact conv_rd hr c

theorem strB_append (A B : List Nat) : strB A ++ strB B = strB (A ++ B) := by
  apply ByteArray.ext
  simp [strB, strOfNums, ByteArray.data_append]

theorem strB_size (A : List Nat) : (strB A).size = A.length := by unfold strB; rw [strOfNums_size]; simp

theorem rd_new (w : World) (l : List Nat) (h : ∀ x ∈ l, x < 256) : Rd (w.alloc (.cells (cB l).toArray 5)) (some ⟨w.heap.size, 0, none⟩) l.length l := by
  refine ⟨rfl, h, fun _ => ⟨_, _, rfl, fun j hj => ?_⟩⟩
  rw [World.cell?_alloc_new]
  simp [cB, List.getD, hj]

theorem Below.alloc0 (w : World) (o : Obj) : Below w.heap.size w (w.alloc o) := (Below.refl _ _).alloc (Nat.le_refl _) _

def cutA (a : Option Addr) (c k : Nat) : Option Addr := if c = k then a else a.map (·.add k)

theorem elem22 : Try.prog.elem 26 = 5 := by kernel_rfl

theorem slice_from (a : Option Addr) (n c k : Nat) (q : IntKind) (hk : k ≤ n) (w : World) :
    (Instr.slice 26 (.slice a n c) (some (.int q (k : Int))) none none).run Try.prog w = .ok (.slice (cutA a c k) (n - k) (c - k)) w := by
  obtain ⟨i0, hi0, hz0, hz1, hz2⟩ := info_parts info5
  rw [run_slice_l w 26 a n c (by kernel_rfl) q k (by omega) (by omega)]
  simp [sizeOf, typeInfo, elem22, hi0, hz1, sliced, cutA]

theorem slice_to (a : Option Addr) (n c k : Nat) (q : IntKind) (hk : k ≤ c) (w : World) :
    (Instr.slice 26 (.slice a n c) none (some (.int q (k : Int))) none).run Try.prog w = .ok (.slice a k c) w := by
  obtain ⟨i0, hi0, hz0, hz1, hz2⟩ := info_parts info5
  rw [run_slice_h w 26 a n c (by kernel_rfl) q k (by omega) (by omega)]
  simp [sizeOf, typeInfo, elem22, hi0, sliced]
  intro _
  cases a <;> simp [Addr.add]

theorem Rd.cut {w : World} {a : Option Addr} {n c k : Nat} {l : List Nat} (h : Rd w a n l) (hk : k ≤ n) (hc : n ≤ c) : Rd w (cutA a c k) (n - k) (l.drop k) := by
  refine ⟨by rw [List.length_drop, h.1], fun x hx => h.2.1 x (List.mem_of_mem_drop hx), fun h0 => ?_⟩
  obtain ⟨b, o, rfl, hcell⟩ := h.2.2 (by omega)
  refine ⟨b, o + k, ?_, fun j hj => ?_⟩
  · unfold cutA
    rw [if_neg (by omega)]
    simp [add_plain]
  · rw [Nat.add_assoc, hcell (k + j) (by omega)]
    simp [List.getD]

theorem grown_set (w : World) (g i : Nat) (u : Value) : w.grownBy (w.setCell ⟨g, i, none⟩ u) (some g) :=
  ⟨rfl, rfl, rfl, by simp [World.setCell], fun k _ hne => Below.heap_setCell w _ u k (by rintro rfl; exact hne rfl)⟩

theorem grownBy_of_below {w w' : World} (h : Below w.heap.size w w') (row : Option Nat) : w.grownBy w' row := ⟨h.os, h.tape, h.output, h.size, fun k hk _ => h.block k hk⟩

theorem Rd.first {w : World} {a : Option Addr} {n k : Nat} {l : List Nat} (h : Rd w a n l) (hk : k ≤ n) : Rd w a k (l.take k) := by
  refine ⟨by rw [List.length_take, h.1]; omega, fun x hx => h.2.1 x (List.mem_of_mem_take hx), fun h0 => ?_⟩
  obtain ⟨b, o, e, hc⟩ := h.2.2 (by omega)
  refine ⟨b, o, e, fun j hj => ?_⟩
  rw [hc j (by omega)]
  have h1 : j < l.length := by rw [h.1]; omega
  simp [List.getD, h1, hj]

theorem Own.sl {w : World} {base : Nat} {v : Value} {l : List Nat} (h : Own w base v l) : ∃ a c, v = .slice a l.length c ∧ Rd w a l.length l ∧ l.length ≤ c := by
  obtain ⟨a, c, rfl, hr⟩ := h.rd
  refine ⟨a, c, rfl, hr, ?_⟩
  rcases h.2.2 with ⟨hv, hl⟩ | ⟨g, cap, cur, hv, _, _, hc, _⟩
  · omega
  · injection hv with _ _ h3
    omega

theorem Own.lies {w : World} {base : Nat} {v : Value} {l : List Nat} (h : Own w base v l) : ∃ a c, v = .slice a l.length c ∧ Rd w a l.length l ∧ l.length ≤ c ∧ ∀ b o, a = some ⟨b, o, none⟩ → base ≤ b := by
  obtain ⟨a, c, rfl, hr, hc⟩ := h.sl
  refine ⟨a, c, rfl, hr, hc, ?_⟩
  rintro b o rfl
  exact (h.2.lt b rfl).1

/-- An empty row of the call's own. -/
theorem own_empty {w : World} {g : Nat} (hg : w.heap[g]? = some (.cells #[] 5 (0, 0))) : Own w g (.slice (some ⟨g, 0, none⟩) 0 0) [] :=
  ⟨by simp, rfl, .inr ⟨g, 0, #[], rfl, Nat.le_refl _, hg, Nat.le_refl _, Nat.zero_le _, rfl, rfl⟩⟩

theorem rd_cells {w : World} {ad : Addr} {n : Nat} {l : List Nat} (h : Rd w (some ad) n l) : ∀ j u, (cB l)[j]? = some u → w.cell? (ad.add j) = some u := by
  intro j u hu
  have hj : j < l.length := by
    rcases Nat.lt_or_ge j l.length with h | h
    · exact h
    · rw [List.getElem?_eq_none (by rw [cB_length]; exact h)] at hu; cases hu
  have hl := h.1
  obtain ⟨b, o, he, hc'⟩ := h.2.2 (by omega)
  injection he with he
  subst he
  rw [add_plain, hc' j (by omega), ← hu]
  simp [cB, List.getD, hj]

/-- The run of such an append. -/
theorem run_fresh (w : World) (g0 : Nat) (hg : w.heap[g0]? = some (.cells #[] 5 (0, 0))) (A : Option Addr) (n c : Nat) (l : List Nat) (hr : Rd w A n l) (hn : n ≤ 1000000) (ty : TypeId) :
    ∃ g cap w', (Builtin.append_ #[26, 26] ty #[.slice (some ⟨g0, 0, none⟩) 0 0, .slice A n c]).run Try.prog w = .ok (.slice (some ⟨g, 0, none⟩) n cap) w' ∧ g0 ≤ g ∧ Own w' g0 (.slice (some ⟨g, 0, none⟩) n cap) l ∧ w.grownBy w' (some g0) := by
  obtain ⟨i0, hi0, hz0, hz1, hz2⟩ := info_parts info5
  have hlt : g0 < w.heap.size := by
    rcases Nat.lt_or_ge g0 w.heap.size with h | h
    · exact h
    · rw [Array.getElem?_eq_none h] at hg; cases hg
  have ho := own_empty hg
  rcases A with _ | ad
  · have h0 : n = 0 := by
      rcases Nat.eq_zero_or_pos n with h | h
      · exact h
      · obtain ⟨b, o, h, _⟩ := hr.2.2 h; cases h
    subst h0
    have : l = [] := List.eq_nil_of_length_eq_zero hr.1
    subst this
    refine ⟨g0, 0, w, ?_, Nat.le_refl _, ho, World.grownBy.refl _ _⟩
    simp [Builtin.append_, run_underlying Try.underlying26, sizeOf, typeInfo, hi0, Builtin.lenOf, Builtin.firstCells, storeCells]
  · obtain ⟨v', w', hrun, h1, h2, h3, h4⟩ := run_append_own_at (P := Try.prog) w g0 26 ty 5 i0 _ 1 1 Try.underlying26 hi0 hz0 hz1 hz2 rfl (by omega) (.slice (some ⟨g0, 0, none⟩) 0 0) 0 [] ho.2 ad n c (cB l) (by rw [cB_length, hr.1]; omega) (rd_cells hr) (cB_one l) (by unfold maxLen; omega) (by omega) (by omega)
    have hv : Own w' g0 v' l := ⟨hr.2.1, by simpa [hr.1] using h1⟩
    have hne : v' ≠ .slice none 0 0 := fun e => by have := (h3.1 e).1; cases this
    rcases h1.2 with ⟨h, _⟩ | ⟨g, cap, cur, rfl, hb, _⟩
    · exact absurd h hne
    · have e : 0 + n = n := by omega
      rw [e] at hrun hv
      exact ⟨g, cap, w', hrun, hb, hv, h2⟩

theorem wpList_fresh {w : World} {ops : Array Oper} {rest : List Oper} {o : Oper} {a : Act} {Q : Exit → Act → World → Prop} (hgd : o.guard = none) (s x : Operand)
    (ho : o.op = .call { callee := .builtin .append, args := #[s, x], argTypes := #[26, 26] }) (g0 : Nat) (hs : a.eval s = .slice (some ⟨g0, 0, none⟩) 0 0) (A : Option Addr) (n c : Nat) (hx : a.eval x = .slice A n c)
    (hg : w.heap[g0]? = some (.cells #[] 5 (0, 0))) (l : List Nat) (hr : Rd w A n l) (hn : n ≤ 1000000)
    (h : ∀ g cap w', g0 ≤ g → Own w' g0 (.slice (some ⟨g, 0, none⟩) n cap) l → w.grownBy w' (some g0) → wpList Try.prog ops Q rest (a.put o.dst (.slice (some ⟨g, 0, none⟩) n cap)) w') :
    wpList Try.prog ops Q (o :: rest) a w := by
  refine wpList_plain hgd fun K hK => ?_
  obtain ⟨g, cap, w', hrun, h1, h2, h3⟩ := run_fresh w g0 hg A n c l hr hn o.type
  unfold Oper.wp execOp
  simp only [ho, resolve, invoke, builtin, Sem.run_bind, Sem.run_pure, Result.andThen_ok, List.map_toArray, List.map_cons, List.map_nil, hs, hx, hrun]
  exact hK _ _ (h g cap w' h1 h2 h3)

theorem lt_of_block {w : World} {g : Nat} {o : Obj} (h : w.heap[g]? = some o) : g < w.heap.size := by
  rcases Nat.lt_or_ge g w.heap.size with hlt | hge
  · exact hlt
  · rw [Array.getElem?_eq_none hge] at h; cases h

theorem Own.asSlice1 {w : World} {base n c : Nat} {a : Option Addr} {l : List Nat} (h : Own w base (.slice a n c) l) (hl : l.length = n) : Rd w a n l := by
  obtain ⟨a', c', hv, hr, _⟩ := h.sl
  injection hv with h1 h2 h3
  subst h1
  rw [hl] at hr
  exact hr

/-- A row of one byte that the call itself has laid. -/
theorem own_one {w : World} {g x : Nat} (hx : x < 256) (hg : w.heap[g]? = some (.cells #[.int .u8 (x : Int)] 5 (0, 0))) : Own w g (.slice (some ⟨g, 0, none⟩) 1 1) [x] :=
  ⟨by simpa using hx, rfl, .inr ⟨g, 1, _, rfl, Nat.le_refl _, hg, Nat.le_refl _, by simp [maxLen], rfl, rfl⟩⟩

/-- A row of the call's own that holds something: what its value looks like. -/
theorem Own.held {w : World} {base : Nat} {v : Value} {l : List Nat} (h : Own w base v l) (hl : 0 < l.length) : ∃ g c, v = .slice (some ⟨g, 0, none⟩) l.length c := by
  obtain ⟨g, c, hv, _⟩ := h.2.form hl
  exact ⟨g, c, hv⟩

theorem run_append_rd (w : World) (base : Nat) (v : Value) (l0 : List Nat) (ho : Own w base v l0) (hbase : base ≤ w.heap.size) (A : Option Addr) (n c : Nat) (l : List Nat) (hr : Rd w A n l) (hn : l0.length + n ≤ 3000000) (ty : TypeId) :
    ∃ v' w', (Builtin.append_ #[26, 26] ty #[v, .slice A n c]).run Try.prog w = .ok v' w' ∧ Own w' base v' (l0 ++ l) ∧ Below base w w' := by
  obtain ⟨i0, hi0, hz0, hz1, hz2⟩ := info_parts info5
  rcases A with _ | ad
  · have h0 : n = 0 := by
      rcases Nat.eq_zero_or_pos n with h | h
      · exact h
      · obtain ⟨b, o, h, _⟩ := hr.2.2 h; cases h
    subst h0
    have : l = [] := List.eq_nil_of_length_eq_zero hr.1
    subst this
    refine ⟨v, w, ?_, by simpa using ho, Below.refl _ _⟩
    rcases ho.2.2 with ⟨rfl, _⟩ | ⟨g, cap, cur, rfl, _, _, hnc, _⟩
    · simp [Builtin.append_, run_underlying Try.underlying26, sizeOf, typeInfo, hi0, Builtin.lenOf, Builtin.firstCells]
    · simp [Builtin.append_, run_underlying Try.underlying26, sizeOf, typeInfo, hi0, Builtin.lenOf, Builtin.firstCells, hnc, storeCells]
  · obtain ⟨v', w', hrun, h1, h2, h3, h4⟩ := run_append_own_at (P := Try.prog) w base 26 ty 5 i0 _ 1 1 Try.underlying26 hi0 hz0 hz1 hz2 rfl (by omega) v l0.length (cB l0) ho.2 ad n c (cB l) (by rw [cB_length, hr.1]; omega) (rd_cells hr) (cB_one l) (by unfold maxLen; omega) (by omega) hbase
    refine ⟨v', w', hrun, ⟨?_, ?_⟩, (Below.refl _ _).grown h2 hbase (fun k hk => (ho.2.lt k hk).1)⟩
    · intro y hy
      simp only [List.mem_append] at hy
      rcases hy with hy | hy
      · exact ho.1 y hy
      · exact hr.2.1 y hy
    · rw [cB_append, List.length_append, hr.1]; exact h1

theorem wpList_append_rd {w : World} {ops : Array Oper} {rest : List Oper} {o : Oper} {a : Act} {Q : Exit → Act → World → Prop} (hgd : o.guard = none) (s x : Operand)
    (hop : o.op = .call { callee := .builtin .append, args := #[s, x], argTypes := #[26, 26] }) (v : Value) (hs : a.eval s = v) (A : Option Addr) (n c : Nat) (hx : a.eval x = .slice A n c)
    (base : Nat) (l0 : List Nat) (ho : Own w base v l0) (hbase : base ≤ w.heap.size) (l : List Nat) (hr : Rd w A n l) (hn : l0.length + n ≤ 3000000)
    (h : ∀ v' w', Own w' base v' (l0 ++ l) → Below base w w' → wpList Try.prog ops Q rest (a.put o.dst v') w') :
    wpList Try.prog ops Q (o :: rest) a w := by
  refine wpList_plain hgd fun K hK => ?_
  obtain ⟨v', w', hrun, h1, h2⟩ := run_append_rd w base v l0 ho hbase A n c l hr hn o.type
  unfold Oper.wp execOp
  simp only [hop, resolve, invoke, builtin, Sem.run_bind, Sem.run_pure, Result.andThen_ok, List.map_toArray, List.map_cons, List.map_nil, hs, hx, hrun]
  exact hK _ _ (h v' w' h1 h2)

/-- The cells of 'make([]byte, 0, c)'. -/
def mk0 (c : Nat) : Array Value := madeCells #[.int .u8 0] c

theorem run_mk0 (c : Nat) (hc : c ≤ 1000000) (w : World) : (Instr.makeSlice 26 (.int .i64 0) (.int .i64 (c : Int))).run Try.prog w = .ok (.slice (some ⟨w.heap.size, 0, none⟩) 0 c) (w.alloc (.cells (mk0 c) 5)) := by
  obtain ⟨i0, hi0, hz0, hz1, hz2⟩ := info_parts info5
  have h := run_make (P := Try.prog) w 26 5 i0 _ Try.underlying26 hi0 hz0 .i64 .i64 0 c (by omega) (by omega) (by rw [hz2]; omega) (by omega)
  simpa [hz1, mk0, Value.cells] using h

theorem own_mk0 (w : World) (c : Nat) (hc : c ≤ 1000000) : Own (w.alloc (.cells (mk0 c) 5)) w.heap.size (.slice (some ⟨w.heap.size, 0, none⟩) 0 c) [] :=
  ⟨by simp, World.ownsRow_made w (mk0 c) c (Nat.le_refl _) (by unfold maxLen; omega) (by unfold mk0; rw [size_madeCells]; omega)⟩

end Go.Proofs.Ytkfnjekeegebaaa
