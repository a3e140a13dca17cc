/- Two laws on a row of bytes of the call's own: a byte set in it; and an append to it that leaves the row itself readable. -/
import Derived.Test.YtaijldcfoaeogaaGreatGMemToRcEq
import Derived.ArgAppend
import Derived.Deep.DeepAppendRoom
import Derived.Laws.OwnMore
import Derived.Laws.CopyOwn
import Derived.Lib.SliceRun
import Derived.Lib.AppendZeros
import Derived.Deep.WholeRow
import Derived.StillTailTactics
import Derived.Maps.OwnSet
import Derived.Maps.RangeWalk
import Derived.Maps.Ext
import Derived.Deep.DeepCutAuto
namespace Go.Proofs.YtaijldcfoaeogaaGreat
open Go.RowKit
set_option maxRecDepth 100000

theorem Own.set {w : World} {base g n cap : Nat} {l : List Nat} (h : Own w base (.slice (some ⟨g, 0, none⟩) n cap) l) (hl : l.length = n) (j x : Nat) (hx : x < 256) :
    Own (w.setCell ⟨g, j, none⟩ (.int .u8 (x : Int))) base (.slice (some ⟨g, 0, none⟩) n cap) (l.set j x) := by
  obtain ⟨hb, h0, h1⟩ := h
  refine ⟨?_, ?_, ?_⟩
  · intro y hy
    rcases List.mem_or_eq_of_mem_set hy with hy | rfl
    · exact hb y hy
    · exact hx
  · simp [cB]
  · rcases h1 with ⟨hv, _⟩ | ⟨g', cap', cur, hv, hbg, hg, hnc, hcm, hcs, ht⟩
    · cases hv
    · injection hv with h2 h3 h4
      injection h2 with h2
      injection h2 with h2
      subst h2
      subst h4
      refine .inr ⟨g, cap, cur.setIfInBounds j (.int .u8 (x : Int)), by rw [List.length_set, hl], hbg, heap_setCell_same w g j cur 5 _ hg, by rw [List.length_set]; exact hnc, hcm, by rw [Array.size_setIfInBounds]; exact hcs, ?_⟩
      rw [List.length_set, Array.toList_setIfInBounds, List.take_set, ht]
      simp [cB, List.map_set]

/-- An append to a row of the call's own: the new value, and the row itself, still there. -/
theorem run_append_keep (w : World) (base g n cap : Nat) (l0 : List Nat) (ho : Own w base (.slice (some ⟨g, 0, none⟩) n cap) l0) (hn0 : l0.length = n) (hbase : base ≤ w.heap.size) (A : Option Addr) (m c : Nat) (l : List Nat) (hr : Rd w A m l) (hm : 0 < m) (hn : n + m ≤ 3000000) (ty : TypeId) :
    ∃ v' w', (Builtin.append_ #[31, 31] ty #[.slice (some ⟨g, 0, none⟩) n cap, .slice A m c]).run Tryz.prog w = .ok v' w' ∧ Own w' base v' (l0 ++ l) ∧ Rd w' (some ⟨g, 0, none⟩) n l0 ∧ w.grownBy w' (some g) := by
  obtain ⟨i0, hi0, hz0, hz1, hz2⟩ := info_parts info5
  obtain ⟨b, o, rfl, _⟩ := hr.2.2 hm
  have hby : ∀ y ∈ l0 ++ l, y < 256 := by
    intro y hy
    simp only [List.mem_append] at hy
    rcases hy with hy | hy
    · exact ho.1 y hy
    · exact hr.2.1 y hy
  by_cases hroom : n + m ≤ cap
  · obtain ⟨w', hrun, h1, h2⟩ := run_append_own_spare (P := Tryz.prog) w base 31 ty 5 i0 1 Tryz.underlying31 hi0 hz1 g n cap (cB l0) (by have := ho.2; rw [hn0] at this; exact this) ⟨b, o, none⟩ m c (cB l) (by rw [cB_length, hr.1]; omega) (rd_cells hr) (cB_one l) hroom
    have hO : Own w' base (.slice (some ⟨g, 0, none⟩) (n + m) cap) (l0 ++ l) := ⟨hby, by rw [cB_append, List.length_append, hn0, hr.1]; exact h1⟩
    refine ⟨_, w', hrun, hO, ?_, h2⟩
    have h3 := (hO.asSlice1 (by rw [List.length_append, hn0, hr.1])).first (k := n) (by omega)
    rw [List.take_left' hn0] at h3
    exact h3
  · have hR := ho.asSlice1 hn0
    obtain ⟨v', w', hrun, h1, h2⟩ := run_append_arg_grows (P := Tryz.prog) w 31 ty 5 i0 _ 1 1 Tryz.underlying31 hi0 hz0 hz1 hz2 rfl (by omega) ⟨g, 0, none⟩ n cap (cB l0) (by rw [cB_length, hn0]; omega) (rd_cells hR) ⟨b, o, none⟩ m c (cB l) (by rw [cB_length, hr.1]; omega) (rd_cells hr) (by omega) (by unfold maxLen; omega) (by omega)
    have hO : Own w' w.heap.size v' (l0 ++ l) := ⟨hby, by rw [cB_append, List.length_append, hn0, hr.1]; exact h1⟩
    have hB : Below w.heap.size w w' := (Below.refl _ _).grown h2 (Nat.le_refl _) (by simp)
    refine ⟨v', w', hrun, ⟨hO.1, hO.2.1, hO.2.2.imp id fun ⟨g, cap, cur, hv, hg, rest⟩ => ⟨g, cap, cur, hv, Nat.le_trans hbase hg, rest⟩⟩, hR.later hB, grownBy_of_below hB _⟩

theorem wpList_append_keep {w : World} {ops : Array Oper} {rest : List Oper} {o : Oper} {a : Act} {Q : Exit → Act → World → Prop} (hgd : o.guard = none) (s x : Operand)
    (hop : o.op = .call { callee := .builtin .append, args := #[s, x], argTypes := #[31, 31] }) (g n cap : Nat) (hs : a.eval s = .slice (some ⟨g, 0, none⟩) n cap) (A : Option Addr) (m c : Nat) (hx : a.eval x = .slice A m c)
    (base : Nat) (l0 : List Nat) (ho : Own w base (.slice (some ⟨g, 0, none⟩) n cap) l0) (hn0 : l0.length = n) (hbase : base ≤ w.heap.size) (l : List Nat) (hr : Rd w A m l) (hm : 0 < m) (hn : n + m ≤ 3000000)
    (h : ∀ v' w', Own w' base v' (l0 ++ l) → Rd w' (some ⟨g, 0, none⟩) n l0 → w.grownBy w' (some g) → wpList Tryz.prog ops Q rest (a.put o.dst v') w') :
    wpList Tryz.prog ops Q (o :: rest) a w := by
  refine wpList_plain hgd fun K hK => ?_
  obtain ⟨v', w', hrun, h1, h2, h3⟩ := run_append_keep w base g n cap l0 ho hn0 hbase A m c l hr hm hn o.type
  unfold Oper.wp execOp
  simp only [hop, resolve, invoke, builtin, Sem.run_bind, Sem.run_pure, Result.andThen_ok, List.map_toArray, List.map_cons, List.map_nil, hs, hx, hrun]
  exact hK _ _ (h v' w' h1 h2 h3)

end Go.Proofs.YtaijldcfoaeogaaGreat

/- Bytes laid over a row that is known whole (copy, clear), a row of zeros made, zeros appended to a row of the call's own; what else a world keeps. -/
namespace Go.Proofs.YtaijldcfoaeogaaGreat
open Go.RowKit
set_option maxRecDepth 100000
set_option linter.unusedSimpArgs false

/-- A block of bytes of the type T (a row, or an array's variable). -/
def rowObj (T : TypeId) (l : List Nat) : Obj := .cells (cB l).toArray T (0, 0)

theorem setRow_put {w : World} {g : Nat} {cs cs' : Array Value} {T : TypeId} (h : w.heap[g]? = some (.cells cs T (0, 0))) : w.setRow g cs' = put w g (.cells cs' T (0, 0)) := by
  have hlt : g < w.heap.size := (Array.getElem?_eq_some_iff.1 h).1
  have e : ∀ f : Obj → Obj, w.heap.modify g f = w.heap.setIfInBounds g (f (.cells cs T (0, 0))) := by
    intro f
    apply Array.ext_getElem?
    intro i
    rw [Array.getElem?_modify]
    by_cases hi : g = i
    · subst hi; rw [h]; simp [hlt]
    · rw [if_neg hi, Array.getElem?_setIfInBounds_ne hi]
  simp only [World.setRow, e, put]

theorem cB_splice (L : List Nat) (off : Nat) (x : List Nat) : splice (cB L) off (cB x) = cB (splice L off x) := by
  simp [splice, cB]

theorem splice_nil (L : List Nat) (off : Nat) : splice L off [] = L := by simp [splice]

theorem size1 : (Tryz.prog.info? 5).map (·.size) = some 1 := by kernel_rfl

/-- copy: as many bytes of S as there is room for are laid over L from 'off' on. -/
theorem run_copy_bytes (w : World) (ty : TypeId) (dp sp : Option Addr) (dLen dCap sLen sCap : Nat) (g off : Nat) (T : TypeId) (L S : List Nat) (hg : w.heap[g]? = some (rowObj T L)) (hr : Rd w sp sLen S)
    (hpos : 0 < min sLen dLen → dp = some ⟨g, off, none⟩) (hfit : off + min sLen dLen ≤ L.length) :
    (Builtin.copy_ #[31, 31] ty #[.slice dp dLen dCap, .slice sp sLen sCap]).run Tryz.prog w = .ok (goInt (min sLen dLen : Nat)) (put w g (rowObj T (splice L off (S.take (min sLen dLen))))) := by
  rcases Nat.eq_zero_or_pos (min sLen dLen) with h0 | h0
  · rw [h0, List.take_zero, splice_nil, put_self hg]
    exact run_copy_none w 31 31 ty 5 dp sp dLen dCap sLen sCap Tryz.underlying31 size1 h0
  · obtain rfl := hpos h0
    have hl : (cB (S.take (min sLen dLen))).length = min sLen dLen := by rw [cB_length, List.length_take, hr.1]; omega
    obtain ⟨b, o, rfl, hc⟩ := hr.2.2 (by omega)
    have h := run_copy_row (P := Tryz.prog) w 31 31 ty 5 g off dLen dCap ⟨b, o, none⟩ sLen sCap (cB L).toArray T (cB (S.take (min sLen dLen))) Tryz.underlying31 size1 hg hl (rd_cells (hr.first (Nat.min_le_left _ _))) (by rw [hl]; simpa [cB_length] using hfit) (cB_one _)
    rw [h, setRow_put hg, hl]
    refine congrArg (fun x => Result.ok (goInt ((min sLen dLen : Nat) : Int)) (put w g x)) ?_
    unfold rowObj
    rw [← cB_splice]
    simp [splice, hl]

theorem wpList_copy_bytes {w : World} {ops : Array Oper} {rest : List Oper} {o : Oper} {a : Act} {Q : Exit → Act → World → Prop} (hgd : o.guard = none) (d s : Operand)
    (ho : o.op = .call { callee := .builtin .copy, args := #[d, s], argTypes := #[31, 31] }) (dp sp : Option Addr) (dLen dCap sLen sCap : Nat) (hd : a.eval d = .slice dp dLen dCap) (hs : a.eval s = .slice sp sLen sCap)
    (g off : Nat) (T : TypeId) (L S : List Nat) (hg : w.heap[g]? = some (rowObj T L)) (hr : Rd w sp sLen S)
    (hpos : 0 < min sLen dLen → dp = some ⟨g, off, none⟩) (hfit : off + min sLen dLen ≤ L.length)
    (X : List Nat) (hX : splice L off (S.take (min sLen dLen)) = X) (h : ∀ w', Hid (w' = put w g (rowObj T X)) → wpList Tryz.prog ops Q rest (a.put o.dst (goInt (min sLen dLen : Nat))) w') : wpList Tryz.prog ops Q (o :: rest) a w := by
  refine wpList_plain hgd fun K hK => ?_
  have hrun := run_copy_bytes w o.type dp sp dLen dCap sLen sCap g off T L S hg hr hpos hfit
  unfold Oper.wp execOp
  simp only [ho, resolve, invoke, builtin, Sem.run_bind, Sem.run_pure, Result.andThen_ok, List.map_toArray, List.map_cons, List.map_nil, hd, hs, hrun]
  exact hK _ _ (h _ (Lib.hid (by rw [hX])))

theorem zeroCells_list (m : Nat) : (Builtin.zeroCells #[Value.int .u8 0] m).toList = cB (List.replicate m 0) := by
  simp only [Builtin.zeroCells, cB]
  apply List.ext_getElem
  · simp
  · intro i h1 h2
    simp [Nat.mod_one]

theorem byte_zeros (m : Nat) : ∀ x ∈ List.replicate m 0, x < 256 := by
  intro x hx
  simp at hx
  omega

/-- A row made: 'make([]byte, n)'. -/
theorem run_mkN (n : Nat) (hn : n ≤ 100000000) (w : World) : (Instr.makeSlice 31 (.int .i64 (n : Int)) (.int .i64 (n : Int))).run Tryz.prog w = .ok (.slice (some ⟨w.heap.size, 0, none⟩) n n) (w.alloc (rowObj 5 (List.replicate n 0))) := by
  obtain ⟨i0, hi0, hz0, hz1, hz2⟩ := info_parts info5
  have h := run_make (P := Tryz.prog) w 31 5 i0 _ Tryz.underlying31 hi0 hz0 .i64 .i64 n n (by omega) (by omega) (by rw [hz2]; omega) (by omega)
  have e : madeCells #[Value.int .u8 0] n = (cB (List.replicate n 0)).toArray := by
    apply Array.ext'
    rw [toList_madeCells_one]
    simp [cB]
  rw [hz1] at h
  simpa [rowObj, e, Value.cells] using h

/-- clear, over a row that is known whole. -/
theorem run_clear_row (w : World) (ty : TypeId) (g : Nat) (L : List Nat) (hg : w.heap[g]? = some (rowObj 5 L)) (n c : Nat) (hn : L.length = n) (h0 : 0 < n) :
    (Builtin.clear_ #[31] ty #[.slice (some ⟨g, 0, none⟩) n c]).run Tryz.prog w = .ok (.tuple #[]) (put w g (rowObj 5 (List.replicate n 0))) := by
  obtain ⟨i0, hi0, hz0, hz1, hz2⟩ := info_parts info5
  have hst := run_storeCells_at Tryz.prog g 0 5 (List.replicate n (Value.int .u8 0)) 0 (cB L).toArray w hg (by simp [cB_length, hn]) (by intro u hu; rw [List.eq_of_mem_replicate hu]; rfl)
  have hzc : (Builtin.zeroCells #[Value.int .u8 0] n).toList = List.replicate n (Value.int .u8 0) := by rw [zeroCells_list]; simp [cB]
  have hd : (cB L).drop n = [] := List.drop_eq_nil_of_le (by rw [cB_length]; omega)
  rw [setRow_put hg] at hst
  simp only [Nat.add_zero, Nat.zero_add, List.take_zero, List.nil_append, List.length_replicate, List.toList_toArray, hd, List.append_nil] at hst
  have e : (rowObj 5 (List.replicate n 0)) = .cells (List.replicate n (Value.int .u8 0)).toArray 5 (0, 0) := by simp [rowObj, cB]
  rw [e]
  obtain ⟨m, rfl⟩ : ∃ m, n = m + 1 := ⟨n - 1, by omega⟩
  simp [Builtin.clear_, run_underlying Tryz.underlying31, zeroValue, typeInfo, hi0, hz0, Value.cells, hzc, hst]

/-- Zeros appended to a row of the call's own. -/
theorem run_append_zeros (w : World) (base g n cap : Nat) (l0 : List Nat) (ho : Own w base (.slice (some ⟨g, 0, none⟩) n cap) l0) (hn0 : l0.length = n) (hbase : base ≤ w.heap.size) (m : Nat) (hn : n + m ≤ 3000000) (ty : TypeId) :
    ∃ v' w', (Builtin.append_ #[31, 3] ty #[.slice (some ⟨g, 0, none⟩) n cap, .int .i64 (m : Int)]).run Tryz.prog w = .ok v' w' ∧ Own w' base v' (l0 ++ List.replicate m 0) ∧ Below base w w' := by
  obtain ⟨i0, hi0, hz0, hz1, hz2⟩ := info_parts info5
  have hby : ∀ y ∈ l0 ++ List.replicate m 0, y < 256 := by
    intro y hy
    simp only [List.mem_append] at hy
    rcases hy with hy | hy
    · exact ho.1 y hy
    · exact byte_zeros m y hy
  have hw : IntKind.i64.wrap (m : Int) = m := by rw [IntKind.wrap_i64]; omega
  have h48i : ¬ (281474976710656 < (m : Int)) := by omega
  have hneg : ¬ ((m : Int) < 0) := by omega
  rcases Nat.eq_zero_or_pos m with h0 | h0
  · subst h0
    refine ⟨.slice (some ⟨g, 0, none⟩) n cap, w, ?_, by simpa using ho, Below.refl _ _⟩
    have hnc : n ≤ cap := by
      obtain ⟨a, c, hv, _, hc⟩ := ho.sl
      injection hv with _ h2 h3
      omega
    simp [Builtin.append_, run_underlying Tryz.underlying31, run_underlying Tryz.underlying3, sizeOf, typeInfo, zeroValue, hi0, hz0, hz1, hz2, asInt, asIntOf, IntKind.wrap_i64, hnc, storeCells]
  · have hns : ¬ m = 0 := by omega
    have hR := ho.asSlice1 hn0
    rcases ho.2.2 with ⟨hv, _⟩ | ⟨g', cap', cur, hv, hbg, hg, hnc, hcm, hcs, htake⟩
    · cases hv
    · injection hv with e1 e2 e3
      injection e1 with e1
      injection e1 with e1
      subst e1
      subst e3
      clear e2
      by_cases hroom : n + m ≤ cap
      · have hst := run_storeCells_at Tryz.prog g n 5 (cB (List.replicate m 0)) 0 cur w hg (by rw [cB_length, List.length_replicate, hcs]; omega) (cB_one _)
        simp only [Nat.add_zero] at hst
        refine ⟨.slice (some ⟨g, 0, none⟩) (n + m) cap, w.setRow g (cur.toList.take n ++ cB (List.replicate m 0) ++ cur.toList.drop (n + (cB (List.replicate m 0)).length)).toArray, ?_, ⟨hby, ?_⟩, ?_⟩
        · simp [Builtin.append_, run_underlying Tryz.underlying31, run_underlying Tryz.underlying3, sizeOf, typeInfo, zeroValue, hi0, hz0, hz1, hz2, asInt, asIntOf, hw, hneg, hns, h48i, hroom, Value.cells, zeroCells_list, Addr.add_lit, hst]
        · refine ⟨by simp [cB_length], .inr ⟨g, cap, _, by simp [hn0], hbg, setRow_heap w g cur _ 5 _ hg, by simp [hn0]; omega, hcm, ?_, ?_⟩⟩
          · simp only [List.size_toArray, List.length_append, List.length_take, List.length_drop, Array.length_toList, cB_length, List.length_replicate]
            omega
          · rw [hn0] at htake
            have e1 : cur.toList.take n = cB l0 := by simpa using htake
            simp only [List.length_append, List.length_replicate, hn0, cB_append, e1]
            have e2 : (n + m) * 1 = (cB l0 ++ cB (List.replicate m 0)).length := by rw [List.length_append, cB_length, cB_length, List.length_replicate, hn0]; omega
            rw [e2]
            exact List.take_left
        · exact ⟨rfl, rfl, rfl, by simp, fun k hk => setRow_other w g k _ (by omega)⟩
      · have hge := grownCap_ge w (n + m) cap 5
        have hcm2 : grownCap w (n + m) cap 5 ≤ maxLen := grownCap_le_maxLen w (n + m) cap 5 (by unfold maxLen; omega)
        have hfo := run_firstCells_some (P := Tryz.prog) w.drew 1 n ⟨g, 0, none⟩ n cap (cB l0) (by rw [cB_length, hn0]; omega) (by simpa using rd_cells hR)
        have h63' : ¬ (9223372036854775807 < ((n : Int) + (m : Int))) := by omega
        have h48' : ¬ (281474976710656 < Builtin.nextslicecap (n + m) cap) := by
          have := growslice_fits (bytes := 1) (show cap < n + m by omega) (by omega)
          omega
        refine ⟨.slice (some ⟨w.heap.size, 0, none⟩) (n + m) (grownCap w (n + m) cap 5), w.drew.alloc (.cells ((cB l0).toArray ++ Builtin.zeroCells #[Value.int .u8 0] m ++ Builtin.zeroCells #[Value.int .u8 0] (grownCap w (n + m) cap 5 - (n + m))) 5), ?_, ⟨hby, ?_⟩, ?_⟩
        · simp [Builtin.append_, run_underlying Tryz.underlying31, run_underlying Tryz.underlying3, sizeOf, typeInfo, zeroValue, hi0, hz0, hz1, hz2, asInt, asIntOf, hw, hneg, hns, h48i, hroom, h63', h48', Question.forced, hfo, newRow, grownCap, Value.cells]
        · refine ⟨by simp [cB_length], .inr ⟨w.heap.size, _, _, by simp [hn0], hbase, heap_alloc_new w.drew _, by simp [hn0]; omega, hcm2, ?_, ?_⟩⟩
          · simp only [Array.size_append, List.size_toArray, size_zeroCells, cB_length, hn0, Array.size_singleton]
            simp
            omega
          · simp only [Array.toList_append, zeroCells_list, List.length_append, List.length_replicate, hn0, cB_append, List.append_assoc, List.toList_toArray]
            rw [← List.append_assoc]
            have e2 : (n + m) * 1 = (cB l0 ++ cB (List.replicate m 0)).length := by rw [List.length_append, cB_length, cB_length, List.length_replicate, hn0]; omega
            rw [e2]
            exact List.take_left
        · exact ⟨rfl, rfl, rfl, by simp, fun k hk => heap_alloc_old w.drew _ (show k < w.heap.size by omega)⟩

theorem wpList_append_zeros {w : World} {ops : Array Oper} {rest : List Oper} {o : Oper} {a : Act} {Q : Exit → Act → World → Prop} (hgd : o.guard = none) (s x : Operand)
    (hop : o.op = .call { callee := .builtin .append, args := #[s, x], argTypes := #[31, 3] }) (g n cap : Nat) (hs : a.eval s = .slice (some ⟨g, 0, none⟩) n cap) (m : Nat) (hx : a.eval x = .int .i64 (m : Int))
    (base : Nat) (l0 : List Nat) (ho : Own w base (.slice (some ⟨g, 0, none⟩) n cap) l0) (hn0 : l0.length = n) (hbase : base ≤ w.heap.size) (hn : n + m ≤ 3000000)
    (h : ∀ v' w', Own w' base v' (l0 ++ List.replicate m 0) → Below base w w' → wpList Tryz.prog ops Q rest (a.put o.dst v') w') :
    wpList Tryz.prog ops Q (o :: rest) a w := by
  refine wpList_plain hgd fun K hK => ?_
  obtain ⟨v', w', hrun, h1, h2⟩ := run_append_zeros w base g n cap l0 ho hn0 hbase m hn o.type
  unfold Oper.wp execOp
  simp only [hop, resolve, invoke, builtin, Sem.run_bind, Sem.run_pure, Result.andThen_ok, List.map_toArray, List.map_cons, List.map_nil, hs, hx, hrun]
  exact hK _ _ (h v' w' h1 h2)

end Go.Proofs.YtaijldcfoaeogaaGreat

/- Arrays as values: 32 bytes, 256 strings; loaded, stored, boxed, sliced whole; over any world. -/
namespace Go.Proofs.YtaijldcfoaeogaaGreat
open Go.RowKit
set_option maxRecDepth 100000
set_option linter.unusedSimpArgs false

theorem wpList_val {P : Program} {ops : Array Oper} {Q : Exit → Act → World → Prop} {a : Act} {w : World} {rest : List Oper} {o : Oper} (hw : Region.wanted o (yielded ops a.tmps) = true) (v : Value) (w' : World)
    (hrun : (execOp a.eval o).run P w = .ok (.value v) w') (h : wpList P ops Q rest (a.put o.dst v) w') : wpList P ops Q (o :: rest) a w :=
  wpList_step fun K hK => by
    simp only [hw, if_true]
    unfold Oper.wp
    rw [hrun, Oper.upon_value]
    exact hK _ _ h

theorem wpList_skp {P : Program} {ops : Array Oper} {Q : Exit → Act → World → Prop} {a : Act} {w : World} {rest : List Oper} {o : Oper} (hw : Region.wanted o (yielded ops a.tmps) = true) (w' : World)
    (hrun : (execOp a.eval o).run P w = .ok .skip w') (h : wpList P ops Q rest (a.put o.dst undef) w') : wpList P ops Q (o :: rest) a w :=
  wpList_step fun K hK => by
    simp only [hw, if_true]
    unfold Oper.wp
    rw [hrun, Oper.upon_skip]
    exact hK _ _ h

theorem wpStill_val {P : Program} {ops : Array Oper} {Q : Act → Prop} {a : Act} {w : World} {rest : List Oper} {o : Oper} (hw : Region.wanted o (yielded ops a.tmps) = true) (v : Value)
    (hrun : (execOp a.eval o).run P w = .ok (.value v) w) (h : wpStill P ops w Q rest (a.put o.dst v)) : wpStill P ops w Q (o :: rest) a :=
  wpStill_step fun K hK => by
    simp only [hw, if_true]
    unfold Oper.still
    rw [hrun, Oper.stillUpon_value]
    exact hK _ h

/-- The strings of an image, as the document has it. -/
def cS (F : List (List Nat)) : List Value := F.map fun l => Value.string (strB l)

theorem cS_length (F : List (List Nat)) : (cS F).length = F.length := by simp [cS]

theorem cS_one (F : List (List Nat)) : ∀ u ∈ cS F, u.oneCell' = true := by
  intro u hu
  simp only [cS, List.mem_map] at hu
  obtain ⟨x, _, rfl⟩ := hu
  rfl

/-- A block that holds an image, as the document has it. -/
def arrObj (F : List (List Nat)) : Obj := .cells (cS F).toArray 28 (0, 0)

theorem size_blk : (Tryz.prog.info? 105).map (·.size) = some 32 := by kernel_rfl
theorem size_img : (Tryz.prog.info? 28).map (·.size) = some 256 := by kernel_rfl

theorem run_load_blk {w : World} {g : Nat} {T : TypeId} {l : List Nat} {fr : Nat × Nat} (hg : w.heap[g]? = some (.cells (cB l).toArray T fr)) (hl : l.length = 32) :
    (Instr.loadAt 105 (.pointer (some ⟨g, 0, none⟩))).run Tryz.prog w = .ok (.agg (cB l).toArray) w := by
  simp only [Instr.loadAt, Instr.sureAddr, Sem.run_bind, Sem.run_pure, Result.andThen]
  exact run_loadVar_row w g T 105 _ fr _ hg Tryz.underlying105 rfl (by rw [size_blk]; simp [cB_length, hl])

theorem run_load_img {w : World} {g : Nat} {F : List (List Nat)} (hg : w.heap[g]? = some (arrObj F)) (hl : F.length = 256) :
    (Instr.loadAt 28 (.pointer (some ⟨g, 0, none⟩))).run Tryz.prog w = .ok (.agg (cS F).toArray) w := by
  simp only [Instr.loadAt, Instr.sureAddr, Sem.run_bind, Sem.run_pure, Result.andThen]
  exact run_loadVar_row w g _ 28 _ _ _ hg Tryz.underlying28 rfl (by rw [size_img]; simp [cS_length, hl])

theorem run_store_blk {w : World} {g : Nat} {T : TypeId} {l l' : List Nat} (hg : w.heap[g]? = some (rowObj T l)) (hl : l.length = 32) (hl' : l'.length = 32) :
    (Instr.storeAt 105 (.pointer (some ⟨g, 0, none⟩)) (.agg (cB l').toArray)).run Tryz.prog w = .ok () (put w g (rowObj T l')) := by
  simp only [Instr.storeAt, Instr.sureAddr, Sem.run_bind, Sem.run_pure, Result.andThen]
  rw [run_storeVar_row w g T 105 _ (cB l').toArray hg (by rw [size_blk]; simp [cB_length, hl']) (by simp [cB_length, hl, hl']) (by
    simp only [List.all_toArray, List.all_eq_true]; exact cB_one l'), setRow_put hg]
  rfl

theorem run_store_img {w : World} {g : Nat} {F F' : List (List Nat)} (hg : w.heap[g]? = some (arrObj F)) (hl : F.length = 256) (hl' : F'.length = 256) :
    (Instr.storeAt 28 (.pointer (some ⟨g, 0, none⟩)) (.agg (cS F').toArray)).run Tryz.prog w = .ok () (put w g (arrObj F')) := by
  simp only [Instr.storeAt, Instr.sureAddr, Sem.run_bind, Sem.run_pure, Result.andThen]
  rw [run_storeVar_row w g _ 28 _ (cS F').toArray hg (by rw [size_img]; simp [cS_length, hl']) (by simp [cS_length, hl, hl']) (by
    simp only [List.all_toArray, List.all_eq_true]; exact cS_one F'), setRow_put hg]
  rfl

/-- A whole array is loaded: at the operation. -/
theorem wpList_load_blk {w : World} {ops : Array Oper} {rest : List Oper} {o : Oper} {a : Act} {Q : Exit → Act → World → Prop} (hw : Region.wanted o (yielded ops a.tmps) = true) (p : Operand) (hop : o.op = Op.load 105 p)
    (g : Nat) (T : TypeId) (l : List Nat) (hp : a.eval p = .pointer (some ⟨g, 0, none⟩)) (hg : w.heap[g]? = some (rowObj T l)) (hl : l.length = 32)
    (h : wpList Tryz.prog ops Q rest (a.put o.dst (.agg (cB l).toArray)) w) : wpList Tryz.prog ops Q (o :: rest) a w :=
  wpList_val hw _ w (by simp only [execOp, hop, hp, Sem.run_bind, run_load_blk hg hl, Result.andThen, Sem.run_pure]) h

theorem wpStill_load_blk {w : World} {ops : Array Oper} {rest : List Oper} {o : Oper} {a : Act} {Q : Act → Prop} (hw : Region.wanted o (yielded ops a.tmps) = true) (p : Operand) (hop : o.op = Op.load 105 p)
    (g : Nat) (T : TypeId) (l : List Nat) (hp : a.eval p = .pointer (some ⟨g, 0, none⟩)) (hg : w.heap[g]? = some (rowObj T l)) (hl : l.length = 32)
    (h : wpStill Tryz.prog ops w Q rest (a.put o.dst (.agg (cB l).toArray))) : wpStill Tryz.prog ops w Q (o :: rest) a :=
  wpStill_val hw _ (by simp only [execOp, hop, hp, Sem.run_bind, run_load_blk hg hl, Result.andThen, Sem.run_pure]) h

theorem wpList_load_img {w : World} {ops : Array Oper} {rest : List Oper} {o : Oper} {a : Act} {Q : Exit → Act → World → Prop} (hw : Region.wanted o (yielded ops a.tmps) = true) (p : Operand) (hop : o.op = Op.load 28 p)
    (g : Nat) (F : List (List Nat)) (hp : a.eval p = .pointer (some ⟨g, 0, none⟩)) (hg : w.heap[g]? = some (arrObj F)) (hl : F.length = 256)
    (h : wpList Tryz.prog ops Q rest (a.put o.dst (.agg (cS F).toArray)) w) : wpList Tryz.prog ops Q (o :: rest) a w :=
  wpList_val hw _ w (by simp only [execOp, hop, hp, Sem.run_bind, run_load_img hg hl, Result.andThen, Sem.run_pure]) h

theorem wpStill_load_img {w : World} {ops : Array Oper} {rest : List Oper} {o : Oper} {a : Act} {Q : Act → Prop} (hw : Region.wanted o (yielded ops a.tmps) = true) (p : Operand) (hop : o.op = Op.load 28 p)
    (g : Nat) (F : List (List Nat)) (hp : a.eval p = .pointer (some ⟨g, 0, none⟩)) (hg : w.heap[g]? = some (arrObj F)) (hl : F.length = 256)
    (h : wpStill Tryz.prog ops w Q rest (a.put o.dst (.agg (cS F).toArray))) : wpStill Tryz.prog ops w Q (o :: rest) a :=
  wpStill_val hw _ (by simp only [execOp, hop, hp, Sem.run_bind, run_load_img hg hl, Result.andThen, Sem.run_pure]) h

theorem wpList_store_blk {w : World} {ops : Array Oper} {rest : List Oper} {o : Oper} {a : Act} {Q : Exit → Act → World → Prop} (hw : Region.wanted o (yielded ops a.tmps) = true) (p v : Operand) (hop : o.op = Op.store 105 p v)
    (g : Nat) (T : TypeId) (l l' : List Nat) (hp : a.eval p = .pointer (some ⟨g, 0, none⟩)) (hv : a.eval v = .agg (cB l').toArray) (hg : w.heap[g]? = some (rowObj T l)) (hl : l.length = 32) (hl' : l'.length = 32)
    (h : ∀ w', Hid (w' = put w g (rowObj T l')) → wpList Tryz.prog ops Q rest (a.put o.dst undef) w') : wpList Tryz.prog ops Q (o :: rest) a w :=
  wpList_skp hw _ (by simp only [execOp, hop, hp, hv, Sem.run_bind, run_store_blk hg hl hl', Result.andThen, Sem.run_pure]) (h _ (Lib.hid rfl))

theorem wpList_store_img {w : World} {ops : Array Oper} {rest : List Oper} {o : Oper} {a : Act} {Q : Exit → Act → World → Prop} (hw : Region.wanted o (yielded ops a.tmps) = true) (p v : Operand) (hop : o.op = Op.store 28 p v)
    (g : Nat) (F F' : List (List Nat)) (hp : a.eval p = .pointer (some ⟨g, 0, none⟩)) (hv : a.eval v = .agg (cS F').toArray) (hg : w.heap[g]? = some (arrObj F)) (hl : F.length = 256) (hl' : F'.length = 256)
    (h : ∀ w', Hid (w' = put w g (arrObj F')) → wpList Tryz.prog ops Q rest (a.put o.dst undef) w') : wpList Tryz.prog ops Q (o :: rest) a w :=
  wpList_skp hw _ (by simp only [execOp, hop, hp, hv, Sem.run_bind, run_store_img hg hl hl', Result.andThen, Sem.run_pure]) (h _ (Lib.hid rfl))

theorem results_cell1 {fn : Func} {p : Tmp} {ty : TypeId} (h : fn.results = #[.cell p ty]) (tmps : Array Value) (P : Program) (w : World) :
    (results fn tmps).run P w = ((asAddr (tmps.getD p undef)).run P w).andThen fun a w₁ => (loadVar ty a).run P w₁ := by
  simp only [results, h]
  simp [Sem.run_bind, Result.andThen]

/-- A result that lies in a cell: the document's image. -/
theorem ret_img {fn : Func} {p g : Nat} {F : List (List Nat)} {w : World} {tmps : Array Value} (hr : fn.results = #[.cell p 28]) (ht : tmps.getD p undef = .pointer (some ⟨g, 0, none⟩)) (hg : w.heap[g]? = some (arrObj F)) (hF : F.length = 256) :
    (results fn tmps).run Tryz.prog w = .ok (.agg (cS F).toArray) w := by
  rw [results_cell1 hr, ht]
  simp only [asAddr, Sem.run_pure, Result.andThen]
  rw [run_loadVar_row w g _ 28 _ _ _ hg Tryz.underlying28 rfl (by rw [size_img]; simp [cS_length, hF])]

theorem results_tmp_cell {fn : Func} {p u : Tmp} {ty : TypeId} (h : fn.results = #[.tmp u, .cell p ty]) (tmps : Array Value) (P : Program) (w : World) :
    (results fn tmps).run P w = ((asAddr (tmps.getD p undef)).run P w).andThen fun a w₁ => ((loadVar ty a).run P w₁).andThen fun v w₂ => .ok (.tuple #[tmps.getD u undef, v]) w₂ := by
  simp only [results, h]
  simp [Sem.run_bind, Result.andThen]

theorem results_cell_tmp' {fn : Func} {p u : Tmp} {ty : TypeId} (h : fn.results = #[.cell p ty, .tmp u]) (tmps : Array Value) (P : Program) (w : World) :
    (results fn tmps).run P w = ((asAddr (tmps.getD p undef)).run P w).andThen fun a w₁ => ((loadVar ty a).run P w₁).andThen fun v w₂ => .ok (.tuple #[v, tmps.getD u undef]) w₂ := by
  simp only [results, h]
  simp [Sem.run_bind, Result.andThen]

theorem ret_tmp_img {fn : Func} {p g u : Nat} {F : List (List Nat)} {w : World} {tmps : Array Value} (hr : fn.results = #[.tmp u, .cell p 28]) (ht : tmps.getD p undef = .pointer (some ⟨g, 0, none⟩)) (hg : w.heap[g]? = some (arrObj F)) (hF : F.length = 256) :
    (results fn tmps).run Tryz.prog w = .ok (.tuple #[tmps.getD u undef, .agg (cS F).toArray]) w := by
  rw [results_tmp_cell hr, ht]
  simp only [asAddr, Sem.run_pure, Result.andThen]
  rw [run_loadVar_row w g _ 28 _ _ _ hg Tryz.underlying28 rfl (by rw [size_img]; simp [cS_length, hF])]

theorem ret_img_tmp {fn : Func} {p g u : Nat} {F : List (List Nat)} {w : World} {tmps : Array Value} (hr : fn.results = #[.cell p 28, .tmp u]) (ht : tmps.getD p undef = .pointer (some ⟨g, 0, none⟩)) (hg : w.heap[g]? = some (arrObj F)) (hF : F.length = 256) :
    (results fn tmps).run Tryz.prog w = .ok (.tuple #[.agg (cS F).toArray, tmps.getD u undef]) w := by
  rw [results_cell_tmp' hr, ht]
  simp only [asAddr, Sem.run_pure, Result.andThen]
  rw [run_loadVar_row w g _ 28 _ _ _ hg Tryz.underlying28 rfl (by rw [size_img]; simp [cS_length, hF])]

/-- A variable of the document's images. -/
theorem zero_img : Tryz.zeroCells28 = (cS (List.replicate 256 [])).toArray := by kernel_rfl

theorem zero_blk (w : World) : (zeroValue 105).run Tryz.prog w = .ok (.agg (cB (List.replicate 32 0)).toArray) w := by kernel_rfl

end Go.Proofs.YtaijldcfoaeogaaGreat

/- A map[int]block in memory, as 256 blocks or holes; over any world. -/
namespace Go.Proofs.YtaijldcfoaeogaaGreat
open Go.RowKit
set_option maxRecDepth 100000
set_option linter.unusedSimpArgs false

theorem keyedInt : Maps.Keyed Tryz.prog 3 := Maps.int_keyed Tryz.underlying3

theorem cB_inj {l m : List Nat} (h : cB l = cB m) : l = m := by
  induction l generalizing m with
  | nil => cases m with
    | nil => rfl
    | cons _ _ => simp [cB] at h
  | cons x r ih => cases m with
    | nil => simp [cB] at h
    | cons y s =>
      simp only [cB, List.map_cons, List.cons.injEq, Value.int.injEq, true_and] at h
      rw [ih h.2, Int.ofNat.inj h.1]

/-- 32 bytes. -/
def okB (l : List Nat) : Prop := l.length = 32 ∧ ∀ x ∈ l, x < 256

open Classical in
/-- How a block's value reads. -/
noncomputable def blkR (v : Value) : Option (DataW (List Nat) × List MemPlace) :=
  if h : ∃ l, v = .agg (cB l).toArray ∧ okB l then some (.held h.choose, []) else none

theorem blkR_mk {l : List Nat} (h : okB l) : blkR (.agg (cB l).toArray) = some (.held l, []) := by
  have hx : ∃ m, Value.agg (cB l).toArray = .agg (cB m).toArray ∧ okB m := ⟨l, rfl, h⟩
  unfold blkR
  rw [dif_pos hx]
  have h1 := hx.choose_spec.1
  injection h1 with h1
  injection h1 with h1
  rw [← cB_inj h1]

theorem blkR_inv {v : Value} {z : DataW (List Nat) × List MemPlace} (h : blkR v = some z) : ∃ l, v = .agg (cB l).toArray ∧ okB l ∧ z = (.held l, []) := by
  unfold blkR at h
  split at h
  · rename_i hx
    obtain ⟨l, rfl, hl⟩ := hx
    have := blkR_mk hl
    unfold blkR at this
    rw [dif_pos ⟨l, rfl, hl⟩] at this
    rw [this] at h
    injection h with h
    exact ⟨l, rfl, hl, h.symm⟩
  · cases h

/-- The block at a number; no byte: a hole. -/
def fAt (F : List (List Nat)) (i : Int) : List Nat := if 0 ≤ i then F.getD i.toNat [] else []

theorem fAt_nat (F : List (List Nat)) (j : Nat) : fAt F (j : Int) = F.getD j [] := by simp [fAt]

theorem fAt_out {F : List (List Nat)} {i : Int} (hF : F.length = 256) (h : i < 0 ∨ 256 ≤ i) : fAt F i = [] := by
  unfold fAt
  split
  · rw [List.getD, List.getElem?_eq_none (by omega)]; rfl
  · rfl

theorem fAt_set (F : List (List Nat)) (j : Nat) (l : List Nat) (hj : j < F.length) (i : Int) : fAt (F.set j l) i = if i = (j : Int) then l else fAt F i := by
  unfold fAt
  by_cases h0 : 0 ≤ i
  · obtain ⟨k, rfl⟩ : ∃ k : Nat, i = (k : Int) := ⟨i.toNat, by omega⟩
    simp only [Int.toNat_natCast, h0, if_true, List.getD, List.getElem?_set]
    by_cases h : k = j
    · subst h; simp [hj]
    · rw [if_neg (by omega), if_neg (by omega)]
  · rw [if_neg h0, if_neg h0, if_neg (by omega)]

/-- 256 blocks, or holes. -/
def okF (F : List (List Nat)) : Prop := F.length = 256 ∧ ∀ l ∈ F, l = [] ∨ okB l

theorem okF.at_ {F : List (List Nat)} (h : okF F) (i : Int) : fAt F i = [] ∨ okB (fAt F i) := by
  unfold fAt
  split
  · by_cases hi : i.toNat < F.length
    · have : F.getD i.toNat [] ∈ F := by simp [List.getD, hi]
      exact h.2 _ this
    · left; rw [List.getD, List.getElem?_eq_none (by omega)]; rfl
  · left; rfl

theorem okF.set {F : List (List Nat)} (h : okF F) (j : Nat) {l : List Nat} (hl : l = [] ∨ okB l) : okF (F.set j l) := by
  refine ⟨by simp [h.1], fun m hm => ?_⟩
  rcases List.mem_or_eq_of_mem_set hm with hm | rfl
  · exact h.2 m hm
  · exact hl

def holes : List (List Nat) := List.replicate 256 []

theorem holes_ok : okF holes := ⟨List.length_replicate, fun _ hl => .inl (List.eq_of_mem_replicate hl)⟩

theorem fAt_holes (i : Int) : fAt holes i = [] := by
  unfold fAt holes
  split
  · simp only [List.getD, List.getElem?_replicate]; split <;> rfl
  · rfl

theorem F_ext {F G : List (List Nat)} (hF : F.length = 256) (hG : G.length = 256) (h : ∀ i : Int, fAt F i = fAt G i) : F = G := by
  apply List.ext_getElem?
  intro k
  by_cases hk : k < 256
  · have := h (k : Int)
    rw [fAt_nat, fAt_nat] at this
    simp only [List.getD] at this
    rw [List.getElem?_eq_getElem (by omega), List.getElem?_eq_getElem (by omega)] at this ⊢
    simpa using this
  · rw [List.getElem?_eq_none (by omega), List.getElem?_eq_none (by omega)]

/-- The datum D has just the blocks of F. -/
def Agr (D : DataW (List Nat)) (F : List (List Nat)) : Prop :=
  ∀ i : Int, Maps.has D (.int .i64 i) = decide (fAt F i ≠ []) ∧ (fAt F i ≠ [] → ∀ z, D.atKey (.int .i64 i) z = .held (fAt F i))

/-- Block b is a map of at most n entries: the blocks of F. -/
def Mp (w : World) (b n : Nat) (F : List (List Nat)) : Prop := ∃ D, w.ownsMap Tryz.prog 3 blkR b n D ∧ Agr D F

theorem Mp.lt {w : World} {b n : Nat} {F : List (List Nat)} (h : Mp w b n F) : b < w.heap.size := h.elim fun _ h => h.1.lt

theorem Mp.mono {w : World} {b n n' : Nat} {F : List (List Nat)} (h : Mp w b n F) (hn : n ≤ n') : Mp w b n' F := h.elim fun D h => ⟨D, h.1.mono hn, h.2⟩

theorem Mp.kept {w w' : World} {b n : Nat} {F : List (List Nat)} (h : Mp w b n F) (he : w'.heap[b]? = w.heap[b]?) : Mp w' b n F := by
  obtain ⟨D, ⟨es, clock, hb, r⟩, hA⟩ := h
  exact ⟨D, ⟨es, clock, he.trans hb, r⟩, hA⟩

theorem Mp.later {w w' : World} {b n : Nat} {F : List (List Nat)} (h : Mp w b n F) (hb : Below w.heap.size w w') : Mp w' b n F := h.kept (hb.block b h.lt)

theorem Mp.save {w w' : World} {X : List Nat} {b n : Nat} {F : List (List Nat)} (h : Mp w b n F) (hs : Save X w w') (hX : b ∉ X) : Mp w' b n F := h.kept (hs.block b h.lt hX)

theorem Mp.map {w : World} {b n : Nat} {F : List (List Nat)} (h : Mp w b n F) : ∃ es clock, w.heap[b]? = some (.map es clock) := by
  obtain ⟨D, ⟨es, clock, hb, r⟩, _⟩ := h
  exact ⟨es, clock, hb⟩

theorem isKey_int (i : Int) : WideAt.IsKeyLit (.int .i64 i) := by simp [WideAt.IsKeyLit]

theorem lit_ne {i j : Int} (h : i ≠ j) : (Lit.int .i64 i) ≠ .int .i64 j := fun e => h (by injection e)

theorem Agr.put {D : DataW (List Nat)} {F : List (List Nat)} (h : Agr D F) (hm : Maps.IsMap D) {j : Nat} (hj : j < F.length) {l : List Nat} (hl : l ≠ []) : Agr (D.put (.int .i64 (j : Int)) (.held l)) (F.set j l) := by
  intro i
  rw [fAt_set F j l hj i]
  by_cases e : i = (j : Int)
  · subst e
    rw [if_pos rfl, Maps.has_put_same hm (isKey_int _)]
    exact ⟨by simp [hl], fun _ z => Maps.atKey_put_same hm (isKey_int _) _ z⟩
  · rw [if_neg e, Maps.has_put_other (lit_ne e)]
    exact ⟨(h i).1, fun hn z => by rw [Maps.atKey_put_other (lit_ne e)]; exact (h i).2 hn z⟩

theorem Agr.del {D : DataW (List Nat)} {F : List (List Nat)} (h : Agr D F) {j : Nat} (hj : j < F.length) : Agr (D.del (.int .i64 (j : Int))) (F.set j []) := by
  intro i
  rw [fAt_set F j [] hj i]
  by_cases e : i = (j : Int)
  · subst e
    rw [if_pos rfl, Maps.has_del_same]
    exact ⟨by simp, fun hn => absurd rfl hn⟩
  · rw [if_neg e, Maps.has_del_other (lit_ne e)]
    exact ⟨(h i).1, fun hn z => by rw [Maps.atKey_del_other (lit_ne e)]; exact (h i).2 hn z⟩

theorem Agr.nil : Agr (.map []) holes := by
  intro i
  rw [fAt_holes]
  exact ⟨rfl, fun h => absurd rfl h⟩

theorem Mp.made (w : World) : Mp (w.alloc (.map #[] 0)) w.heap.size 0 holes := ⟨_, World.ownsMap_made _ _ _ _, Agr.nil⟩

/-- An image: its block, and its map's. -/
structure Img (w : World) (g b n : Nat) (F : List (List Nat)) : Prop where
  blk : w.heap[g]? = some (.cells #[.map (some b)] 103 (0, 0))
  map : Mp w b n F
  ok : okF F

theorem Img.cell {w : World} {g b n : Nat} {F : List (List Nat)} (h : Img w g b n F) : w.cell? ⟨g, 0, none⟩ = some (.map (some b)) := by
  simp [World.cell?, h.blk]

theorem Img.ne {w : World} {g b n : Nat} {F : List (List Nat)} (h : Img w g b n F) : g ≠ b := by
  rintro rfl
  obtain ⟨es, clock, hb⟩ := h.map.map
  rw [h.blk] at hb
  cases hb

theorem Img.lt {w : World} {g b n : Nat} {F : List (List Nat)} (h : Img w g b n F) : g < w.heap.size := (Array.getElem?_eq_some_iff.1 h.blk).1

theorem Img.save {w w' : World} {X : List Nat} {g b n : Nat} {F : List (List Nat)} (h : Img w g b n F) (hs : Save X w w') (hg : g ∉ X) (hb : b ∉ X) : Img w' g b n F :=
  ⟨(hs.block g h.lt hg).trans h.blk, h.map.save hs hb, h.ok⟩

theorem Img.later {w w' : World} {g b n : Nat} {F : List (List Nat)} (h : Img w g b n F) (hb : Below w.heap.size w w') : Img w' g b n F :=
  ⟨(hb.block g h.lt).trans h.blk, h.map.later hb, h.ok⟩

theorem Img.drew {w : World} {g b n : Nat} {F : List (List Nat)} (h : Img w g b n F) : Img w.drew g b n F := h.later (Below.refl _ _).drew

/-- A block looked up. -/
theorem Mp.look {w : World} {b n : Nat} {F : List (List Nat)} (h : Mp w b n F) (i : Int) (hi : (Lit.int .i64 i).wf = true) :
    ∃ l, okB l ∧ (fAt F i ≠ [] → l = fAt F i) ∧ (Instr.lookup 100 (.map (some b)) (.int .i64 i) true).run Tryz.prog w = .ok (.tuple #[.agg (cB l).toArray, .bool (decide (fAt F i ≠ []))]) w ∧
      (Instr.lookup 100 (.map (some b)) (.int .i64 i) false).run Tryz.prog w = .ok (.agg (cB l).toArray) w := by
  obtain ⟨D, hown, hA⟩ := h
  have hkey : keyOf Tryz.prog 3 (.int .i64 i) = some (.int .i64 i) := Maps.keyOf_int_mk Tryz.underlying3 hi
  have hz : okB (List.replicate 32 0) := ⟨List.length_replicate, fun x hx => by rw [List.eq_of_mem_replicate hx]; omega⟩
  obtain ⟨v, ps, hrun, hv⟩ := hown.look_ok keyedInt Tryz.underlying100 (zero_blk w) (blkR_mk hz) hkey
  obtain ⟨v2, ps2, hrun2, hv2⟩ := hown.lookup keyedInt Tryz.underlying100 (zero_blk w) (blkR_mk hz) hkey
  obtain ⟨l, rfl, hl, he⟩ := blkR_inv hv
  obtain ⟨l2, rfl, hl2, he2⟩ := blkR_inv hv2
  have he := congrArg Prod.fst he
  have he2 := congrArg Prod.fst he2
  simp only at he he2
  have hll : l = l2 := by
    have := he.symm.trans he2
    injection this
  subst hll
  refine ⟨l, hl, fun hn => ?_, ?_, hrun2⟩
  · have := (he.symm.trans ((hA i).2 hn _))
    injection this
  · rw [hrun, (hA i).1]

end Go.Proofs.YtaijldcfoaeogaaGreat

/- The contracts of an image's Put, Clear, Get, over any world. -/
namespace Go.Proofs.YtaijldcfoaeogaaGreat
open Go.RowKit
set_option maxRecDepth 100000
set_option linter.unusedSimpArgs false

theorem arrB_all (g : Nat) (W : World) : (Instr.sliceAt 105 (.pointer (some ⟨g, 0, none⟩)) none none none).run Tryz.prog W = .ok (.slice (some ⟨g, 0, none⟩) 32 32) W := by
  obtain ⟨i0, hi0, hz0, hz1, hz2⟩ := info_parts info5
  rw [run_sliceAt_array_all (P := Tryz.prog) W 105 ⟨g, 0, none⟩ (by kernel_rfl)]
  simp [sizeOf, typeInfo, show Tryz.prog.elem 105 = 5 by kernel_rfl, show Tryz.prog.arrayLen 105 = 32 by kernel_rfl, hi0, slicedAt, sliced, Addr.add]

theorem rd_blk {w : World} {g : Nat} {T : TypeId} {l : List Nat} (h : w.heap[g]? = some (rowObj T l)) (hl : okB l) : Rd w (some ⟨g, 0, none⟩) 32 l := by
  refine ⟨hl.1, hl.2, fun _ => ⟨g, 0, rfl, fun j hj => ?_⟩⟩
  have hj' : j < l.length := by rw [hl.1]; exact hj
  rw [Nat.zero_add, cell_of_row w g j _ T (0, 0) h]
  simp [cB, List.getD, hj']

/-- A block of these bytes, and of bytes 0 behind them. -/
def padB (b : List Nat) : List Nat := b ++ List.replicate (32 - b.length) 0

theorem padB_ok {b : List Nat} (h : b.length ≤ 32) (hb : ∀ x ∈ b, x < 256) : okB (padB b) := by
  refine ⟨by simp [padB]; omega, fun x hx => ?_⟩
  simp only [padB, List.mem_append] at hx
  rcases hx with hx | hx
  · exact hb x hx
  · exact byte_zeros _ x hx

theorem padB_ne (b : List Nat) : padB b ≠ [] := by
  intro h
  have := congrArg List.length h
  simp only [padB, List.length_append, List.length_replicate, List.length_nil] at this
  omega

theorem okB.ne {l : List Nat} (h : okB l) : l ≠ [] := by
  rintro rfl
  have := h.1
  simp at this

theorem pad_spliced {b : List Nat} (h : b.length ≤ 32) : splice (List.replicate 32 0) 0 (b.take (min b.length 32)) = padB b := by
  rw [show min b.length 32 = b.length by omega, List.take_length]
  unfold splice padB
  rw [List.take_zero, List.nil_append, Nat.zero_add, List.drop_replicate]

theorem isNumber_any (i : Int) (w : World) : Calls Tryz.prog 35 #[.int .i64 i] w fun e w' => e = .returned (.bool (decide (0 ≤ i ∧ i < 256))) ∧ w' = w := by
  by_cases h0 : 0 ≤ i
  · by_cases h1 : i < 256
    · have : decide (0 ≤ i ∧ i < 256) = true := by simp [h0, h1]
      rw [this]
      go_enter Tryz.func35, Tryz.ntmps35
      go_wp2
      go_ret
      exact ⟨rfl, rfl⟩
    · have : decide (0 ≤ i ∧ i < 256) = false := by simp [h1]
      rw [this]
      go_enter Tryz.func35, Tryz.ntmps35
      go_wp2
      go_ret
      exact ⟨rfl, rfl⟩
  · have : decide (0 ≤ i ∧ i < 256) = false := by simp [h0]
    rw [this]
    go_enter Tryz.func35, Tryz.ntmps35
    go_wp2
    go_ret
    exact ⟨rfl, rfl⟩

theorem all_any (w : World) (g b n : Nat) (F : List (List Nat)) (h : Img w g b n F) : Calls Tryz.prog 36 #[.pointer (some ⟨g, 0, none⟩)] w fun e w' => e = .returned (.map (some b)) ∧ w' = w := by
  have hc := h.cell
  clear h
  go_enter Tryz.func36, Tryz.ntmps36
  go_wp2
  go_ret
  exact ⟨rfl, rfl⟩

theorem clear_no (w : World) (g b n : Nat) (F : List (List Nat)) (i : Int) (_ : Img w g b n F) (hi : i < 0 ∨ 256 ≤ i) :
    Calls Tryz.prog 17 #[.pointer (some ⟨g, 0, none⟩), .int .i64 i] w fun e w' => e = .returned (.int .i64 1) ∧ w' = w := by
  have HN := Lib.hid (isNumber_any i w)
  rw [show decide (0 ≤ i ∧ i < 256) = false by simp; omega] at HN
  clear hi
  go_enter Tryz.func17, Tryz.ntmps17
  go_wp2_with fail
  refine HN.out.mono ?_
  rintro e w1 ⟨rfl, rfl⟩
  go_wp2
  go_ret
  exact ⟨rfl, rfl⟩

theorem clear_yes (w : World) (g b n : Nat) (F : List (List Nat)) (j : Nat) (h : Img w g b n F) (hj : j < 256) :
    Calls Tryz.prog 17 #[.pointer (some ⟨g, 0, none⟩), .int .i64 (j : Int)] w fun e w' => e = .returned (.int .i64 0) ∧ Img w' g b n (F.set j []) ∧ Save [b] w w' := by
  have HN := Lib.hid (isNumber_any (j : Int) w)
  rw [show decide (0 ≤ (j : Int) ∧ (j : Int) < 256) = true by simp; omega] at HN
  have HA := Lib.hid (all_any w g b n F h)
  have hkey : keyOf Tryz.prog 3 (.int .i64 (j : Int)) = some (.int .i64 (j : Int)) := Maps.keyOf_int_mk Tryz.underlying3 (WalkArith.wf_i64 (by omega))
  obtain ⟨D, hown, hA⟩ := h.map
  have HH := Lib.hid (And.intro h hA)
  clear h hA
  go_enter Tryz.func17, Tryz.ntmps17
  go_wp2_with fail
  refine HN.out.mono ?_
  rintro e w1 ⟨rfl, rfl⟩
  go_wp2_with fail
  refine HA.out.mono ?_
  rintro e w2 ⟨rfl, rfl⟩
  go_wp2_with (at_delete; refine wpList_delete_own _ rfl _ _ 100 3 rfl 105 keyedInt Tryz.underlying100 _ b n D rfl hown _ _ rfl hkey ?_; intro w3 hown3 hturn3)
  have HT := Lib.hid (And.intro hown3 hturn3)
  clear hown3 hturn3
  go_wp2
  go_ret
  have hg := HT.out.2.grown
  have hne := HH.out.1.ne
  refine ⟨rfl, ⟨(hg.block g HH.out.1.lt (by simp [hne])).trans HH.out.1.blk, ⟨_, HT.out.1, HH.out.2.del (by rw [HH.out.1.ok.1]; exact hj)⟩, HH.out.1.ok.set j (.inl rfl)⟩, ⟨hg.os, hg.tape, hg.output, hg.size, fun k hk hx => hg.block k hk (by simpa using hx)⟩⟩

theorem get_hole (w : World) (g b n : Nat) (F : List (List Nat)) (i : Int) (h : Img w g b n F) (hi : (Lit.int .i64 i).wf = true) (hf : fAt F i = []) :
    Calls Tryz.prog 30 #[.pointer (some ⟨g, 0, none⟩), .int .i64 i] w fun e w' => e = .returned (.tuple #[.slice none 0 0, .bool false]) ∧ Below w.heap.size w w' := by
  have HA := Lib.hid (all_any w g b n F h)
  obtain ⟨l, hl, _, hrun, _⟩ := h.map.look i hi
  rw [show decide (fAt F i ≠ []) = false by simp [hf]] at hrun
  have HL := Lib.hid hl
  clear h hf hi hl
  go_enter Tryz.func30, Tryz.ntmps30
  go_wp2_with fail
  refine HA.out.mono ?_
  rintro e w2 ⟨rfl, rfl⟩
  go_wp2_with (refine wpList_store_blk rfl (.tmp 6) (.tmp 13) rfl _ 105 (List.replicate 32 0) l rfl rfl (heap_alloc_last _ _) List.length_replicate HL.out.1 ?_; intro w3 H3)
  have HB : Hid (Below w2.heap.size w2 w3) := Lib.hid (by rw [H3.out]; exact (Below.alloc0 _ _).trans (put_below _ (Nat.le_refl _)))
  clear H3
  go_wp2
  go_ret2
  exact ⟨rfl, HB.out⟩

theorem get_block (w : World) (g b n : Nat) (F : List (List Nat)) (i : Int) (h : Img w g b n F) (hi : (Lit.int .i64 i).wf = true) (hf : fAt F i ≠ []) :
    Calls Tryz.prog 30 #[.pointer (some ⟨g, 0, none⟩), .int .i64 i] w fun e w' => ∃ a c, e = .returned (.tuple #[.slice a 32 c, .bool true]) ∧ Rd w' a 32 (fAt F i) ∧ Below w.heap.size w w' := by
  have HA := Lib.hid (all_any w g b n F h)
  obtain ⟨l, hl, hle, hrun, _⟩ := h.map.look i hi
  rw [show decide (fAt F i ≠ []) = true by simp [hf]] at hrun
  rw [← hle hf]
  have HL := Lib.hid hl
  clear h hf hi hl hle
  obtain ⟨g6, hg6⟩ : ∃ g6, g6 = w.heap.size := ⟨_, rfl⟩
  go_enter Tryz.func30, Tryz.ntmps30
  go_wp2_with fail
  refine HA.out.mono ?_
  rintro e w2 ⟨rfl, rfl⟩
  go_wp2_with (refine wpList_store_blk rfl (.tmp 6) (.tmp 13) rfl _ 105 (List.replicate 32 0) l rfl rfl (heap_alloc_last _ _) List.length_replicate HL.out.1 ?_; intro w3 H3)
  have HB : Hid (Below w2.heap.size w2 w3) := Lib.hid (by rw [H3.out]; exact (Below.alloc0 _ _).trans (put_below _ (Nat.le_refl _)))
  have HR : Hid (Rd w3 (some ⟨g6, 0, none⟩) 32 l) := Lib.hid (by rw [H3.out, hg6]; exact rd_blk (put_same (heap_alloc_last _ _)) HL.out)
  clear H3
  rw [← hg6] at HB ⊢
  clear hg6
  have hs := arrB_all g6
  go_wp2
  go_ret2
  first
    | exact ⟨_, _, rfl, HR.out, HB.out⟩
    | exact ⟨_, ⟨_, rfl⟩, HR.out, HB.out⟩

theorem eql_mapnil (b : Nat) (w : World) : (binOp .eql 100 (.map (some b)) (.map none)).run Tryz.prog w = .ok (.bool false) w := by
  have h : ∀ d : Nat, (Op.equalIn (d + 1) 100 (.map (some b)) (.map none)).run Tryz.prog w = .ok false w := fun d => by
    simp [Op.equalIn, run_underlying Tryz.underlying100]
  simp only [binOp]
  simp [Op.equal, Op.maxDepth, h 9999]

theorem imgPut_no (w : World) (g b n : Nat) (F : List (List Nat)) (i : Int) (a : Option Addr) (m c : Nat) (_ : Img w g b n F) (hi : i < 0 ∨ 256 ≤ i ∨ 32 < m) :
    Calls Tryz.prog 18 #[.pointer (some ⟨g, 0, none⟩), .int .i64 i, .slice a m c] w fun e w' => e = .returned (.int .i64 1) ∧ w' = w := by
  have HN := Lib.hid (isNumber_any i w)
  by_cases h1 : i < 0 ∨ 256 ≤ i
  · rw [show decide (0 ≤ i ∧ i < 256) = false by simp; omega] at HN
    clear hi h1
    go_enter Tryz.func18, Tryz.ntmps18
    go_wp2_with fail
    refine HN.out.mono ?_
    rintro e w1 ⟨rfl, rfl⟩
    go_wp2
    go_ret
    exact ⟨rfl, rfl⟩
  · rw [show decide (0 ≤ i ∧ i < 256) = true by simp; omega] at HN
    have hm : 32 < m := by omega
    clear hi h1
    go_enter Tryz.func18, Tryz.ntmps18
    go_wp2_with fail
    refine HN.out.mono ?_
    rintro e w1 ⟨rfl, rfl⟩
    go_wp2
    go_ret
    exact ⟨rfl, rfl⟩

set_option maxRecDepth 100000 in
theorem imgPut_yes (w : World) (g b n : Nat) (F : List (List Nat)) (j : Nat) (a : Option Addr) (m c : Nat) (x : List Nat) (h : Img w g b n F) (hn : n < 100000) (hj : j < 256) (hm : m ≤ 32) (hr : Rd w a m x) :
    Calls Tryz.prog 18 #[.pointer (some ⟨g, 0, none⟩), .int .i64 (j : Int), .slice a m c] w fun e w' => e = .returned (.int .i64 0) ∧ Img w' g b (n + 1) (F.set j (padB x)) ∧ Save [b] w w' := by
  have HN := Lib.hid (isNumber_any (j : Int) w)
  rw [show decide (0 ≤ (j : Int) ∧ (j : Int) < 256) = true by simp; omega] at HN
  have hc := h.cell
  have HH := Lib.hid h
  have HRD := Lib.hid hr
  have HJ := Lib.hid hj
  have HN2 := Lib.hid hn
  have hkey : keyOf Tryz.prog 3 (.int .i64 (j : Int)) = some (.int .i64 (j : Int)) := Maps.keyOf_int_mk Tryz.underlying3 (WalkArith.wf_i64 (by omega))
  have HK := Lib.hid hkey
  have hnil := eql_mapnil b
  clear h hr hj hn hkey
  go_enter Tryz.func18, Tryz.ntmps18
  go_wp2_with fail
  refine HN.out.mono ?_
  rintro e w1 ⟨rfl, rfl⟩
  go_upto_region 6 with fail
  change Code.wp _ _ _ _ (w1.alloc (rowObj 105 (List.replicate 32 0)))
  obtain ⟨w2, h2⟩ : ∃ w2, w2 = w1.alloc (rowObj 105 (List.replicate 32 0)) := ⟨_, rfl⟩
  obtain ⟨g7, hg7⟩ : ∃ g7, g7 = w1.heap.size := ⟨_, rfl⟩
  rw [← h2, ← hg7]
  have HB2 : Hid (Below w1.heap.size w1 w2) := by rw [h2]; exact Lib.hid (Below.alloc0 _ _)
  have HS2 : Hid (w2.heap[g7]? = some (rowObj 105 (List.replicate 32 0))) := by rw [h2, hg7]; exact Lib.hid (heap_alloc_last _ _)
  have HG7 := Lib.hid hg7
  have HRD2 := Lib.hid (HRD.out.later HB2.out)
  clear h2 hg7
  have HE : Hid (splice (List.replicate 32 0) 0 (x.take (min m 32)) = padB x) := by
    have := pad_spliced (b := x) (by rw [HRD.out.1]; exact hm)
    rw [HRD.out.1] at this
    exact Lib.hid this
  have hs1 := arrB_all g7
  go_wp2_with (refine wpList_copy_bytes rfl (.tmp 29) (.tmp 30) rfl _ _ _ _ _ _ rfl rfl g7 0 105 (List.replicate 32 0) x HS2.out HRD2.out (fun _ => rfl) ?fit (padB x) HE.out ?next)
  case fit => simp only [List.length_replicate]; omega
  case next =>
    intro w3 H3
    have h3 := H3.out
    clear H3
    have HS3 : Hid (w3.heap[g7]? = some (rowObj 105 (padB x))) := by rw [h3]; exact Lib.hid (put_same HS2.out)
    have HB3 : Hid (Below w1.heap.size w1 w3) := by rw [h3]; exact Lib.hid (HB2.out.trans (put_below _ (by rw [HG7.out]; exact Nat.le_refl _)))
    have HH3 := Lib.hid (HH.out.later HB3.out)
    have HPX : Hid (okB (padB x)) := Lib.hid (padB_ok (by rw [HRD.out.1]; exact hm) HRD.out.2.1)
    clear h3 hs1 hc
    go_upto_region 7 with fail
    refine wp_region_still_tail 6 (by kernel_rfl) (by kernel_rfl) ?_
    simp only [List.take_succ_cons, List.take_zero, List.drop_succ_cons, List.drop_zero]
    change wpStill _ _ w3.drew _ _ _
    obtain ⟨w5, h5⟩ : ∃ w5, w5 = w3.drew := ⟨_, rfl⟩
    have HH5 : Hid (Img w5 g b n F) := by rw [h5]; exact Lib.hid HH3.out.drew
    have HB5 : Hid (Below w1.heap.size w1 w5) := by rw [h5]; exact Lib.hid HB3.out.drew
    have HS5 : Hid (w5.heap[g7]? = some (rowObj 105 (padB x))) := by rw [h5]; exact HS3
    have hc5 := HH5.out.cell
    rw [← h5]
    have H5 := Lib.hid h5
    clear h5
    repeat still_step
    refine wpStill_load_blk rfl (.tmp 7) rfl g7 105 (padB x) rfl HS5.out HPX.out.1 ?_
    refine wpStill_nil ?_
    change wpList _ _ _ _ _ w3.drew
    rw [← H5.out]
    obtain ⟨D, hown, hA⟩ := HH5.out.map
    have hlt := HN2.out
    have HIM := Lib.hid hown.isMap
    refine wpList_mapUpdate_own _ rfl _ _ _ 100 rfl 3 105 keyedInt Tryz.underlying100 blkR b n D rfl hown (by unfold maxLen; omega) _ _ _ rfl rfl HK.out _ [] (blkR_mk HPX.out) ?_
    intro w6 hown6 hgrow6
    have HO := Lib.hid (And.intro hown6 hgrow6)
    have HAg := Lib.hid hA
    clear hown6 hgrow6 hA hown hc5 hlt hnil
    go_wp2
    go_ret
    have hg := HO.out.2
    have hne := HH5.out.ne
    refine ⟨rfl, ⟨(hg.block g HH5.out.lt (by simp [hne])).trans HH5.out.blk, ⟨_, HO.out.1, HAg.out.put HIM.out (by rw [HH5.out.ok.1]; exact HJ.out) (padB_ne x)⟩, HH5.out.ok.set j (.inr HPX.out)⟩, ?_⟩
    exact (Save.of_below HB5.out [b]).trans ⟨hg.os, hg.tape, hg.output, hg.size, fun k hk hx => hg.block k hk (by simpa using hx)⟩

end Go.Proofs.YtaijldcfoaeogaaGreat

/- maps.Copy at maps of blocks; the contracts of New, of, Clone, over any world. -/
namespace Go.Proofs.YtaijldcfoaeogaaGreat
open Go.RowKit
set_option maxRecDepth 100000
set_option linter.unusedSimpArgs false

theorem Agr.at_ {D : DataW (List Nat)} {F : List (List Nat)} (h : Agr D F) {x : Int} {l : List Nat} (hat : ∀ z, D.atKey (.int .i64 x) z = .held l) : l = fAt F x := by
  have h1 := Maps.has_true_of_atKey hat
  rw [(h x).1] at h1
  have h2 := (h x).2 (by simpa using h1) .nil
  rw [hat] at h2
  injection h2

/-- The step of a range over a map of blocks. -/
theorem wpList_next_img {w : World} {ops : Array Oper} {rest : List Oper} {o : Oper} {a : Act} {Q : Exit → Act → World → Prop} (hg : o.guard = none) (it : Operand) (hop : o.op = Op.next it false)
    (b r n : Nat) (D : DataW (List Nat)) (F : List (List Nat)) (hA : Agr D F) (left : Lit → Bool) (cnt : Nat) (hit : a.eval it = .pointer (some ⟨r, 0, none⟩)) (h : w.ranges Tryz.prog 3 blkR b r n D left cnt)
    (hDone : cnt = 0 → (∀ kl, left kl = false) → wpList Tryz.prog ops Q rest (a.put o.dst (.tuple #[.bool false])) w)
    (hMore : ∀ (x : Int) (l : List Nat) (w' : World) (cnt' : Nat), (Lit.int .i64 x).wf = true → okB l → l = fAt F x → left (.int .i64 x) = true → (∀ zd, D.atKey (.int .i64 x) zd = .held l) → w'.ranges Tryz.prog 3 blkR b r n D (fun z => left z && !z.sameKey (.int .i64 x)) cnt' → cnt' < cnt →
      w.grownBy w' (some r) → w'.heap.size = w.heap.size → (Instr.entry (.pointer (some ⟨r, 0, none⟩))).run Tryz.prog w' = .ok (.tuple #[.int .i64 x, .agg (cB l).toArray]) w' → wpList Tryz.prog ops Q rest (a.put o.dst (.tuple #[.bool true, .int .i64 x, .agg (cB l).toArray])) w') :
    wpList Tryz.prog ops Q (o :: rest) a w :=
  wpList_next_ranges w hg it hop 3 keyedInt blkR (Value.int .i64) (fun l => .agg (cB l).toArray) (fun key kl hkey => by obtain ⟨x, rfl, _⟩ := Maps.keyOf_int_inv Tryz.underlying3 hkey; exact ⟨x, rfl⟩) (fun v y hv => by obtain ⟨c, rfl, _⟩ := blkR_inv hv; exact ⟨c, rfl⟩)
    b r n D left cnt hit h hDone (fun x c kl y w' cnt' hkey hlk hv hat hrg hlt hgr hsz hen => by
      obtain ⟨x', ex, rfl, hwx⟩ := Maps.keyOf_int_inv Tryz.underlying3 hkey
      cases ex
      obtain ⟨c', ec, hc, rfl⟩ := blkR_inv hv
      have : c = c' := cB_inj (congrArg Array.toList (Value.agg.inj ec))
      subst this
      exact hMore x c w' cnt' hwx hc (hA.at_ hat) hlk hat hrg hlt hgr hsz hen)

theorem grown_new (w : World) (o o' : Obj) : w.grownBy (put (w.alloc o) w.heap.size o') none :=
  ⟨rfl, rfl, rfl, by simp [put], fun k hk _ => (put_other (by omega)).trans (Below.heap_alloc _ _ _ hk)⟩

theorem Save.grown {X : List Nat} {w w1 w2 : World} (h : Save X w w1) {row : Option Nat} (hg : w1.grownBy w2 row) (hr : ∀ k, row = some k → w.heap.size ≤ k ∨ k ∈ X) : Save X w w2 :=
  ⟨hg.os.trans h.os, hg.tape.trans h.tape, hg.output.trans h.output, Nat.le_trans h.size hg.size, fun k hk hx => (hg.block k (Nat.lt_of_lt_of_le hk h.size) (by
    intro e
    rcases hr k e.symm with h1 | h1
    · omega
    · exact hx h1)).trans (h.block k hk hx)⟩

theorem Agr.same {D D' : DataW (List Nat)} {F : List (List Nat)} (h : Agr D F) {left : Lit → Bool} (hA : Maps.Agree D' D left) (hl : ∀ k, left k = false) : Agr D' F := by
  intro i
  have e : Maps.has D' (.int .i64 i) = Maps.has D (.int .i64 i) := by rw [hA.1, hl]; simp
  refine ⟨e.trans (h i).1, fun hn z => ?_⟩
  rw [hA.2 _ z (by rw [e, (h i).1]; simp [hn])]
  exact (h i).2 hn z

set_option maxRecDepth 100000 in
theorem copy_any (w : World) (d b n : Nat) (F : List (List Nat)) (hne : d ≠ b) (hd : w.ownsMap Tryz.prog 3 blkR d 0 (.map [])) (h : Mp w b n F) (hn : n < 100000) :
    Calls Tryz.prog 58 #[.map (some d), .map (some b)] w fun e w' => e = .returned (.tuple #[]) ∧ Mp w' d n F ∧ Save [d] w w' := by
  obtain ⟨D, hown, hA⟩ := h
  have HAg := Lib.hid hA
  have HO := Lib.hid hown
  have HD := Lib.hid hd
  have HLt := Lib.hid (And.intro hd.lt hown.lt)
  have HSz := Lib.hid hown.size_le
  obtain ⟨r, hr⟩ : ∃ r, r = w.heap.size := ⟨_, rfl⟩
  clear hA hd hown
  go_enter Tryz.func58, Tryz.ntmps58
  go_wp2_with (at_range; refine wpList_range_own _ rfl _ 100 rfl 3 105 keyedInt Tryz.underlying100 _ b n D rfl HO.out ?_; intro w0 hrg0 hg0 hs0)
  go_frame
  rw [← hr] at hrg0 ⊢
  have HR := Lib.hid hr
  have H0 := Lib.hid (And.intro hrg0 hg0)
  clear hr hrg0 hg0 hs0
  go_loopw [4] (fun _ wr => ∃ (left : Lit → Bool) (cnt m : Nat) (Dout : DataW (List Nat)), Hid (wr.ranges Tryz.prog 3 blkR b r n D left cnt) ∧ Hid (m + cnt ≤ n) ∧ Hid (wr.ownsMap Tryz.prog 3 blkR d m Dout) ∧ Hid (Maps.Agree Dout D left) ∧ Hid (Save [d] w wr)) (fun _ wr => wr.rangeLeft b r)
  case atStart =>
    exact ⟨_, _, 0, .map [], Lib.hid H0.out.1, Lib.hid (by have := HSz.out; omega), Lib.hid (HD.out.kept H0.out.2 (by simp)), Lib.hid (Maps.agree_start D), Lib.hid ((Save.refl [d] w).grown H0.out.2 (by simp))⟩
  case round =>
    obtain ⟨left, cnt, m, Dout, HRg, HC, HOut, HAgr, HS⟩ := hrel
    go_wp2_with (at_next; refine wpList_next_img rfl _ rfl b r n D F HAg.out left cnt rfl HRg.out ?_ ?_)
    · intro hc0 hl0
      have HL0 := Lib.hid hl0
      clear hc0 hl0
      go_wp2
      go_end0
      refine ⟨rfl, ⟨Dout, HOut.out.mono (by have := HC.out; omega), HAg.out.same HAgr.out HL0.out⟩, HS.out⟩
    · intro x l w1 cnt1 hwx hokl hlF hlx hat hrg1 hlt hg1 hs1 hen
      have HX := Lib.hid (And.intro hwx (And.intro hokl hat))
      have H1 := Lib.hid (And.intro hrg1 (And.intro hlt hg1))
      clear hwx hokl hat hrg1 hlt hg1 hlF hlx hs1
      obtain ⟨g5, hg5⟩ : ∃ g5, g5 = w1.heap.size := ⟨_, rfl⟩
      go_upto_region 3 with (refine wpList_store_blk rfl (.tmp 5) (.tmp 12) rfl _ 105 (List.replicate 32 0) l rfl rfl (heap_alloc_last _ _) List.length_replicate HX.out.2.1.1 ?_; intro w3 H3)
      rw [← hg5]
      have HB3 : Hid (w3.heap[g5]? = some (rowObj 105 l)) := Lib.hid (by rw [H3.out, hg5]; exact put_same (heap_alloc_last _ _))
      have HG3 : Hid (w1.grownBy w3 none) := Lib.hid (by rw [H3.out]; exact grown_new _ _ _)
      have HK3 := Lib.hid ((H1.out.1).kept HG3.out (by simp) (by simp))
      have HO3 := Lib.hid ((HOut.out.kept H1.out.2.2 (by
        have := HLt.out.1; have := HR.out
        intro e; injection e with e; omega)).kept HG3.out (by simp))
      have hm : m < 100000 := by have := HC.out; have := H1.out.2.1; omega
      clear H3 hg5 hen
      go_wp2_with (first
        | (refine wpList_load_blk rfl (.tmp 5) rfl g5 105 l rfl HB3.out HX.out.2.1.1 ?_)
        | (at_mapUpdate; refine wpList_mapUpdate_own _ rfl _ _ _ 100 rfl 3 105 keyedInt Tryz.underlying100 blkR d m Dout rfl HO3.out (by unfold maxLen; omega) _ _ _ rfl rfl (Maps.keyOf_int_mk Tryz.underlying3 HX.out.1) _ [] (blkR_mk HX.out.2.1) ?_; intro w4 hout4 hg4; go_frame))
      have hrg4 := HK3.out.kept hg4 (by intro e; injection e with e; exact hne e.symm) (by
        have := HLt.out.1; have := HR.out
        intro e; injection e with e; omega)
      go_roundw
      case rel =>
        refine ⟨_, cnt1, m + 1, _, Lib.hid hrg4, Lib.hid ?_, Lib.hid hout4, Lib.hid (Maps.agree_step HAgr.out HOut.out.isMap (isKey_int x) HX.out.2.2), Lib.hid ?_⟩
        · have := HC.out; have := H1.out.2.1; omega
        · refine (((HS.out.grown H1.out.2.2 ?_).grown HG3.out (by simp)).grown hg4 ?_)
          · intro k e; injection e with e; left; rw [← e, HR.out]; exact Nat.le_refl _
          · intro k e; injection e with e; right; simp [e]
      case measure => rw [hrg4.left_eq, HRg.out.left_eq]; exact H1.out.2.1

theorem copy_none (w : World) (d : Nat) :
    Calls Tryz.prog 58 #[.map (some d), .map none] w fun e w' => e = .returned (.tuple #[]) ∧ Below w.heap.size w w' := by
  have hrg := run_range_nilMap (P := Tryz.prog) w 100 3 105 Tryz.underlying100
  have hnx : ∀ ty, (Instr.next (.pointer (some ⟨w.heap.size, 0, none⟩)) false ty).run Tryz.prog (w.alloc (.mapIter none 0 #[] 0)) = _ := fun ty => run_next_nilMap _ ty 0 0 #[]
  go_enter Tryz.func58, Tryz.ntmps58
  go_wp2
  refine wp_loop_rounds 1 ?_
  rw [rounds_succ]
  go_wp2
  go_end0
  exact ⟨rfl, Below.alloc0 _ _⟩

end Go.Proofs.YtaijldcfoaeogaaGreat

/- The contracts of image's of, New, Clone, over any world. -/
namespace Go.Proofs.YtaijldcfoaeogaaGreat
open Go.RowKit
set_option maxRecDepth 100000
set_option linter.unusedSimpArgs false

/-- The world in which an image is laid. -/
def wNew (w : World) : World := (w.alloc (.map #[] 0)).alloc (.cells #[.map (some w.heap.size)] 103)

theorem wNew_below (w : World) : Below w.heap.size w (wNew w) := ((Below.refl _ _).alloc (Nat.le_refl _) _).alloc (by simp) _

theorem wNew_img (w : World) : (wNew w).heap[w.heap.size + 1]? = some (.cells #[.map (some w.heap.size)] 103 (0, 0)) := by
  have := heap_alloc_last (w.alloc (.map #[] 0)) (.cells #[.map (some w.heap.size)] 103)
  rw [World.size_alloc] at this
  exact this

theorem wNew_own (w : World) : (wNew w).ownsMap Tryz.prog 3 blkR w.heap.size 0 (.map []) := (World.ownsMap_made _ _ _ _).alloc _

theorem wNew_size (w : World) : (wNew w).heap.size = w.heap.size + 1 + 1 := by simp [wNew]

theorem ofImg_any (w : World) (b n : Nat) (F : List (List Nat)) (h : Mp w b n F) (hok : okF F) (hn : n < 100000) :
    Calls Tryz.prog 34 #[.map (some b)] w fun e w' => ∃ g' b', e = .returned (.pointer (some ⟨g', 0, none⟩)) ∧ w.heap.size ≤ g' ∧ w.heap.size ≤ b' ∧ Img w' g' b' n F ∧ Below w.heap.size w w' := by
  have hmm := @run_makeMap Tryz.prog
  have hlt := h.lt
  have HC := Lib.hid (copy_any (wNew w) w.heap.size b n F (by omega) (wNew_own w) (h.later (wNew_below w)) hn)
  obtain ⟨s0, hs0⟩ : ∃ s0, s0 = w.heap.size := ⟨_, rfl⟩
  have e1 : (w.alloc (.map #[] 0)).heap.size = s0 + 1 := by rw [hs0]; simp
  have HOk := Lib.hid hok
  have HI := Lib.hid (wNew_img w)
  have HB := Lib.hid (wNew_below w)
  have HSz := Lib.hid (wNew_size w)
  have hcell : (wNew w).cell? ⟨s0 + 1, 0, none⟩ = some (.map (some s0)) := by rw [hs0]; simp [World.cell?, HI.out]
  obtain ⟨w1, hw1⟩ : ∃ w1, w1 = wNew w := ⟨_, rfl⟩
  rw [← hw1] at HC HI HB hcell HSz
  rw [← hs0] at HC HI HB HSz
  have hw2 : (w.alloc (.map #[] 0)).alloc (.cells #[.map (some s0)] 103) = w1 := by rw [hw1, hs0]; rfl
  have hs1 : w.heap.size = s0 := hs0.symm
  clear h hok hw1 hlt hs0
  go_enter Tryz.func34, Tryz.ntmps34
  go_wp2_with fail
  clear hw2 e1 hmm hcell
  refine HC.out.mono ?_
  rintro e w3 ⟨rfl, hm, hsv⟩
  have HM := Lib.hid (And.intro hm hsv)
  have HS1 := Lib.hid hs1
  clear hm hsv hs1
  go_wp2
  go_ret
  rw [HS1.out]
  refine ⟨s0 + 1, s0, rfl, by omega, Nat.le_refl _, ⟨(HM.out.2.block _ (by rw [HSz.out]; omega) (by simp)).trans HI.out, HM.out.1, HOk.out⟩, HB.out.trans (HM.out.2.below (by rw [HSz.out]; omega) (by simp))⟩

theorem ofImg_nil (w : World) :
    Calls Tryz.prog 34 #[.map none] w fun e w' => ∃ g' b', e = .returned (.pointer (some ⟨g', 0, none⟩)) ∧ w.heap.size ≤ g' ∧ w.heap.size ≤ b' ∧ Img w' g' b' 0 holes ∧ Below w.heap.size w w' := by
  have hmm := @run_makeMap Tryz.prog
  have HC := Lib.hid (copy_none (wNew w) w.heap.size)
  obtain ⟨s0, hs0⟩ : ∃ s0, s0 = w.heap.size := ⟨_, rfl⟩
  have e1 : (w.alloc (.map #[] 0)).heap.size = s0 + 1 := by rw [hs0]; simp
  have HO : Hid (Mp (wNew w) w.heap.size 0 holes) := Lib.hid ⟨_, wNew_own w, Agr.nil⟩
  have HI := Lib.hid (wNew_img w)
  have HB := Lib.hid (wNew_below w)
  have HSz := Lib.hid (wNew_size w)
  have hcell : (wNew w).cell? ⟨s0 + 1, 0, none⟩ = some (.map (some s0)) := by rw [hs0]; simp [World.cell?, HI.out]
  obtain ⟨w1, hw1⟩ : ∃ w1, w1 = wNew w := ⟨_, rfl⟩
  rw [← hw1] at HC HI HB hcell HSz HO
  rw [← hs0] at HC HI HB HSz HO
  have hw2 : (w.alloc (.map #[] 0)).alloc (.cells #[.map (some s0)] 103) = w1 := by rw [hw1, hs0]; rfl
  have hs1 : w.heap.size = s0 := hs0.symm
  clear hw1 hs0
  go_enter Tryz.func34, Tryz.ntmps34
  go_wp2_with fail
  clear hw2 e1 hmm hcell
  refine HC.out.mono ?_
  rintro e w3 ⟨rfl, hb⟩
  have HM := Lib.hid hb
  have HS1 := Lib.hid hs1
  clear hb hs1
  go_wp2
  go_ret
  rw [HS1.out]
  refine ⟨s0 + 1, s0, rfl, by omega, Nat.le_refl _, ⟨(HM.out.block _ (by rw [HSz.out]; omega)).trans HI.out, HO.out.later HM.out, holes_ok⟩, HB.out.trans (HM.out.mono (by rw [HSz.out]; omega))⟩

theorem imgNew_any (w : World) :
    Calls Tryz.prog 16 #[] w fun e w' => ∃ g' b', e = .returned (.pointer (some ⟨g', 0, none⟩)) ∧ w.heap.size ≤ g' ∧ w.heap.size ≤ b' ∧ Img w' g' b' 0 holes ∧ Below w.heap.size w w' := by
  have HC := Lib.hid (ofImg_nil w)
  go_enter Tryz.func16, Tryz.ntmps16
  go_wp2_with fail
  refine HC.out.mono ?_
  rintro e w1 ⟨g', b', rfl, h1, h2, h3, h4⟩
  have HR := Lib.hid (And.intro h1 (And.intro h2 (And.intro h3 h4)))
  clear h1 h2 h3 h4
  go_wp2
  go_ret
  exact ⟨g', b', rfl, HR.out⟩

theorem imgClone_any (w : World) (g b n : Nat) (F : List (List Nat)) (h : Img w g b n F) (hn : n < 100000) :
    Calls Tryz.prog 26 #[.pointer (some ⟨g, 0, none⟩)] w fun e w' => ∃ g' b', e = .returned (.pointer (some ⟨g', 0, none⟩)) ∧ w.heap.size ≤ g' ∧ w.heap.size ≤ b' ∧ Img w' g' b' n F ∧ Below w.heap.size w w' := by
  have HA := Lib.hid (all_any w g b n F h)
  have HC := Lib.hid (ofImg_any w b n F h.map h.ok hn)
  clear h
  go_enter Tryz.func26, Tryz.ntmps26
  go_wp2_with fail
  refine HA.out.mono ?_
  rintro e w2 ⟨rfl, rfl⟩
  go_wp2_with fail
  refine HC.out.mono ?_
  rintro e w1 ⟨g', b', rfl, h1, h2, h3, h4⟩
  have HR := Lib.hid (And.intro h1 (And.intro h2 (And.intro h3 h4)))
  clear h1 h2 h3 h4
  go_wp2
  go_ret
  exact ⟨g', b', rfl, HR.out⟩

end Go.Proofs.YtaijldcfoaeogaaGreat
