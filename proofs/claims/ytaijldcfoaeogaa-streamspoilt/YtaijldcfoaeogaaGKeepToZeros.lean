/- Two laws on a row of bytes of the call's own: a byte set in it; and an append to it that leaves the row itself readable. -/
import Derived.Test.YtaijldcfoaeogaaGMemToOwnBlk
import Derived.ArgAppend
import Derived.Deep.DeepAppendRoom
import Derived.Laws.OwnMore
import Derived.Laws.CopyOwn
import Derived.Lib.SliceRun
import Derived.Lib.AppendZeros
namespace Go.Proofs.Ytaijldcfoaeogaa
open Go.RowKit

theorem Own.set {w : World} {base g n cap : Nat} {l : List Nat} (h : Own w base (.slice (some ⟨g, 0, none⟩) n cap) l) (hl : l.length = n) (j x : Nat) (hx : x < 256) :
    Own (w.setCell ⟨g, j, none⟩ (.int .u8 (x : Int))) base (.slice (some ⟨g, 0, none⟩) n cap) (l.set j x) := by
  obtain ⟨hb, h0, h1⟩ := h
  refine ⟨?_, ?_, ?_⟩
  · intro y hy
    rcases List.mem_or_eq_of_mem_set hy with hy | rfl
    · exact hb y hy
    · exact hx
  · simp [cB]
  · rcases h1 with ⟨hv, _⟩ | ⟨g', cap', cur, hv, hbg, hg, hnc, hcm, hcs, ht⟩
    · cases hv
    · injection hv with h2 h3 h4
      injection h2 with h2
      injection h2 with h2
      subst h2
      subst h4
      refine .inr ⟨g, cap, cur.setIfInBounds j (.int .u8 (x : Int)), by rw [List.length_set, hl], hbg, heap_setCell_same w g j cur 5 _ hg, by rw [List.length_set]; exact hnc, hcm, by rw [Array.size_setIfInBounds]; exact hcs, ?_⟩
      rw [List.length_set, Array.toList_setIfInBounds, List.take_set, ht]
      simp [cB, List.map_set]

/-- An append to a row of the call's own: the new value, and the row itself, still there. -/
theorem run_append_keep (w : World) (base g n cap : Nat) (l0 : List Nat) (ho : Own w base (.slice (some ⟨g, 0, none⟩) n cap) l0) (hn0 : l0.length = n) (hbase : base ≤ w.heap.size) (A : Option Addr) (m c : Nat) (l : List Nat) (hr : Rd w A m l) (hm : 0 < m) (hn : n + m ≤ 3000000) (ty : TypeId) :
    ∃ v' w', (Builtin.append_ #[30, 30] ty #[.slice (some ⟨g, 0, none⟩) n cap, .slice A m c]).run Try.prog w = .ok v' w' ∧ Own w' base v' (l0 ++ l) ∧ Rd w' (some ⟨g, 0, none⟩) n l0 ∧ w.grownBy w' (some g) := by
  obtain ⟨i0, hi0, hz0, hz1, hz2⟩ := info_parts info5
  obtain ⟨b, o, rfl, _⟩ := hr.2.2 hm
  have hby : ∀ y ∈ l0 ++ l, y < 256 := by
    intro y hy
    simp only [List.mem_append] at hy
    rcases hy with hy | hy
    · exact ho.1 y hy
    · exact hr.2.1 y hy
  by_cases hroom : n + m ≤ cap
  · obtain ⟨w', hrun, h1, h2⟩ := run_append_own_spare (P := Try.prog) w base 30 ty 5 i0 1 Try.underlying30 hi0 hz1 g n cap (cB l0) (by have := ho.2; rw [hn0] at this; exact this) ⟨b, o, none⟩ m c (cB l) (by rw [cB_length, hr.1]; omega) (rd_cells hr) (cB_one l) hroom
    have hO : Own w' base (.slice (some ⟨g, 0, none⟩) (n + m) cap) (l0 ++ l) := ⟨hby, by rw [cB_append, List.length_append, hn0, hr.1]; exact h1⟩
    refine ⟨_, w', hrun, hO, ?_, h2⟩
    have h3 := (hO.asSlice1 (by rw [List.length_append, hn0, hr.1])).first (k := n) (by omega)
    rw [List.take_left' hn0] at h3
    exact h3
  · have hR := ho.asSlice1 hn0
    obtain ⟨v', w', hrun, h1, h2⟩ := run_append_arg_grows (P := Try.prog) w 30 ty 5 i0 _ 1 1 Try.underlying30 hi0 hz0 hz1 hz2 rfl (by omega) ⟨g, 0, none⟩ n cap (cB l0) (by rw [cB_length, hn0]; omega) (rd_cells hR) ⟨b, o, none⟩ m c (cB l) (by rw [cB_length, hr.1]; omega) (rd_cells hr) (by omega) (by unfold maxLen; omega) (by omega)
    have hO : Own w' w.heap.size v' (l0 ++ l) := ⟨hby, by rw [cB_append, List.length_append, hn0, hr.1]; exact h1⟩
    have hB : Below w.heap.size w w' := (Below.refl _ _).grown h2 (Nat.le_refl _) (by simp)
    refine ⟨v', w', hrun, ⟨hO.1, hO.2.1, hO.2.2.imp id fun ⟨g, cap, cur, hv, hg, rest⟩ => ⟨g, cap, cur, hv, Nat.le_trans hbase hg, rest⟩⟩, hR.later hB, grownBy_of_below hB _⟩

theorem wpList_append_keep {w : World} {ops : Array Oper} {rest : List Oper} {o : Oper} {a : Act} {Q : Exit → Act → World → Prop} (hgd : o.guard = none) (s x : Operand)
    (hop : o.op = .call { callee := .builtin .append, args := #[s, x], argTypes := #[30, 30] }) (g n cap : Nat) (hs : a.eval s = .slice (some ⟨g, 0, none⟩) n cap) (A : Option Addr) (m c : Nat) (hx : a.eval x = .slice A m c)
    (base : Nat) (l0 : List Nat) (ho : Own w base (.slice (some ⟨g, 0, none⟩) n cap) l0) (hn0 : l0.length = n) (hbase : base ≤ w.heap.size) (l : List Nat) (hr : Rd w A m l) (hm : 0 < m) (hn : n + m ≤ 3000000)
    (h : ∀ v' w', Own w' base v' (l0 ++ l) → Rd w' (some ⟨g, 0, none⟩) n l0 → w.grownBy w' (some g) → wpList Try.prog ops Q rest (a.put o.dst v') w') :
    wpList Try.prog ops Q (o :: rest) a w := by
  refine wpList_plain hgd fun K hK => ?_
  obtain ⟨v', w', hrun, h1, h2, h3⟩ := run_append_keep w base g n cap l0 ho hn0 hbase A m c l hr hm hn o.type
  unfold Oper.wp execOp
  simp only [hop, resolve, invoke, builtin, Sem.run_bind, Sem.run_pure, Result.andThen_ok, List.map_toArray, List.map_cons, List.map_nil, hs, hx, hrun]
  exact hK _ _ (h v' w' h1 h2 h3)

end Go.Proofs.Ytaijldcfoaeogaa

/- Bytes laid over a row that is known whole (copy, clear), a row of zeros made, zeros appended to a row of the call's own; what else a world keeps. -/
namespace Go.Proofs.Ytaijldcfoaeogaa
open Go.RowKit
set_option linter.unusedSimpArgs false

/-- A block of bytes of the type T (a row, or an array's variable). -/
def rowObj (T : TypeId) (l : List Nat) : Obj := .cells (cB l).toArray T (0, 0)

theorem setRow_put {w : World} {g : Nat} {cs cs' : Array Value} {T : TypeId} (h : w.heap[g]? = some (.cells cs T (0, 0))) : w.setRow g cs' = put w g (.cells cs' T (0, 0)) := by
  have hlt : g < w.heap.size := (Array.getElem?_eq_some_iff.1 h).1
  have e : ∀ f : Obj → Obj, w.heap.modify g f = w.heap.setIfInBounds g (f (.cells cs T (0, 0))) := by
    intro f
    apply Array.ext_getElem?
    intro i
    rw [Array.getElem?_modify]
    by_cases hi : g = i
    · subst hi; rw [h]; simp [hlt]
    · rw [if_neg hi, Array.getElem?_setIfInBounds_ne hi]
  simp only [World.setRow, e, put]

theorem cB_splice (L : List Nat) (off : Nat) (x : List Nat) : splice (cB L) off (cB x) = cB (splice L off x) := by
  simp [splice, cB]

theorem splice_nil (L : List Nat) (off : Nat) : splice L off [] = L := by simp [splice]

theorem size1 : (Try.prog.info? 5).map (·.size) = some 1 := by kernel_rfl

/-- copy: as many bytes of S as there is room for are laid over L from 'off' on. -/
theorem run_copy_bytes (w : World) (ty : TypeId) (dp sp : Option Addr) (dLen dCap sLen sCap : Nat) (g off : Nat) (T : TypeId) (L S : List Nat) (hg : w.heap[g]? = some (rowObj T L)) (hr : Rd w sp sLen S)
    (hpos : 0 < min sLen dLen → dp = some ⟨g, off, none⟩) (hfit : off + min sLen dLen ≤ L.length) :
    (Builtin.copy_ #[30, 30] ty #[.slice dp dLen dCap, .slice sp sLen sCap]).run Try.prog w = .ok (goInt (min sLen dLen : Nat)) (put w g (rowObj T (splice L off (S.take (min sLen dLen))))) := by
  rcases Nat.eq_zero_or_pos (min sLen dLen) with h0 | h0
  · rw [h0, List.take_zero, splice_nil, put_self hg]
    exact run_copy_none w 30 30 ty 5 dp sp dLen dCap sLen sCap Try.underlying30 size1 h0
  · obtain rfl := hpos h0
    have hl : (cB (S.take (min sLen dLen))).length = min sLen dLen := by rw [cB_length, List.length_take, hr.1]; omega
    obtain ⟨b, o, rfl, hc⟩ := hr.2.2 (by omega)
    have h := run_copy_row (P := Try.prog) w 30 30 ty 5 g off dLen dCap ⟨b, o, none⟩ sLen sCap (cB L).toArray T (cB (S.take (min sLen dLen))) Try.underlying30 size1 hg hl (rd_cells (hr.first (Nat.min_le_left _ _))) (by rw [hl]; simpa [cB_length] using hfit) (cB_one _)
    rw [h, setRow_put hg, hl]
    refine congrArg (fun x => Result.ok (goInt ((min sLen dLen : Nat) : Int)) (put w g x)) ?_
    unfold rowObj
    rw [← cB_splice]
    simp [splice, hl]

theorem wpList_copy_bytes {w : World} {ops : Array Oper} {rest : List Oper} {o : Oper} {a : Act} {Q : Exit → Act → World → Prop} (hgd : o.guard = none) (d s : Operand)
    (ho : o.op = .call { callee := .builtin .copy, args := #[d, s], argTypes := #[30, 30] }) (dp sp : Option Addr) (dLen dCap sLen sCap : Nat) (hd : a.eval d = .slice dp dLen dCap) (hs : a.eval s = .slice sp sLen sCap)
    (g off : Nat) (T : TypeId) (L S : List Nat) (hg : w.heap[g]? = some (rowObj T L)) (hr : Rd w sp sLen S)
    (hpos : 0 < min sLen dLen → dp = some ⟨g, off, none⟩) (hfit : off + min sLen dLen ≤ L.length)
    (X : List Nat) (hX : splice L off (S.take (min sLen dLen)) = X) (h : ∀ w', Hid (w' = put w g (rowObj T X)) → wpList Try.prog ops Q rest (a.put o.dst (goInt (min sLen dLen : Nat))) w') : wpList Try.prog ops Q (o :: rest) a w := by
  refine wpList_plain hgd fun K hK => ?_
  have hrun := run_copy_bytes w o.type dp sp dLen dCap sLen sCap g off T L S hg hr hpos hfit
  unfold Oper.wp execOp
  simp only [ho, resolve, invoke, builtin, Sem.run_bind, Sem.run_pure, Result.andThen_ok, List.map_toArray, List.map_cons, List.map_nil, hd, hs, hrun]
  exact hK _ _ (h _ (Lib.hid (by rw [hX])))

theorem zeroCells_list (m : Nat) : (Builtin.zeroCells #[Value.int .u8 0] m).toList = cB (List.replicate m 0) := by
  simp only [Builtin.zeroCells, cB]
  apply List.ext_getElem
  · simp
  · intro i h1 h2
    simp [Nat.mod_one]

theorem byte_zeros (m : Nat) : ∀ x ∈ List.replicate m 0, x < 256 := by
  intro x hx
  simp at hx
  omega

/-- A row made: 'make([]byte, n)'. -/
theorem run_mkN (n : Nat) (hn : n ≤ 100000000) (w : World) : (Instr.makeSlice 30 (.int .i64 (n : Int)) (.int .i64 (n : Int))).run Try.prog w = .ok (.slice (some ⟨w.heap.size, 0, none⟩) n n) (w.alloc (rowObj 5 (List.replicate n 0))) := by
  obtain ⟨i0, hi0, hz0, hz1, hz2⟩ := info_parts info5
  have h := run_make (P := Try.prog) w 30 5 i0 _ Try.underlying30 hi0 hz0 .i64 .i64 n n (by omega) (by omega) (by rw [hz2]; omega) (by omega)
  have e : madeCells #[Value.int .u8 0] n = (cB (List.replicate n 0)).toArray := by
    apply Array.ext'
    rw [toList_madeCells_one]
    simp [cB]
  rw [hz1] at h
  simpa [rowObj, e, Value.cells] using h

/-- clear, over a row that is known whole. -/
theorem run_clear_row (w : World) (ty : TypeId) (g : Nat) (L : List Nat) (hg : w.heap[g]? = some (rowObj 5 L)) (n c : Nat) (hn : L.length = n) (h0 : 0 < n) :
    (Builtin.clear_ #[30] ty #[.slice (some ⟨g, 0, none⟩) n c]).run Try.prog w = .ok (.tuple #[]) (put w g (rowObj 5 (List.replicate n 0))) := by
  obtain ⟨i0, hi0, hz0, hz1, hz2⟩ := info_parts info5
  have hst := run_storeCells_at Try.prog g 0 5 (List.replicate n (Value.int .u8 0)) 0 (cB L).toArray w hg (by simp [cB_length, hn]) (by intro u hu; rw [List.eq_of_mem_replicate hu]; rfl)
  have hzc : (Builtin.zeroCells #[Value.int .u8 0] n).toList = List.replicate n (Value.int .u8 0) := by rw [zeroCells_list]; simp [cB]
  have hd : (cB L).drop n = [] := List.drop_eq_nil_of_le (by rw [cB_length]; omega)
  rw [setRow_put hg] at hst
  simp only [Nat.add_zero, Nat.zero_add, List.take_zero, List.nil_append, List.length_replicate, List.toList_toArray, hd, List.append_nil] at hst
  have e : (rowObj 5 (List.replicate n 0)) = .cells (List.replicate n (Value.int .u8 0)).toArray 5 (0, 0) := by simp [rowObj, cB]
  rw [e]
  obtain ⟨m, rfl⟩ : ∃ m, n = m + 1 := ⟨n - 1, by omega⟩
  simp [Builtin.clear_, run_underlying Try.underlying30, zeroValue, typeInfo, hi0, hz0, Value.cells, hzc, hst]

/-- Zeros appended to a row of the call's own. -/
theorem run_append_zeros (w : World) (base g n cap : Nat) (l0 : List Nat) (ho : Own w base (.slice (some ⟨g, 0, none⟩) n cap) l0) (hn0 : l0.length = n) (hbase : base ≤ w.heap.size) (m : Nat) (hn : n + m ≤ 3000000) (ty : TypeId) :
    ∃ v' w', (Builtin.append_ #[30, 3] ty #[.slice (some ⟨g, 0, none⟩) n cap, .int .i64 (m : Int)]).run Try.prog w = .ok v' w' ∧ Own w' base v' (l0 ++ List.replicate m 0) ∧ Below base w w' := by
  obtain ⟨i0, hi0, hz0, hz1, hz2⟩ := info_parts info5
  have hby : ∀ y ∈ l0 ++ List.replicate m 0, y < 256 := by
    intro y hy
    simp only [List.mem_append] at hy
    rcases hy with hy | hy
    · exact ho.1 y hy
    · exact byte_zeros m y hy
  have hw : IntKind.i64.wrap (m : Int) = m := by rw [IntKind.wrap_i64]; omega
  have h48i : ¬ (281474976710656 < (m : Int)) := by omega
  have hneg : ¬ ((m : Int) < 0) := by omega
  rcases Nat.eq_zero_or_pos m with h0 | h0
  · subst h0
    refine ⟨.slice (some ⟨g, 0, none⟩) n cap, w, ?_, by simpa using ho, Below.refl _ _⟩
    have hnc : n ≤ cap := by
      obtain ⟨a, c, hv, _, hc⟩ := ho.sl
      injection hv with _ h2 h3
      omega
    simp [Builtin.append_, run_underlying Try.underlying30, run_underlying Try.underlying3, sizeOf, typeInfo, zeroValue, hi0, hz0, hz1, hz2, asInt, asIntOf, IntKind.wrap_i64, hnc, storeCells]
  · have hns : ¬ m = 0 := by omega
    have hR := ho.asSlice1 hn0
    rcases ho.2.2 with ⟨hv, _⟩ | ⟨g', cap', cur, hv, hbg, hg, hnc, hcm, hcs, htake⟩
    · cases hv
    · injection hv with e1 e2 e3
      injection e1 with e1
      injection e1 with e1
      subst e1
      subst e3
      clear e2
      by_cases hroom : n + m ≤ cap
      · have hst := run_storeCells_at Try.prog g n 5 (cB (List.replicate m 0)) 0 cur w hg (by rw [cB_length, List.length_replicate, hcs]; omega) (cB_one _)
        simp only [Nat.add_zero] at hst
        refine ⟨.slice (some ⟨g, 0, none⟩) (n + m) cap, w.setRow g (cur.toList.take n ++ cB (List.replicate m 0) ++ cur.toList.drop (n + (cB (List.replicate m 0)).length)).toArray, ?_, ⟨hby, ?_⟩, ?_⟩
        · simp [Builtin.append_, run_underlying Try.underlying30, run_underlying Try.underlying3, sizeOf, typeInfo, zeroValue, hi0, hz0, hz1, hz2, asInt, asIntOf, hw, hneg, hns, h48i, hroom, Value.cells, zeroCells_list, Addr.add_lit, hst]
        · refine ⟨by simp [cB_length], .inr ⟨g, cap, _, by simp [hn0], hbg, setRow_heap w g cur _ 5 _ hg, by simp [hn0]; omega, hcm, ?_, ?_⟩⟩
          · simp only [List.size_toArray, List.length_append, List.length_take, List.length_drop, Array.length_toList, cB_length, List.length_replicate]
            omega
          · rw [hn0] at htake
            have e1 : cur.toList.take n = cB l0 := by simpa using htake
            simp only [List.length_append, List.length_replicate, hn0, cB_append, e1]
            have e2 : (n + m) * 1 = (cB l0 ++ cB (List.replicate m 0)).length := by rw [List.length_append, cB_length, cB_length, List.length_replicate, hn0]; omega
            rw [e2]
            exact List.take_left
        · exact ⟨rfl, rfl, rfl, by simp, fun k hk => setRow_other w g k _ (by omega)⟩
      · have hge := grownCap_ge w (n + m) cap 5
        have hcm2 : grownCap w (n + m) cap 5 ≤ maxLen := grownCap_le_maxLen w (n + m) cap 5 (by unfold maxLen; omega)
        have hfo := run_firstCells_some (P := Try.prog) w.drew 1 n ⟨g, 0, none⟩ n cap (cB l0) (by rw [cB_length, hn0]; omega) (by simpa using rd_cells hR)
        have h63' : ¬ (9223372036854775807 < ((n : Int) + (m : Int))) := by omega
        have h48' : ¬ (281474976710656 < Builtin.nextslicecap (n + m) cap) := by
          have := growslice_fits (bytes := 1) (show cap < n + m by omega) (by omega)
          omega
        refine ⟨.slice (some ⟨w.heap.size, 0, none⟩) (n + m) (grownCap w (n + m) cap 5), w.drew.alloc (.cells ((cB l0).toArray ++ Builtin.zeroCells #[Value.int .u8 0] m ++ Builtin.zeroCells #[Value.int .u8 0] (grownCap w (n + m) cap 5 - (n + m))) 5), ?_, ⟨hby, ?_⟩, ?_⟩
        · simp [Builtin.append_, run_underlying Try.underlying30, run_underlying Try.underlying3, sizeOf, typeInfo, zeroValue, hi0, hz0, hz1, hz2, asInt, asIntOf, hw, hneg, hns, h48i, hroom, h63', h48', Question.forced, hfo, newRow, grownCap, Value.cells]
        · refine ⟨by simp [cB_length], .inr ⟨w.heap.size, _, _, by simp [hn0], hbase, heap_alloc_new w.drew _, by simp [hn0]; omega, hcm2, ?_, ?_⟩⟩
          · simp only [Array.size_append, List.size_toArray, size_zeroCells, cB_length, hn0, Array.size_singleton]
            simp
            omega
          · simp only [Array.toList_append, zeroCells_list, List.length_append, List.length_replicate, hn0, cB_append, List.append_assoc, List.toList_toArray]
            rw [← List.append_assoc]
            have e2 : (n + m) * 1 = (cB l0 ++ cB (List.replicate m 0)).length := by rw [List.length_append, cB_length, cB_length, List.length_replicate, hn0]; omega
            rw [e2]
            exact List.take_left
        · exact ⟨rfl, rfl, rfl, by simp, fun k hk => heap_alloc_old w.drew _ (show k < w.heap.size by omega)⟩

theorem wpList_append_zeros {w : World} {ops : Array Oper} {rest : List Oper} {o : Oper} {a : Act} {Q : Exit → Act → World → Prop} (hgd : o.guard = none) (s x : Operand)
    (hop : o.op = .call { callee := .builtin .append, args := #[s, x], argTypes := #[30, 3] }) (g n cap : Nat) (hs : a.eval s = .slice (some ⟨g, 0, none⟩) n cap) (m : Nat) (hx : a.eval x = .int .i64 (m : Int))
    (base : Nat) (l0 : List Nat) (ho : Own w base (.slice (some ⟨g, 0, none⟩) n cap) l0) (hn0 : l0.length = n) (hbase : base ≤ w.heap.size) (hn : n + m ≤ 3000000)
    (h : ∀ v' w', Own w' base v' (l0 ++ List.replicate m 0) → Below base w w' → wpList Try.prog ops Q rest (a.put o.dst v') w') :
    wpList Try.prog ops Q (o :: rest) a w := by
  refine wpList_plain hgd fun K hK => ?_
  obtain ⟨v', w', hrun, h1, h2⟩ := run_append_zeros w base g n cap l0 ho hn0 hbase m hn o.type
  unfold Oper.wp execOp
  simp only [hop, resolve, invoke, builtin, Sem.run_bind, Sem.run_pure, Result.andThen_ok, List.map_toArray, List.map_cons, List.map_nil, hs, hx, hrun]
  exact hK _ _ (h v' w' h1 h2)

end Go.Proofs.Ytaijldcfoaeogaa
