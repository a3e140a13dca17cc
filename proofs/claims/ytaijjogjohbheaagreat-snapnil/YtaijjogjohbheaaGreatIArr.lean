/- Arrays as values: 32 bytes, 256 strings; loaded, stored, boxed, sliced whole; over any world. -/
import Derived.Test.YtaijjogjohbheaaGreatMemAll
import Derived.Deep.WholeRow
import Derived.StillTailTactics
import Derived.Maps.OwnSet
import Derived.Maps.RangeWalk
import Derived.Maps.Ext
namespace Go.Proofs.YtaijjogjohbheaaGreat
open Go.RowKit
set_option maxRecDepth 100000
set_option linter.unusedSimpArgs false

theorem wpList_val {P : Program} {ops : Array Oper} {Q : Exit → Act → World → Prop} {a : Act} {w : World} {rest : List Oper} {o : Oper} (hw : Region.wanted o (yielded ops a.tmps) = true) (v : Value) (w' : World)
    (hrun : (execOp a.eval o).run P w = .ok (.value v) w') (h : wpList P ops Q rest (a.put o.dst v) w') : wpList P ops Q (o :: rest) a w :=
  wpList_step fun K hK => by
    simp only [hw, if_true]
    unfold Oper.wp
    rw [hrun, Oper.upon_value]
    exact hK _ _ h

theorem wpList_skp {P : Program} {ops : Array Oper} {Q : Exit → Act → World → Prop} {a : Act} {w : World} {rest : List Oper} {o : Oper} (hw : Region.wanted o (yielded ops a.tmps) = true) (w' : World)
    (hrun : (execOp a.eval o).run P w = .ok .skip w') (h : wpList P ops Q rest (a.put o.dst undef) w') : wpList P ops Q (o :: rest) a w :=
  wpList_step fun K hK => by
    simp only [hw, if_true]
    unfold Oper.wp
    rw [hrun, Oper.upon_skip]
    exact hK _ _ h

theorem wpStill_val {P : Program} {ops : Array Oper} {Q : Act → Prop} {a : Act} {w : World} {rest : List Oper} {o : Oper} (hw : Region.wanted o (yielded ops a.tmps) = true) (v : Value)
    (hrun : (execOp a.eval o).run P w = .ok (.value v) w) (h : wpStill P ops w Q rest (a.put o.dst v)) : wpStill P ops w Q (o :: rest) a :=
  wpStill_step fun K hK => by
    simp only [hw, if_true]
    unfold Oper.still
    rw [hrun, Oper.stillUpon_value]
    exact hK _ h

/-- The strings of an image, as the document has it. -/
def cS (F : List (List Nat)) : List Value := F.map fun l => Value.string (strB l)

theorem cS_length (F : List (List Nat)) : (cS F).length = F.length := by simp [cS]

theorem cS_one (F : List (List Nat)) : ∀ u ∈ cS F, u.oneCell' = true := by
  intro u hu
  simp only [cS, List.mem_map] at hu
  obtain ⟨x, _, rfl⟩ := hu
  rfl

/-- A block that holds an image, as the document has it. -/
def arrObj (F : List (List Nat)) : Obj := .cells (cS F).toArray 37 (0, 0)

theorem size_blk : (Tryz.prog.info? 135).map (·.size) = some 32 := by kernel_rfl
theorem size_img : (Tryz.prog.info? 37).map (·.size) = some 256 := by kernel_rfl

theorem run_load_blk {w : World} {g : Nat} {T : TypeId} {l : List Nat} {fr : Nat × Nat} (hg : w.heap[g]? = some (.cells (cB l).toArray T fr)) (hl : l.length = 32) :
    (Instr.loadAt 135 (.pointer (some ⟨g, 0, none⟩))).run Tryz.prog w = .ok (.agg (cB l).toArray) w := by
  simp only [Instr.loadAt, Instr.sureAddr, Sem.run_bind, Sem.run_pure, Result.andThen]
  exact run_loadVar_row w g T 135 _ fr _ hg Tryz.underlying135 rfl (by rw [size_blk]; simp [cB_length, hl])

theorem run_load_img {w : World} {g : Nat} {F : List (List Nat)} (hg : w.heap[g]? = some (arrObj F)) (hl : F.length = 256) :
    (Instr.loadAt 37 (.pointer (some ⟨g, 0, none⟩))).run Tryz.prog w = .ok (.agg (cS F).toArray) w := by
  simp only [Instr.loadAt, Instr.sureAddr, Sem.run_bind, Sem.run_pure, Result.andThen]
  exact run_loadVar_row w g _ 37 _ _ _ hg Tryz.underlying37 rfl (by rw [size_img]; simp [cS_length, hl])

theorem run_store_blk {w : World} {g : Nat} {T : TypeId} {l l' : List Nat} (hg : w.heap[g]? = some (rowObj T l)) (hl : l.length = 32) (hl' : l'.length = 32) :
    (Instr.storeAt 135 (.pointer (some ⟨g, 0, none⟩)) (.agg (cB l').toArray)).run Tryz.prog w = .ok () (put w g (rowObj T l')) := by
  simp only [Instr.storeAt, Instr.sureAddr, Sem.run_bind, Sem.run_pure, Result.andThen]
  rw [run_storeVar_row w g T 135 _ (cB l').toArray hg (by rw [size_blk]; simp [cB_length, hl']) (by simp [cB_length, hl, hl']) (by
    simp only [List.all_toArray, List.all_eq_true]; exact cB_one l'), setRow_put hg]
  rfl

theorem run_store_img {w : World} {g : Nat} {F F' : List (List Nat)} (hg : w.heap[g]? = some (arrObj F)) (hl : F.length = 256) (hl' : F'.length = 256) :
    (Instr.storeAt 37 (.pointer (some ⟨g, 0, none⟩)) (.agg (cS F').toArray)).run Tryz.prog w = .ok () (put w g (arrObj F')) := by
  simp only [Instr.storeAt, Instr.sureAddr, Sem.run_bind, Sem.run_pure, Result.andThen]
  rw [run_storeVar_row w g _ 37 _ (cS F').toArray hg (by rw [size_img]; simp [cS_length, hl']) (by simp [cS_length, hl, hl']) (by
    simp only [List.all_toArray, List.all_eq_true]; exact cS_one F'), setRow_put hg]
  rfl

/-- A whole array is loaded: at the operation. -/
theorem wpList_load_blk {w : World} {ops : Array Oper} {rest : List Oper} {o : Oper} {a : Act} {Q : Exit → Act → World → Prop} (hw : Region.wanted o (yielded ops a.tmps) = true) (p : Operand) (hop : o.op = Op.load 135 p)
    (g : Nat) (T : TypeId) (l : List Nat) (hp : a.eval p = .pointer (some ⟨g, 0, none⟩)) (hg : w.heap[g]? = some (rowObj T l)) (hl : l.length = 32)
    (h : wpList Tryz.prog ops Q rest (a.put o.dst (.agg (cB l).toArray)) w) : wpList Tryz.prog ops Q (o :: rest) a w :=
  wpList_val hw _ w (by simp only [execOp, hop, hp, Sem.run_bind, run_load_blk hg hl, Result.andThen, Sem.run_pure]) h

theorem wpStill_load_blk {w : World} {ops : Array Oper} {rest : List Oper} {o : Oper} {a : Act} {Q : Act → Prop} (hw : Region.wanted o (yielded ops a.tmps) = true) (p : Operand) (hop : o.op = Op.load 135 p)
    (g : Nat) (T : TypeId) (l : List Nat) (hp : a.eval p = .pointer (some ⟨g, 0, none⟩)) (hg : w.heap[g]? = some (rowObj T l)) (hl : l.length = 32)
    (h : wpStill Tryz.prog ops w Q rest (a.put o.dst (.agg (cB l).toArray))) : wpStill Tryz.prog ops w Q (o :: rest) a :=
  wpStill_val hw _ (by simp only [execOp, hop, hp, Sem.run_bind, run_load_blk hg hl, Result.andThen, Sem.run_pure]) h

theorem wpList_load_img {w : World} {ops : Array Oper} {rest : List Oper} {o : Oper} {a : Act} {Q : Exit → Act → World → Prop} (hw : Region.wanted o (yielded ops a.tmps) = true) (p : Operand) (hop : o.op = Op.load 37 p)
    (g : Nat) (F : List (List Nat)) (hp : a.eval p = .pointer (some ⟨g, 0, none⟩)) (hg : w.heap[g]? = some (arrObj F)) (hl : F.length = 256)
    (h : wpList Tryz.prog ops Q rest (a.put o.dst (.agg (cS F).toArray)) w) : wpList Tryz.prog ops Q (o :: rest) a w :=
  wpList_val hw _ w (by simp only [execOp, hop, hp, Sem.run_bind, run_load_img hg hl, Result.andThen, Sem.run_pure]) h

theorem wpStill_load_img {w : World} {ops : Array Oper} {rest : List Oper} {o : Oper} {a : Act} {Q : Act → Prop} (hw : Region.wanted o (yielded ops a.tmps) = true) (p : Operand) (hop : o.op = Op.load 37 p)
    (g : Nat) (F : List (List Nat)) (hp : a.eval p = .pointer (some ⟨g, 0, none⟩)) (hg : w.heap[g]? = some (arrObj F)) (hl : F.length = 256)
    (h : wpStill Tryz.prog ops w Q rest (a.put o.dst (.agg (cS F).toArray))) : wpStill Tryz.prog ops w Q (o :: rest) a :=
  wpStill_val hw _ (by simp only [execOp, hop, hp, Sem.run_bind, run_load_img hg hl, Result.andThen, Sem.run_pure]) h

theorem wpList_store_blk {w : World} {ops : Array Oper} {rest : List Oper} {o : Oper} {a : Act} {Q : Exit → Act → World → Prop} (hw : Region.wanted o (yielded ops a.tmps) = true) (p v : Operand) (hop : o.op = Op.store 135 p v)
    (g : Nat) (T : TypeId) (l l' : List Nat) (hp : a.eval p = .pointer (some ⟨g, 0, none⟩)) (hv : a.eval v = .agg (cB l').toArray) (hg : w.heap[g]? = some (rowObj T l)) (hl : l.length = 32) (hl' : l'.length = 32)
    (h : ∀ w', Hid (w' = put w g (rowObj T l')) → wpList Tryz.prog ops Q rest (a.put o.dst undef) w') : wpList Tryz.prog ops Q (o :: rest) a w :=
  wpList_skp hw _ (by simp only [execOp, hop, hp, hv, Sem.run_bind, run_store_blk hg hl hl', Result.andThen, Sem.run_pure]) (h _ (Lib.hid rfl))

theorem wpList_store_img {w : World} {ops : Array Oper} {rest : List Oper} {o : Oper} {a : Act} {Q : Exit → Act → World → Prop} (hw : Region.wanted o (yielded ops a.tmps) = true) (p v : Operand) (hop : o.op = Op.store 37 p v)
    (g : Nat) (F F' : List (List Nat)) (hp : a.eval p = .pointer (some ⟨g, 0, none⟩)) (hv : a.eval v = .agg (cS F').toArray) (hg : w.heap[g]? = some (arrObj F)) (hl : F.length = 256) (hl' : F'.length = 256)
    (h : ∀ w', Hid (w' = put w g (arrObj F')) → wpList Tryz.prog ops Q rest (a.put o.dst undef) w') : wpList Tryz.prog ops Q (o :: rest) a w :=
  wpList_skp hw _ (by simp only [execOp, hop, hp, hv, Sem.run_bind, run_store_img hg hl hl', Result.andThen, Sem.run_pure]) (h _ (Lib.hid rfl))

theorem results_cell1 {fn : Func} {p : Tmp} {ty : TypeId} (h : fn.results = #[.cell p ty]) (tmps : Array Value) (P : Program) (w : World) :
    (results fn tmps).run P w = ((asAddr (tmps.getD p undef)).run P w).andThen fun a w₁ => (loadVar ty a).run P w₁ := by
  simp only [results, h]
  simp [Sem.run_bind, Result.andThen]

/-- A result that lies in a cell: the document's image. -/
theorem ret_img {fn : Func} {p g : Nat} {F : List (List Nat)} {w : World} {tmps : Array Value} (hr : fn.results = #[.cell p 37]) (ht : tmps.getD p undef = .pointer (some ⟨g, 0, none⟩)) (hg : w.heap[g]? = some (arrObj F)) (hF : F.length = 256) :
    (results fn tmps).run Tryz.prog w = .ok (.agg (cS F).toArray) w := by
  rw [results_cell1 hr, ht]
  simp only [asAddr, Sem.run_pure, Result.andThen]
  rw [run_loadVar_row w g _ 37 _ _ _ hg Tryz.underlying37 rfl (by rw [size_img]; simp [cS_length, hF])]

theorem results_tmp_cell {fn : Func} {p u : Tmp} {ty : TypeId} (h : fn.results = #[.tmp u, .cell p ty]) (tmps : Array Value) (P : Program) (w : World) :
    (results fn tmps).run P w = ((asAddr (tmps.getD p undef)).run P w).andThen fun a w₁ => ((loadVar ty a).run P w₁).andThen fun v w₂ => .ok (.tuple #[tmps.getD u undef, v]) w₂ := by
  simp only [results, h]
  simp [Sem.run_bind, Result.andThen]

theorem results_cell_tmp' {fn : Func} {p u : Tmp} {ty : TypeId} (h : fn.results = #[.cell p ty, .tmp u]) (tmps : Array Value) (P : Program) (w : World) :
    (results fn tmps).run P w = ((asAddr (tmps.getD p undef)).run P w).andThen fun a w₁ => ((loadVar ty a).run P w₁).andThen fun v w₂ => .ok (.tuple #[v, tmps.getD u undef]) w₂ := by
  simp only [results, h]
  simp [Sem.run_bind, Result.andThen]

theorem ret_tmp_img {fn : Func} {p g u : Nat} {F : List (List Nat)} {w : World} {tmps : Array Value} (hr : fn.results = #[.tmp u, .cell p 37]) (ht : tmps.getD p undef = .pointer (some ⟨g, 0, none⟩)) (hg : w.heap[g]? = some (arrObj F)) (hF : F.length = 256) :
    (results fn tmps).run Tryz.prog w = .ok (.tuple #[tmps.getD u undef, .agg (cS F).toArray]) w := by
  rw [results_tmp_cell hr, ht]
  simp only [asAddr, Sem.run_pure, Result.andThen]
  rw [run_loadVar_row w g _ 37 _ _ _ hg Tryz.underlying37 rfl (by rw [size_img]; simp [cS_length, hF])]

theorem ret_img_tmp {fn : Func} {p g u : Nat} {F : List (List Nat)} {w : World} {tmps : Array Value} (hr : fn.results = #[.cell p 37, .tmp u]) (ht : tmps.getD p undef = .pointer (some ⟨g, 0, none⟩)) (hg : w.heap[g]? = some (arrObj F)) (hF : F.length = 256) :
    (results fn tmps).run Tryz.prog w = .ok (.tuple #[.agg (cS F).toArray, tmps.getD u undef]) w := by
  rw [results_cell_tmp' hr, ht]
  simp only [asAddr, Sem.run_pure, Result.andThen]
  rw [run_loadVar_row w g _ 37 _ _ _ hg Tryz.underlying37 rfl (by rw [size_img]; simp [cS_length, hF])]

/-- A variable of the document's images. -/
theorem zero_img : Tryz.zeroCells37 = (cS (List.replicate 256 [])).toArray := by kernel_rfl

theorem zero_blk (w : World) : (zeroValue 135).run Tryz.prog w = .ok (.agg (cB (List.replicate 32 0)).toArray) w := by kernel_rfl

end Go.Proofs.YtaijjogjohbheaaGreat

/- A map[int]block in memory, as 256 blocks or holes; over any world. -/
namespace Go.Proofs.YtaijjogjohbheaaGreat
open Go.RowKit
set_option maxRecDepth 100000
set_option linter.unusedSimpArgs false

theorem keyedInt : Maps.Keyed Tryz.prog 3 := Maps.int_keyed Tryz.underlying3

theorem cB_inj {l m : List Nat} (h : cB l = cB m) : l = m := by
  induction l generalizing m with
  | nil => cases m with
    | nil => rfl
    | cons _ _ => simp [cB] at h
  | cons x r ih => cases m with
    | nil => simp [cB] at h
    | cons y s =>
      simp only [cB, List.map_cons, List.cons.injEq, Value.int.injEq, true_and] at h
      rw [ih h.2, Int.ofNat.inj h.1]

/-- 32 bytes. -/
def okB (l : List Nat) : Prop := l.length = 32 ∧ ∀ x ∈ l, x < 256

open Classical in
/-- How a block's value reads. -/
noncomputable def blkR (v : Value) : Option (DataW (List Nat) × List MemPlace) :=
  if h : ∃ l, v = .agg (cB l).toArray ∧ okB l then some (.held h.choose, []) else none

theorem blkR_mk {l : List Nat} (h : okB l) : blkR (.agg (cB l).toArray) = some (.held l, []) := by
  have hx : ∃ m, Value.agg (cB l).toArray = .agg (cB m).toArray ∧ okB m := ⟨l, rfl, h⟩
  unfold blkR
  rw [dif_pos hx]
  have h1 := hx.choose_spec.1
  injection h1 with h1
  injection h1 with h1
  rw [← cB_inj h1]

theorem blkR_inv {v : Value} {z : DataW (List Nat) × List MemPlace} (h : blkR v = some z) : ∃ l, v = .agg (cB l).toArray ∧ okB l ∧ z = (.held l, []) := by
  unfold blkR at h
  split at h
  · rename_i hx
    obtain ⟨l, rfl, hl⟩ := hx
    have := blkR_mk hl
    unfold blkR at this
    rw [dif_pos ⟨l, rfl, hl⟩] at this
    rw [this] at h
    injection h with h
    exact ⟨l, rfl, hl, h.symm⟩
  · cases h

/-- The block at a number; no byte: a hole. -/
def fAt (F : List (List Nat)) (i : Int) : List Nat := if 0 ≤ i then F.getD i.toNat [] else []

theorem fAt_nat (F : List (List Nat)) (j : Nat) : fAt F (j : Int) = F.getD j [] := by simp [fAt]

theorem fAt_out {F : List (List Nat)} {i : Int} (hF : F.length = 256) (h : i < 0 ∨ 256 ≤ i) : fAt F i = [] := by
  unfold fAt
  split
  · rw [List.getD, List.getElem?_eq_none (by omega)]; rfl
  · rfl

theorem fAt_set (F : List (List Nat)) (j : Nat) (l : List Nat) (hj : j < F.length) (i : Int) : fAt (F.set j l) i = if i = (j : Int) then l else fAt F i := by
  unfold fAt
  by_cases h0 : 0 ≤ i
  · obtain ⟨k, rfl⟩ : ∃ k : Nat, i = (k : Int) := ⟨i.toNat, by omega⟩
    simp only [Int.toNat_natCast, h0, if_true, List.getD, List.getElem?_set]
    by_cases h : k = j
    · subst h; simp [hj]
    · rw [if_neg (by omega), if_neg (by omega)]
  · rw [if_neg h0, if_neg h0, if_neg (by omega)]

/-- 256 blocks, or holes. -/
def okF (F : List (List Nat)) : Prop := F.length = 256 ∧ ∀ l ∈ F, l = [] ∨ okB l

theorem okF.at_ {F : List (List Nat)} (h : okF F) (i : Int) : fAt F i = [] ∨ okB (fAt F i) := by
  unfold fAt
  split
  · by_cases hi : i.toNat < F.length
    · have : F.getD i.toNat [] ∈ F := by simp [List.getD, hi]
      exact h.2 _ this
    · left; rw [List.getD, List.getElem?_eq_none (by omega)]; rfl
  · left; rfl

theorem okF.set {F : List (List Nat)} (h : okF F) (j : Nat) {l : List Nat} (hl : l = [] ∨ okB l) : okF (F.set j l) := by
  refine ⟨by simp [h.1], fun m hm => ?_⟩
  rcases List.mem_or_eq_of_mem_set hm with hm | rfl
  · exact h.2 m hm
  · exact hl

def holes : List (List Nat) := List.replicate 256 []

theorem holes_ok : okF holes := ⟨List.length_replicate, fun _ hl => .inl (List.eq_of_mem_replicate hl)⟩

theorem fAt_holes (i : Int) : fAt holes i = [] := by
  unfold fAt holes
  split
  · simp only [List.getD, List.getElem?_replicate]; split <;> rfl
  · rfl

theorem F_ext {F G : List (List Nat)} (hF : F.length = 256) (hG : G.length = 256) (h : ∀ i : Int, fAt F i = fAt G i) : F = G := by
  apply List.ext_getElem?
  intro k
  by_cases hk : k < 256
  · have := h (k : Int)
    rw [fAt_nat, fAt_nat] at this
    simp only [List.getD] at this
    rw [List.getElem?_eq_getElem (by omega), List.getElem?_eq_getElem (by omega)] at this ⊢
    simpa using this
  · rw [List.getElem?_eq_none (by omega), List.getElem?_eq_none (by omega)]

/-- The datum D has just the blocks of F. -/
def Agr (D : DataW (List Nat)) (F : List (List Nat)) : Prop :=
  ∀ i : Int, Maps.has D (.int .i64 i) = decide (fAt F i ≠ []) ∧ (fAt F i ≠ [] → ∀ z, D.atKey (.int .i64 i) z = .held (fAt F i))

/-- Block b is a map of at most n entries: the blocks of F. -/
def Mp (w : World) (b n : Nat) (F : List (List Nat)) : Prop := ∃ D, w.ownsMap Tryz.prog 3 blkR b n D ∧ Agr D F

theorem Mp.lt {w : World} {b n : Nat} {F : List (List Nat)} (h : Mp w b n F) : b < w.heap.size := h.elim fun _ h => h.1.lt

theorem Mp.mono {w : World} {b n n' : Nat} {F : List (List Nat)} (h : Mp w b n F) (hn : n ≤ n') : Mp w b n' F := h.elim fun D h => ⟨D, h.1.mono hn, h.2⟩

theorem Mp.kept {w w' : World} {b n : Nat} {F : List (List Nat)} (h : Mp w b n F) (he : w'.heap[b]? = w.heap[b]?) : Mp w' b n F := by
  obtain ⟨D, ⟨es, clock, hb, r⟩, hA⟩ := h
  exact ⟨D, ⟨es, clock, he.trans hb, r⟩, hA⟩

theorem Mp.later {w w' : World} {b n : Nat} {F : List (List Nat)} (h : Mp w b n F) (hb : Below w.heap.size w w') : Mp w' b n F := h.kept (hb.block b h.lt)

theorem Mp.save {w w' : World} {X : List Nat} {b n : Nat} {F : List (List Nat)} (h : Mp w b n F) (hs : Save X w w') (hX : b ∉ X) : Mp w' b n F := h.kept (hs.block b h.lt hX)

theorem Mp.map {w : World} {b n : Nat} {F : List (List Nat)} (h : Mp w b n F) : ∃ es clock, w.heap[b]? = some (.map es clock) := by
  obtain ⟨D, ⟨es, clock, hb, r⟩, _⟩ := h
  exact ⟨es, clock, hb⟩

theorem isKey_int (i : Int) : WideAt.IsKeyLit (.int .i64 i) := by simp [WideAt.IsKeyLit]

theorem lit_ne {i j : Int} (h : i ≠ j) : (Lit.int .i64 i) ≠ .int .i64 j := fun e => h (by injection e)

theorem Agr.put {D : DataW (List Nat)} {F : List (List Nat)} (h : Agr D F) (hm : Maps.IsMap D) {j : Nat} (hj : j < F.length) {l : List Nat} (hl : l ≠ []) : Agr (D.put (.int .i64 (j : Int)) (.held l)) (F.set j l) := by
  intro i
  rw [fAt_set F j l hj i]
  by_cases e : i = (j : Int)
  · subst e
    rw [if_pos rfl, Maps.has_put_same hm (isKey_int _)]
    exact ⟨by simp [hl], fun _ z => Maps.atKey_put_same hm (isKey_int _) _ z⟩
  · rw [if_neg e, Maps.has_put_other (lit_ne e)]
    exact ⟨(h i).1, fun hn z => by rw [Maps.atKey_put_other (lit_ne e)]; exact (h i).2 hn z⟩

theorem Agr.del {D : DataW (List Nat)} {F : List (List Nat)} (h : Agr D F) {j : Nat} (hj : j < F.length) : Agr (D.del (.int .i64 (j : Int))) (F.set j []) := by
  intro i
  rw [fAt_set F j [] hj i]
  by_cases e : i = (j : Int)
  · subst e
    rw [if_pos rfl, Maps.has_del_same]
    exact ⟨by simp, fun hn => absurd rfl hn⟩
  · rw [if_neg e, Maps.has_del_other (lit_ne e)]
    exact ⟨(h i).1, fun hn z => by rw [Maps.atKey_del_other (lit_ne e)]; exact (h i).2 hn z⟩

theorem Agr.nil : Agr (.map []) holes := by
  intro i
  rw [fAt_holes]
  exact ⟨rfl, fun h => absurd rfl h⟩

theorem Mp.made (w : World) : Mp (w.alloc (.map #[] 0)) w.heap.size 0 holes := ⟨_, World.ownsMap_made _ _ _ _, Agr.nil⟩

/-- An image: its block, and its map's. -/
structure Img (w : World) (g b n : Nat) (F : List (List Nat)) : Prop where
  blk : w.heap[g]? = some (.cells #[.map (some b)] 132 (0, 0))
  map : Mp w b n F
  ok : okF F

theorem Img.cell {w : World} {g b n : Nat} {F : List (List Nat)} (h : Img w g b n F) : w.cell? ⟨g, 0, none⟩ = some (.map (some b)) := by
  simp [World.cell?, h.blk]

theorem Img.ne {w : World} {g b n : Nat} {F : List (List Nat)} (h : Img w g b n F) : g ≠ b := by
  rintro rfl
  obtain ⟨es, clock, hb⟩ := h.map.map
  rw [h.blk] at hb
  cases hb

theorem Img.lt {w : World} {g b n : Nat} {F : List (List Nat)} (h : Img w g b n F) : g < w.heap.size := (Array.getElem?_eq_some_iff.1 h.blk).1

theorem Img.save {w w' : World} {X : List Nat} {g b n : Nat} {F : List (List Nat)} (h : Img w g b n F) (hs : Save X w w') (hg : g ∉ X) (hb : b ∉ X) : Img w' g b n F :=
  ⟨(hs.block g h.lt hg).trans h.blk, h.map.save hs hb, h.ok⟩

theorem Img.later {w w' : World} {g b n : Nat} {F : List (List Nat)} (h : Img w g b n F) (hb : Below w.heap.size w w') : Img w' g b n F :=
  ⟨(hb.block g h.lt).trans h.blk, h.map.later hb, h.ok⟩

theorem Img.drew {w : World} {g b n : Nat} {F : List (List Nat)} (h : Img w g b n F) : Img w.drew g b n F := h.later (Below.refl _ _).drew

/-- A block looked up. -/
theorem Mp.look {w : World} {b n : Nat} {F : List (List Nat)} (h : Mp w b n F) (i : Int) (hi : (Lit.int .i64 i).wf = true) :
    ∃ l, okB l ∧ (fAt F i ≠ [] → l = fAt F i) ∧ (Instr.lookup 121 (.map (some b)) (.int .i64 i) true).run Tryz.prog w = .ok (.tuple #[.agg (cB l).toArray, .bool (decide (fAt F i ≠ []))]) w ∧
      (Instr.lookup 121 (.map (some b)) (.int .i64 i) false).run Tryz.prog w = .ok (.agg (cB l).toArray) w := by
  obtain ⟨D, hown, hA⟩ := h
  have hkey : keyOf Tryz.prog 3 (.int .i64 i) = some (.int .i64 i) := Maps.keyOf_int_mk Tryz.underlying3 hi
  have hz : okB (List.replicate 32 0) := ⟨List.length_replicate, fun x hx => by rw [List.eq_of_mem_replicate hx]; omega⟩
  obtain ⟨v, ps, hrun, hv⟩ := hown.look_ok keyedInt Tryz.underlying121 (zero_blk w) (blkR_mk hz) hkey
  obtain ⟨v2, ps2, hrun2, hv2⟩ := hown.lookup keyedInt Tryz.underlying121 (zero_blk w) (blkR_mk hz) hkey
  obtain ⟨l, rfl, hl, he⟩ := blkR_inv hv
  obtain ⟨l2, rfl, hl2, he2⟩ := blkR_inv hv2
  have he := congrArg Prod.fst he
  have he2 := congrArg Prod.fst he2
  simp only at he he2
  have hll : l = l2 := by
    have := he.symm.trans he2
    injection this
  subst hll
  refine ⟨l, hl, fun hn => ?_, ?_, hrun2⟩
  · have := (he.symm.trans ((hA i).2 hn _))
    injection this
  · rw [hrun, (hA i).1]

end Go.Proofs.YtaijjogjohbheaaGreat
