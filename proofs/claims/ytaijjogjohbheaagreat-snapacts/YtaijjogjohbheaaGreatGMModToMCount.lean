/- The document's own store in memory: an image of 256 texts, a row of images, a room; loaded, stored, built whole. -/
import Derived.Test.YtaijjogjohbheaaGreatSSta
import Derived.Test.YtaijjogjohbheaaGreatIRefPut
import Derived.Deep.MidRow
namespace Go.Proofs.YtaijjogjohbheaaGreat
open Go.RowKit
set_option maxRecDepth 100000
set_option linter.unusedSimpArgs false

/-- The cells of the document's store. -/
def modC (F : List (List Nat)) (a : Option Addr) (n c room : Nat) : Array Value := (cS F ++ [Value.slice a n c, Value.int .i64 (room : Int)]).toArray

def modObj (F : List (List Nat)) (a : Option Addr) (n c room : Nat) : Obj := .cells (modC F a n c room) 39 (0, 0)

theorem modC_size (F : List (List Nat)) (a : Option Addr) (n c room : Nat) : (modC F a n c room).size = F.length + 2 := by simp [modC, cS_length]

theorem modC_lo {F : List (List Nat)} {a : Option Addr} {n c room j : Nat} (hj : j < F.length) : (modC F a n c room)[j]? = some (.string (strB (F.getD j []))) := by
  unfold modC
  rw [List.getElem?_toArray, List.getElem?_append_left (by rw [cS_length]; exact hj)]
  simp [cS, List.getD, hj]

theorem modC_row {F : List (List Nat)} {a : Option Addr} {n c room : Nat} (hF : F.length = 256) : (modC F a n c room)[256]? = some (.slice a n c) := by
  unfold modC
  rw [List.getElem?_toArray, List.getElem?_append_right (by rw [cS_length]; omega), cS_length, hF]
  rfl

theorem modC_room {F : List (List Nat)} {a : Option Addr} {n c room : Nat} (hF : F.length = 256) : (modC F a n c room)[257]? = some (.int .i64 (room : Int)) := by
  unfold modC
  rw [List.getElem?_toArray, List.getElem?_append_right (by rw [cS_length]; omega), cS_length, hF]
  rfl

section
variable {w : World} {gm : Nat} {F : List (List Nat)} {a : Option Addr} {n c room : Nat}

theorem mod_row (h : w.heap[gm]? = some (modObj F a n c room)) (hF : F.length = 256) : w.cell? ⟨gm, 256, none⟩ = some (.slice a n c) := by
  rw [cell_of_row w gm 256 _ _ _ h]; exact modC_row hF

theorem mod_room (h : w.heap[gm]? = some (modObj F a n c room)) (hF : F.length = 256) : w.cell? ⟨gm, 257, none⟩ = some (.int .i64 (room : Int)) := by
  rw [cell_of_row w gm 257 _ _ _ h]; exact modC_room hF

theorem mod_lo (h : w.heap[gm]? = some (modObj F a n c room)) {j : Nat} (hj : j < F.length) : w.cell? ⟨gm, j, none⟩ = some (.string (strB (F.getD j []))) := by
  rw [cell_of_row w gm j _ _ _ h]; exact modC_lo hj

theorem mod_frozen (h : w.heap[gm]? = some (modObj F a n c room)) (i : Nat) : w.frozen? ⟨gm, i, none⟩ = false := by simp [World.frozen?, h, modObj]

theorem mod_range (h : w.heap[gm]? = some (modObj F a n c room)) : w.rangeAt gm 0 (cS F) := by
  intro j v hv
  have hj : j < F.length := by
    rcases Nat.lt_or_ge j F.length with h1 | h1
    · exact h1
    · rw [List.getElem?_eq_none (by rw [cS_length]; exact h1)] at hv; cases hv
  rw [Nat.zero_add, mod_lo h hj, ← hv]
  simp [cS, List.getD, hj]

theorem size_imgL (hF : F.length = 256) : (Tryz.prog.info? 37).map (·.size) = some (cS F).length := by rw [size_img, cS_length, hF]

/-- The image is loaded. -/
theorem wpList_load_mod {ops : Array Oper} {rest : List Oper} {o : Oper} {act : Act} {Q : Exit → Act → World → Prop} (hgd : o.guard = none) (p : Operand) (hop : o.op = Op.load 37 p)
    (hp : act.eval p = .pointer (some ⟨gm, 0, none⟩)) (h : w.heap[gm]? = some (modObj F a n c room)) (hF : F.length = 256)
    (hn : wpList Tryz.prog ops Q rest (act.put o.dst (.agg (cS F).toArray)) w) : wpList Tryz.prog ops Q (o :: rest) act w :=
  wpList_load_mid hgd 37 p hop gm 0 hp (cS F) _ (mod_range h) Tryz.underlying37 rfl (size_imgL hF) hn

theorem mod_store {F' : List (List Nat)} (h : w.heap[gm]? = some (modObj F a n c room)) (hF : F.length = 256) (hF' : F'.length = 256) :
    (Instr.storeAt 37 (.pointer (some ⟨gm, 0, none⟩)) (.agg (cS F').toArray)).run Tryz.prog w = .ok () (put w gm (modObj F' a n c room)) := by
  have hst := run_storeCells_at Tryz.prog gm 0 39 (cS F') 0 (modC F a n c room) w h (by rw [cS_length, modC_size]; omega) (cS_one F')
  have e : ((modC F a n c room).toList.take 0 ++ cS F' ++ (modC F a n c room).toList.drop (0 + (cS F').length)).toArray = modC F' a n c room := by
    unfold modC
    simp only [List.take_zero, List.nil_append, Nat.zero_add, cS_length, hF']
    congr 1
    congr 1
    rw [List.drop_append_of_le_length (by rw [cS_length]; omega), List.drop_of_length_le (by rw [cS_length]; omega), List.nil_append]
  simp only [Nat.add_zero] at hst
  rw [e, setRow_put' h] at hst
  simp only [Instr.storeAt, Instr.sureAddr, Sem.run_bind, Sem.run_pure, Result.andThen_ok]
  have hs := size_img
  cases hq : Tryz.prog.info? 37 with
  | none => rw [hq] at hs; cases hs
  | some i =>
    rw [hq] at hs
    have hsi : i.size = 256 := by simpa using hs
    have hcl : (cS F').length = 256 := by rw [cS_length, hF']
    simp [storeVar, sizeOf, typeInfo, hq, Value.cells, hsi, hcl, hst]
    rfl

/-- The image is stored. -/
theorem wpList_store_mod {F' : List (List Nat)} {ops : Array Oper} {rest : List Oper} {o : Oper} {act : Act} {Q : Exit → Act → World → Prop} (hw : Region.wanted o (yielded ops act.tmps) = true) (p v : Operand) (hop : o.op = Op.store 37 p v)
    (hp : act.eval p = .pointer (some ⟨gm, 0, none⟩)) (hv : act.eval v = .agg (cS F').toArray) (h : w.heap[gm]? = some (modObj F a n c room)) (hF : F.length = 256) (hF' : F'.length = 256)
    (hn : wpList Tryz.prog ops Q rest (act.put o.dst undef) (put w gm (modObj F' a n c room))) : wpList Tryz.prog ops Q (o :: rest) act w :=
  wpList_skp hw _ (by simp only [execOp, hop, hp, hv, Sem.run_bind, mod_store h hF hF', Result.andThen, Sem.run_pure]) hn

theorem mod_set (h : w.heap[gm]? = some (modObj F a n c room)) {j : Nat} (hj : j < F.length) (l : List Nat) : w.setCell ⟨gm, j, none⟩ (.string (strB l)) = put w gm (modObj (F.set j l) a n c room) := by
  unfold modObj at h
  rw [set_put _ h]
  have e : (modC F a n c room).setIfInBounds j (.string (strB l)) = modC (F.set j l) a n c room := by
    unfold modC
    rw [List.setIfInBounds_toArray, List.set_append_left _ _ (by rw [cS_length]; exact hj), cS_set]
  rw [e]
  rfl

theorem mod_setRow (h : w.heap[gm]? = some (modObj F a n c room)) (hF : F.length = 256) (a' : Option Addr) (n' c' : Nat) : w.setCell ⟨gm, 256, none⟩ (.slice a' n' c') = put w gm (modObj F a' n' c' room) := by
  unfold modObj at h
  rw [set_put _ h]
  have e : (modC F a n c room).setIfInBounds 256 (.slice a' n' c') = modC F a' n' c' room := by
    unfold modC
    rw [List.setIfInBounds_toArray, List.set_append_right _ _ (by rw [cS_length]; omega), cS_length, hF]
    rfl
  rw [e]
  rfl

end

/-- Cells laid over others, one by one. -/
theorem fold_lay (vs : List Value) : ∀ (off k : Nat) (cells : Array Value), off + k + vs.length ≤ cells.size →
    ((vs.zipIdx k).foldl (fun cs (x : Value × Nat) => cs.setIfInBounds (off + x.2) x.1) cells).toList = cells.toList.take (off + k) ++ vs ++ cells.toList.drop (off + k + vs.length) := by
  induction vs with
  | nil => intro off k cells h; simp
  | cons v r ih =>
    intro off k cells h
    simp only [List.length_cons] at h
    rw [List.zipIdx_cons, List.foldl_cons, ih off (k + 1) _ (by simp; omega)]
    simp only [Array.toList_setIfInBounds]
    have hlen : off + k < cells.toList.length := by rw [Array.length_toList]; omega
    apply List.ext_getElem?
    intro j
    simp only [List.append_assoc, List.getElem?_append, List.length_take, List.length_set, List.getElem?_take, List.getElem?_drop, List.getElem?_set, List.length_cons, List.getElem?_cons]
    rw [Array.length_toList] at hlen ⊢
    by_cases h1 : j < off + k
    · rw [if_pos (by omega), if_pos (by omega), if_neg (by omega), if_pos (by omega), if_pos h1]
    · by_cases h2 : j = off + k
      · subst h2
        rw [if_pos (by omega), if_pos (by omega), if_pos rfl, if_pos hlen, if_neg (by omega), if_pos (by omega)]
        have : off + k - min (off + k) cells.size = 0 := by omega
        rw [this]
        simp
      · by_cases h3 : j < off + k + 1 + r.length
        · rw [if_neg (by omega), if_pos (by omega), if_neg (by omega), if_pos (by omega), if_neg (by omega)]
          congr 1
          omega
        · rw [if_neg (by omega), if_neg (by omega), if_neg (by omega), if_neg (by omega), if_neg (by omega)]
          congr 1
          omega

end Go.Proofs.YtaijjogjohbheaaGreat

/- The document's store, built of its parts. -/
namespace Go.Proofs.YtaijjogjohbheaaGreat
open Go.RowKit
set_option maxRecDepth 100000
set_option linter.unusedSimpArgs false

theorem zero_mod (w : World) : (zeroValue 39).run Tryz.prog w = .ok (.agg (modC (List.replicate 256 []) none 0 0 0)) w := by kernel_rfl

theorem places_mod : ∃ fields, Tryz.prog.underlying 39 = some (.struct fields) ∧ ∀ w, ((fields.mapM fun f => do pure (f.offset, ← sizeOf f.type) : Sem (Array (Nat × Nat)))).run Tryz.prog w = .ok #[(0, 256), (256, 1), (257, 1)] w :=
  ⟨_, Tryz.underlying39, fun w => by kernel_rfl⟩

theorem lay_img {F F0 : List (List Nat)} (hF : F.length = 256) (h0 : F0.length = 256) (a : Option Addr) (n c room : Nat) :
    ((cS F).toArray.zipIdx.foldl (fun cs (x : Value × Nat) => cs.setIfInBounds (0 + x.2) x.1) (modC F0 a n c room)) = modC F a n c room := by
  apply Array.toList_inj.1
  rw [← Array.foldl_toList, Array.toList_zipIdx]
  rw [fold_lay (cS F) 0 0 _ (by rw [cS_length, modC_size]; omega)]
  unfold modC
  simp only [Nat.add_zero, List.take_zero, List.nil_append, Nat.zero_add, cS_length, hF]
  congr 1
  rw [List.drop_append_of_le_length (by rw [cS_length]; omega), List.drop_of_length_le (by rw [cS_length]; omega), List.nil_append]

theorem lay_row {F : List (List Nat)} (hF : F.length = 256) (a a' : Option Addr) (n c n' c' room : Nat) : (modC F a n c room).setIfInBounds 256 (.slice a' n' c') = modC F a' n' c' room := by
  unfold modC
  rw [List.setIfInBounds_toArray, List.set_append_right _ _ (by rw [cS_length]; omega), cS_length, hF]
  rfl

theorem lay_room {F : List (List Nat)} (hF : F.length = 256) (a : Option Addr) (n c room room' : Nat) : (modC F a n c room).setIfInBounds 257 (.int .i64 (room' : Int)) = modC F a n c room' := by
  unfold modC
  rw [List.setIfInBounds_toArray, List.set_append_right _ _ (by rw [cS_length]; omega), cS_length, hF]
  rfl

theorem fill_one {place : Nat → Option (Nat × Nat)} {cells : Array Value} {i off size : Nat} {v : Value} {rest : List (Nat × Value)} (hp : place i = some (off, size)) (hv : v.cells.size = size) (hf : off + size ≤ cells.size) :
    Instr.fill place cells ((i, v) :: rest) = Instr.fill place (v.cells.zipIdx.foldl (fun cs (x : Value × Nat) => cs.setIfInBounds (off + x.2) x.1) cells) rest := by
  rw [Instr.fill]
  simp only [hp]
  rw [if_neg (by simp [hv]; omega)]

theorem one_cell (v : Value) (h : v.cells = #[v]) (off : Nat) (cells : Array Value) : v.cells.zipIdx.foldl (fun cs (x : Value × Nat) => cs.setIfInBounds (off + x.2) x.1) cells = cells.setIfInBounds off v := by
  rw [h]
  simp

theorem build_mod {F : List (List Nat)} (hF : F.length = 256) (a : Option Addr) (n c room : Nat) (w : World) :
    (Instr.build 39 #[(0, .agg (cS F).toArray), (1, .slice a n c), (2, .int .i64 (room : Int))]).run Tryz.prog w = .ok (.agg (modC F a n c room)) w := by
  obtain ⟨fields, hu, hp⟩ := places_mod
  have hz := zero_mod w
  obtain ⟨F0, hF0⟩ : ∃ F0 : List (List Nat), F0 = List.replicate 256 [] := ⟨_, rfl⟩
  have h0 : F0.length = 256 := by rw [hF0]; exact List.length_replicate
  rw [← hF0] at hz
  clear hF0
  have e : Instr.fill (#[(0, 256), (256, 1), (257, 1)][·]?) (modC F0 none 0 0 0) [(0, .agg (cS F).toArray), (1, .slice a n c), (2, .int .i64 (room : Int))] = some (modC F a n c room) := by
    rw [fill_one (off := 0) (size := 256) rfl (by simp [Value.cells, cS_length, hF]) (by rw [modC_size]; omega)]
    rw [show (Value.agg (cS F).toArray).cells = (cS F).toArray from rfl, lay_img hF h0]
    rw [fill_one (off := 256) (size := 1) rfl rfl (by rw [modC_size]; omega), one_cell _ rfl, lay_row hF]
    rw [fill_one (off := 257) (size := 1) rfl rfl (by rw [modC_size]; omega), one_cell _ rfl, lay_room hF]
    rfl
  unfold Instr.build
  simp only [Sem.run_bind, hz, Result.andThen_ok, run_underlying hu, hp]
  rw [show (Value.agg (modC F0 none 0 0 0)).cells = modC F0 none 0 0 0 from rfl]
  simp only [e]
  rfl

theorem build_mod0 (a : Option Addr) (n c room : Nat) (w : World) :
    (Instr.build 39 #[(1, .slice a n c), (2, .int .i64 (room : Int))]).run Tryz.prog w = .ok (.agg (modC (List.replicate 256 []) a n c room)) w := by
  obtain ⟨fields, hu, hp⟩ := places_mod
  have hz := zero_mod w
  obtain ⟨F0, hF0⟩ : ∃ F0 : List (List Nat), F0 = List.replicate 256 [] := ⟨_, rfl⟩
  have h0 : F0.length = 256 := by rw [hF0]; exact List.length_replicate
  rw [← hF0] at hz ⊢
  clear hF0
  have e : Instr.fill (#[(0, 256), (256, 1), (257, 1)][·]?) (modC F0 none 0 0 0) [(1, .slice a n c), (2, .int .i64 (room : Int))] = some (modC F0 a n c room) := by
    rw [fill_one (off := 256) (size := 1) rfl rfl (by rw [modC_size]; omega), one_cell _ rfl, lay_row h0]
    rw [fill_one (off := 257) (size := 1) rfl rfl (by rw [modC_size]; omega), one_cell _ rfl, lay_room h0]
    rfl
  unfold Instr.build
  simp only [Sem.run_bind, hz, Result.andThen_ok, run_underlying hu, hp]
  rw [show (Value.agg (modC F0 none 0 0 0)).cells = modC F0 none 0 0 0 from rfl]
  simp only [e]
  rfl

end Go.Proofs.YtaijjogjohbheaaGreat

/- The document's store: its images by number, how many there are. -/
namespace Go.Proofs.YtaijjogjohbheaaGreat
open Go.RowKit
set_option maxRecDepth 100000
set_option linter.unusedSimpArgs false

/-- A row of images, or nobody: each with its block. -/
abbrev Mu := Option (Nat × List (List Nat))

def pQ (x : Mu) : Value := .pointer (x.map fun y => ⟨y.1, 0, none⟩)

/-- The slice reads as the row. -/
def RdQ (w : World) (a : Option Addr) (n : Nat) (U : List Mu) : Prop :=
  U.length = n ∧ (0 < n → ∃ b o, a = some ⟨b, o, none⟩ ∧ ∀ j, j < n → w.cell? ⟨b, o + j, none⟩ = some (pQ (U.getD j none)))

theorem RdQ.save {w w' : World} {X : List Nat} {a : Option Addr} {n : Nat} {U : List Mu} (h : RdQ w a n U) (hs : Save X w w') (hX : 0 < n → ∀ b o, a = some ⟨b, o, none⟩ → b ∉ X) : RdQ w' a n U := by
  refine ⟨h.1, fun hn => ?_⟩
  obtain ⟨b, o, rfl, hc⟩ := h.2 hn
  refine ⟨b, o, rfl, fun j hj => ?_⟩
  have hlt : b < w.heap.size := World.block_lt_of_cell? w _ (hc j hj)
  have e : w'.heap[b]? = w.heap[b]? := hs.block b hlt (hX hn b o rfl)
  have hc' := hc j hj
  simp only [World.cell?] at hc' ⊢
  rw [e]
  exact hc'

/-- The document's store: its image, its row, its room; nothing of it lies in V. -/
def Mod (w : World) (V : List Nat) (gm : Nat) (F : List (List Nat)) (A : List (Option (List (List Nat)))) (room : Nat) : Prop :=
  ∃ (a : Option Addr) (n c : Nat) (U : List Mu), w.heap[gm]? = some (modObj F a n c room) ∧ okF F ∧ n ≤ c ∧ RdQ w a n U ∧ U.map (fun x => x.map (·.2)) = none :: A ∧
    (∀ g G, some (g, G) ∈ U → w.heap[g]? = some (arrObj G) ∧ okF G ∧ g ∉ V) ∧ gm ∉ V ∧ (0 < n → ∀ b o, a = some ⟨b, o, none⟩ → b ∉ V)

theorem Mod.save {w w' : World} {V Z : List Nat} {gm : Nat} {F : List (List Nat)} {A : List (Option (List (List Nat)))} {room : Nat} (h : Mod w V gm F A room) (hs : Save Z w w') (hZ : ∀ k ∈ Z, k ∈ V) : Mod w' V gm F A room := by
  obtain ⟨a, n, c, U, h1, h2, h3, h4, h5, h6, h7, h8⟩ := h
  refine ⟨a, n, c, U, (hs.block gm (lt_of_block h1) (fun h => h7 (hZ _ h))).trans h1, h2, h3, h4.save hs (fun hn b o e hb => h8 hn b o e (hZ _ hb)), h5, fun g G hg => ?_, h7, h8⟩
  obtain ⟨k1, k2, k3⟩ := h6 g G hg
  exact ⟨(hs.block g (lt_of_block k1) (fun h => k3 (hZ _ h))).trans k1, k2, k3⟩

theorem Mod.later {w w' : World} {V : List Nat} {gm : Nat} {F : List (List Nat)} {A : List (Option (List (List Nat)))} {room : Nat} (h : Mod w V gm F A room) (hb : Below w.heap.size w w') : Mod w' V gm F A room :=
  h.save (Save.of_below hb []) (by simp)

theorem Mod.fresh {w : World} {V V' : List Nat} {gm : Nat} {F : List (List Nat)} {A : List (Option (List (List Nat)))} {room : Nat} (h : Mod w V gm F A room) (hV : ∀ k ∈ V', k < w.heap.size → k ∈ V) : Mod w V' gm F A room := by
  obtain ⟨a, n, c, U, h1, h2, h3, h4, h5, h6, h7, h8⟩ := h
  refine ⟨a, n, c, U, h1, h2, h3, h4, h5, fun g G hg => ?_, fun hm => h7 (hV _ hm (lt_of_block h1)), fun hn b o e hb => ?_⟩
  · obtain ⟨k1, k2, k3⟩ := h6 g G hg
    exact ⟨k1, k2, fun hm => k3 (hV _ hm (lt_of_block k1))⟩
  · obtain ⟨b', o', e', hc⟩ := h4.2 hn
    rw [e] at e'
    injection e' with e'
    injection e' with e1 e2
    subst e1
    exact h8 hn b o e (hV b hb (World.block_lt_of_cell? w _ (hc 0 hn)))

theorem Mod.ok {w : World} {V : List Nat} {gm : Nat} {F : List (List Nat)} {A : List (Option (List (List Nat)))} {room : Nat} (h : Mod w V gm F A room) : okF F ∧ ∀ G, some G ∈ A → okF G := by
  obtain ⟨a, n, c, U, h1, h2, h3, h4, h5, h6, h7, h8⟩ := h
  refine ⟨h2, fun G hG => ?_⟩
  have : some G ∈ U.map (fun x => x.map (·.2)) := by rw [h5]; exact List.mem_cons_of_mem _ hG
  obtain ⟨x, hx, hxe⟩ := List.mem_map.1 this
  rcases x with _ | ⟨g, G'⟩
  · cases hxe
  · simp only [Option.map_some, Option.some.injEq] at hxe
    subst hxe
    exact (h6 g G' hx).2.1

/-- The image of a number, as the document has it. -/
def lkM (F : List (List Nat)) (A : List (Option (List (List Nat)))) (x : Int) : Option (List (List Nat)) :=
  if x = 0 then some F else if x < 1 then none else (none :: A).getD x.toNat none

theorem getD_map {α β : Type} (f : α → β) (L : List α) (j : Nat) (d : α) (e : β) (h : f d = e) : (L.map f).getD j e = f (L.getD j d) := by
  rw [List.getD, List.getD, List.getElem?_map]
  cases L[j]? with
  | none => simp [h]
  | some x => rfl

theorem eql_imgp (g : Nat) (w : World) : (binOp .eql 84 (.pointer (some ⟨g, 0, none⟩)) (.pointer none)).run Tryz.prog w = .ok (.bool false) w := by
  have h : ∀ d : Nat, (Op.equalIn (d + 1) 84 (.pointer (some ⟨g, 0, none⟩)) (.pointer none)).run Tryz.prog w = .ok false w := fun d => by
    simp [Op.equalIn, run_underlying Tryz.underlying84]
  simp only [binOp]
  simp [Op.equal, Op.maxDepth, h 9999]

def imgV (G : List (List Nat)) : Value := .agg (cS G).toArray

/-- What image answers. -/
def imgAns (o : Option (List (List Nat))) : Value := .tuple #[imgV (o.getD (List.replicate 256 [])), .bool o.isSome]

set_option maxHeartbeats 1000000 in
theorem mimage_any (w : World) (V : List Nat) (gm : Nat) (F : List (List Nat)) (A : List (Option (List (List Nat)))) (room : Nat) (x : Int) (h : Mod w V gm F A room) (hA : A.length ≤ 1000) :
    Calls Tryz.prog 29 #[.pointer (some ⟨gm, 0, none⟩), .int .i64 x] w fun e w' => e = .returned (imgAns (lkM F A x)) ∧ Below w.heap.size w w' := by
  obtain ⟨a, n, c, U, h1, h2, h3, h4, h5, h6, h7, h8⟩ := h
  have hUl : U.length = n := h4.1
  have hn : n = A.length + 1 := by
    have := congrArg List.length h5
    simp only [List.length_map, List.length_cons] at this
    omega
  have H1 := Lib.hid h1
  have H2 := Lib.hid h2
  have H4 := Lib.hid h4
  have H5 := Lib.hid h5
  have H6 := Lib.hid h6
  have d256 := mod_row h1 h2.1
  have hgl := lt_of_block h1
  have HGL := Lib.hid hgl
  obtain ⟨g4, hg4⟩ : ∃ g4, g4 = w.heap.size := ⟨_, rfl⟩
  obtain ⟨w1, hw1⟩ : ∃ w1, w1 = w.alloc (arrObj (List.replicate 256 [])) := ⟨_, rfl⟩
  have HB1 : Hid (Below w.heap.size w w1) := Lib.hid (by rw [hw1]; exact Below.alloc0 _ _)
  have HA1 : Hid (w1.heap[g4]? = some (arrObj (List.replicate 256 []))) := Lib.hid (by rw [hw1, hg4]; exact heap_alloc_new _ _)
  have HG4 := Lib.hid hg4
  have e256 : w1.cell? ⟨gm, 256, none⟩ = some (.slice a n c) := by rw [hw1]; exact Lib.cell?_alloc_some _ d256
  have HM1 : Hid (w1.heap[gm]? = some (modObj F a n c room)) := Lib.hid ((HB1.out.block gm hgl).trans h1)
  clear h1 h2 h4 h6 h7 h8 d256 hgl
  by_cases hx0 : x = 0
  · subst hx0
    go_enter Tryz.func29, Tryz.ntmps29
    go_upto_region 1 with fail
    change Code.wp _ _ _ _ (w.alloc (arrObj (List.replicate 256 [])))
    rw [← hw1, ← hg4]
    clear hw1 hg4
    go_wp2_with (first
      | (refine wpList_load_mod rfl (.tmp 10) rfl rfl HM1.out H2.out.1 ?_)
      | (refine wpList_store_img rfl (.tmp 4) (.tmp 11) rfl g4 (List.replicate 256 []) F rfl rfl HA1.out List.length_replicate H2.out.1 ?_; intro w9 H9))
    refine bodyPost_ret (v := .tuple #[imgV F, .bool true]) ?_ rfl ⟨?_, ?_⟩
    · exact ret_img_tmp (p := 4) (u := 5) (g := g4) rfl rfl (by rw [H9.out]; exact put_same HA1.out) H2.out.1
    · simp [imgAns, lkM]
    · rw [H9.out]
      exact HB1.out.trans (put_below _ (by rw [HG4.out]; exact Nat.le_refl _))
  · have hx0' : (x == 0) = false := by simp [hx0]
    have hzl : (List.replicate 256 ([] : List Nat)).length = 256 := List.length_replicate
    obtain ⟨Z0, hZ0⟩ : ∃ Z0 : List (List Nat), Z0 = List.replicate 256 [] := ⟨_, rfl⟩
    have HZ0 := Lib.hid hZ0
    rw [← hZ0] at hzl hw1 HA1
    have HZL := Lib.hid hzl
    by_cases hsome : ∃ (j g : Nat) (G : List (List Nat)), x = (j : Int) ∧ 1 ≤ j ∧ j < n ∧ U.getD j none = some (g, G)
    · obtain ⟨j, g, G, rfl, hj1, hjn, hUj⟩ := hsome
      have hmem : some (g, G) ∈ U := by
        have : U.getD j none = U[j]'(by omega) := by simp [List.getD, show j < U.length by omega]
        rw [this] at hUj
        rw [← hUj]
        exact List.getElem_mem _
      obtain ⟨k1, k2, k3⟩ := H6.out g G hmem
      have HG1 : Hid (w1.heap[g]? = some (arrObj G)) := Lib.hid ((HB1.out.block g (lt_of_block k1)).trans k1)
      have HGl := Lib.hid k2.1
      obtain ⟨b, o, rfl, hc⟩ := H4.out.2 (by omega)
      have hcj := hc j hjn
      rw [hUj] at hcj
      have ecj : w1.cell? ⟨b, o + j, none⟩ = some (.pointer (some ⟨g, 0, none⟩)) := (HB1.out.cell (p := ⟨b, o + j, none⟩) (World.block_lt_of_cell? w _ (hc j hjn))).trans hcj
      have HLK : Hid (lkM F A (j : Int) = some G) := by
        refine Lib.hid ?_
        unfold lkM
        rw [if_neg (by omega), if_neg (by omega), ← H5.out, Int.toNat_natCast, getD_map _ _ _ none none rfl, hUj]
        rfl
      have heq := fun W => eql_imgp g W
      clear hmem k1 k2 k3 hc hcj hUj
      go_enter Tryz.func29, Tryz.ntmps29
      go_upto_region 1 with fail
      change Code.wp _ _ _ _ (w.alloc (arrObj (List.replicate 256 [])))
      rw [← hZ0, ← hw1, ← hg4]
      clear hw1 hg4 hZ0
      go_wp2_with (first
        | (refine wpList_load_img rfl (.tmp 41) rfl g G rfl HG1.out HGl.out ?_)
        | (refine wpList_store_img rfl (.tmp 4) (.tmp 42) rfl g4 Z0 G rfl rfl HA1.out HZL.out HGl.out ?_; intro w9 H9))
      refine bodyPost_ret (v := .tuple #[imgV G, .bool true]) ?_ rfl ⟨?_, ?_⟩
      · exact ret_img_tmp (p := 4) (u := 5) (g := g4) rfl rfl (by rw [H9.out]; exact put_same HA1.out) HGl.out
      · rw [HLK.out]; rfl
      · rw [H9.out]
        exact HB1.out.trans (put_below _ (by rw [HG4.out]; exact Nat.le_refl _))
    · have HLK : Hid (lkM F A x = none) := by
        refine Lib.hid ?_
        unfold lkM
        rw [if_neg hx0]
        by_cases h1 : x < 1
        · rw [if_pos h1]
        · rw [if_neg h1, ← H5.out, getD_map _ _ _ none none rfl]
          obtain ⟨j, rfl⟩ : ∃ j : Nat, x = (j : Int) := ⟨x.toNat, by omega⟩
          rw [Int.toNat_natCast]
          by_cases hjn : j < n
          · cases hU : U.getD j none with
            | none => rfl
            | some y => exact absurd ⟨j, y.1, y.2, rfl, by omega, hjn, hU⟩ hsome
          · rw [List.getD, List.getElem?_eq_none (by omega)]
            rfl
      by_cases h1 : x < 1
      · clear hsome
        go_enter Tryz.func29, Tryz.ntmps29
        go_upto_region 1 with fail
        change Code.wp _ _ _ _ (w.alloc (arrObj (List.replicate 256 [])))
        rw [← hZ0, ← hw1, ← hg4]
        clear hw1 hg4 hZ0
        go_wp2_with (refine wpList_store_img rfl (.tmp 4) (.tmp 33) rfl g4 Z0 Z0 rfl (by rw [HZ0.out]; exact congrArg Value.agg zero_img) HA1.out HZL.out HZL.out ?_; intro w9 H9)
        refine bodyPost_ret (v := .tuple #[imgV Z0, .bool false]) ?_ rfl ⟨?_, ?_⟩
        · exact ret_img_tmp (p := 4) (u := 5) (g := g4) rfl rfl (by rw [H9.out]; exact put_same HA1.out) HZL.out
        · rw [HLK.out, HZ0.out]; rfl
        · rw [H9.out]
          exact HB1.out.trans (put_below _ (by rw [HG4.out]; exact Nat.le_refl _))
      · obtain ⟨j, rfl⟩ : ∃ j : Nat, x = (j : Int) := ⟨x.toNat, by omega⟩
        have h1' : decide ((j : Int) < 1) = false := by simp; omega
        by_cases hjn : j < n
        · have hU : U.getD j none = none := by
            cases hU : U.getD j none with
            | none => rfl
            | some y => exact absurd ⟨j, y.1, y.2, rfl, by omega, hjn, hU⟩ hsome
          obtain ⟨b, o, rfl, hc⟩ := H4.out.2 (by omega)
          have hcj := hc j hjn
          rw [hU] at hcj
          have ecj : w1.cell? ⟨b, o + j, none⟩ = some (.pointer none) := (HB1.out.cell (p := ⟨b, o + j, none⟩) (World.block_lt_of_cell? w _ (hc j hjn))).trans hcj
          have hj1 : 1 ≤ j := by omega
          clear hsome hU hc hcj h1
          go_enter Tryz.func29, Tryz.ntmps29
          go_upto_region 1 with fail
          change Code.wp _ _ _ _ (w.alloc (arrObj (List.replicate 256 [])))
          rw [← hZ0, ← hw1, ← hg4]
          clear hw1 hg4 hZ0
          go_wp2_with (refine wpList_store_img rfl (.tmp 4) (.tmp 33) rfl g4 Z0 Z0 rfl (by rw [HZ0.out]; exact congrArg Value.agg zero_img) HA1.out HZL.out HZL.out ?_; intro w9 H9)
          refine bodyPost_ret (v := .tuple #[imgV Z0, .bool false]) ?_ rfl ⟨?_, ?_⟩
          · exact ret_img_tmp (p := 4) (u := 5) (g := g4) rfl rfl (by rw [H9.out]; exact put_same HA1.out) HZL.out
          · rw [HLK.out, HZ0.out]; rfl
          · rw [H9.out]
            exact HB1.out.trans (put_below _ (by rw [HG4.out]; exact Nat.le_refl _))
        · have hjn' : (n : Int) ≤ (j : Int) := by omega
          clear hsome h1 hjn
          go_enter Tryz.func29, Tryz.ntmps29
          go_upto_region 1 with fail
          change Code.wp _ _ _ _ (w.alloc (arrObj (List.replicate 256 [])))
          rw [← hZ0, ← hw1, ← hg4]
          clear hw1 hg4 hZ0
          go_wp2_with (refine wpList_store_img rfl (.tmp 4) (.tmp 33) rfl g4 Z0 Z0 rfl (by rw [HZ0.out]; exact congrArg Value.agg zero_img) HA1.out HZL.out HZL.out ?_; intro w9 H9)
          refine bodyPost_ret (v := .tuple #[imgV Z0, .bool false]) ?_ rfl ⟨?_, ?_⟩
          · exact ret_img_tmp (p := 4) (u := 5) (g := g4) rfl rfl (by rw [H9.out]; exact put_same HA1.out) HZL.out
          · rw [HLK.out, HZ0.out]; rfl
          · rw [H9.out]
            exact HB1.out.trans (put_below _ (by rw [HG4.out]; exact Nat.le_refl _))

end Go.Proofs.YtaijjogjohbheaaGreat

/- How many snapshots the document's store has; its copy. -/
namespace Go.Proofs.YtaijjogjohbheaaGreat
open Go.RowKit
set_option maxRecDepth 100000
set_option linter.unusedSimpArgs false

theorem snapsF_length (i : Nat) (A : List (Option (List (List Nat)))) : (snapsF i A).length = A.countP (·.isSome) := by
  induction A generalizing i with
  | nil => rfl
  | cons x A ih =>
    cases x with
    | none => simp [snapsF, ih]
    | some F => simp [snapsF, ih]

theorem countU (U : List Mu) : (U.map (fun x => x.map (·.2))).countP (·.isSome) = U.countP (·.isSome) := by
  rw [List.countP_map]
  congr 1
  funext x
  cases x <;> rfl

theorem neq_imgp (g : Nat) (w : World) : (binOp .neq 84 (.pointer (some ⟨g, 0, none⟩)) (.pointer none)).run Tryz.prog w = .ok (.bool true) w := by
  have h : ∀ d : Nat, (Op.equalIn (d + 1) 84 (.pointer (some ⟨g, 0, none⟩)) (.pointer none)).run Tryz.prog w = .ok false w := fun d => by
    simp [Op.equalIn, run_underlying Tryz.underlying84]
  simp only [binOp]
  simp [Op.equal, Op.maxDepth, h 9999]

theorem take_mu {U : List Mu} {j : Nat} (hj : j < U.length) : U.take (j + 1) = U.take j ++ [U.getD j none] := by
  rw [List.take_succ_eq_append_getElem hj]
  congr 2
  simp [List.getD, hj]

set_option maxHeartbeats 1000000 in
theorem mcount_any (w : World) (V : List Nat) (gm : Nat) (F : List (List Nat)) (A : List (Option (List (List Nat)))) (room : Nat) (h : Mod w V gm F A room) (hA : A.length ≤ 1000) :
    Calls Tryz.prog 28 #[.pointer (some ⟨gm, 0, none⟩)] w fun e w' => e = .returned (.int .i64 ((snapsF 1 A).length : Int)) ∧ w' = w := by
  obtain ⟨a, n, c, U, h1, h2, h3, h4, h5, h6, h7, h8⟩ := h
  have hUl : U.length = n := h4.1
  have hn : n = A.length + 1 := by
    have := congrArg List.length h5
    simp only [List.length_map, List.length_cons] at this
    omega
  have hcnt : U.countP (·.isSome) = (snapsF 1 A).length := by
    rw [snapsF_length, ← countU, h5, List.countP_cons_of_neg (by simp)]
  have HC := Lib.hid hcnt
  have H4 := Lib.hid h4
  have HUl := Lib.hid hUl
  have hn2 : n ≤ 1001 := by omega
  have d256 := mod_row h1 h2.1
  clear h1 h2 h3 h4 h5 h6 h7 h8 hcnt hn hUl
  go_enter Tryz.func28, Tryz.ntmps28
  go_wp2
  go_loopg [3, 11] n (fun k s i wr => ∃ (j q : Nat), k = n - j ∧ j ≤ n ∧ i = .int .i64 (j : Int) ∧ s = .int .i64 (q : Int) ∧ q ≤ j ∧ Hid (q = (U.take j).countP (·.isSome)) ∧ wr = w)
  case atStart => exact ⟨0, 0, rfl, Nat.zero_le _, rfl, rfl, Nat.le_refl _, Lib.hid (by simp), rfl⟩
  case round =>
    obtain ⟨j, q, hk, hj, rfl, rfl, hqj, HQ, rfl⟩ := hrel
    have HK := Lib.hid hk
    clear hk
    by_cases hlt : j < n
    · obtain ⟨b, o, rfl, hc⟩ := H4.out.2 (by omega)
      have hcj := hc j hlt
      have htk := take_mu (U := U) (j := j) (by rw [HUl.out]; exact hlt)
      clear hc
      cases hU : U.getD j none with
      | none =>
        rw [hU] at hcj htk
        simp only [pQ, Option.map_none] at hcj
        have HQ2 : Hid (q = (U.take (j + 1)).countP (·.isSome)) := Lib.hid (by rw [htk, List.countP_append, ← HQ.out]; simp)
        clear hU htk
        go_wp2
        go_roundg (n - (j + 1))
        case measure => have := HK.out; omega
        case rel => exact ⟨j + 1, q, rfl, by omega, by go_num, rfl, by omega, HQ2, rfl⟩
      | some y =>
        obtain ⟨g, G⟩ := y
        rw [hU] at hcj htk
        simp only [pQ, Option.map_some] at hcj
        have HQ2 : Hid (q + 1 = (U.take (j + 1)).countP (·.isSome)) := Lib.hid (by rw [htk, List.countP_append, ← HQ.out]; simp)
        have hne := fun W => neq_imgp g W
        clear hU htk
        go_wp2
        go_roundg (n - (j + 1))
        case measure => have := HK.out; omega
        case rel => exact ⟨j + 1, q + 1, rfl, by omega, by go_num, by go_num, by omega, HQ2, rfl⟩
    · obtain rfl : j = n := by omega
      go_wp2
      go_ret
      refine ⟨?_, rfl⟩
      have := HQ.out
      rw [List.take_of_length_le (by rw [HUl.out]; exact Nat.le_refl _), HC.out] at this
      rw [this]
      rfl

end Go.Proofs.YtaijjogjohbheaaGreat
