/- Rows of the document's records: what a slice of them reads as; a row of the call's own, and one more behind it. -/
import Derived.Test.YtaijldcfoaeogaaGreatGRcRowToRcLives
import Derived.Test.YtaijldcfoaeogaaGreatRcValid
namespace Go.Proofs.YtaijldcfoaeogaaGreat
open Go.RowKit
set_option maxRecDepth 100000
set_option linter.unusedSimpArgs false

/-- A record's cells, in the document. -/
def prL (x : Rec) : List Value := [.int .u8 (x.k : Int), .int .i64 x.i, .int .i64 x.b, .int .i64 x.f, .int .i64 x.t, .string (strB x.l), .int .i64 x.c, .int .u64 (x.n : Int), .int .u64 (x.s : Int)]

def cPr (L : List Rec) : List Value := L.flatMap prL

theorem cPr_append (A B : List Rec) : cPr (A ++ B) = cPr A ++ cPr B := by simp [cPr]

theorem cPr_length (L : List Rec) : (cPr L).length = L.length * 9 := by
  induction L with
  | nil => rfl
  | cons r L ih =>
    have e : cPr (r :: L) = prL r ++ cPr L := by simp [cPr]
    rw [e, List.length_append, ih]
    simp [prL]
    omega

theorem cPr_one (L : List Rec) : ∀ u ∈ cPr L, u.oneCell' = true := by
  intro u hu
  simp only [cPr, List.mem_flatMap] at hu
  obtain ⟨x, _, hx⟩ := hu
  simp only [prL, List.mem_cons, List.not_mem_nil, or_false] at hx
  rcases hx with rfl | rfl | rfl | rfl | rfl | rfl | rfl | rfl | rfl <;> rfl

theorem cPr_get (L : List Rec) : ∀ (j t : Nat), j < L.length → t < 9 → (cPr L)[j * 9 + t]? = (prL (L.getD j default))[t]? := by
  induction L with
  | nil => intro j t h; simp at h
  | cons r L ih =>
    intro j t hj ht
    have e : cPr (r :: L) = prL r ++ cPr L := by simp [cPr]
    have hl : (prL r).length = 9 := rfl
    rw [e]
    cases j with
    | zero =>
      rw [List.getElem?_append_left (by rw [hl]; omega)]
      simp
    | succ j =>
      rw [List.getElem?_append_right (by rw [hl]; omega), hl]
      have := ih j t (by simpa using hj) ht
      have e2 : (j + 1) * 9 + t - 9 = j * 9 + t := by omega
      rw [e2, this]
      simp

/-- The slice '.slice a n _' reads as the document's records L. -/
structure RdP (w : World) (a : Option Addr) (n : Nat) (L : List Rec) : Prop where
  len : L.length = n
  cells : 0 < n → ∃ b o, a = some ⟨b, o, none⟩ ∧ ∀ j t, j < n → t < 9 → w.cell? ⟨b, o + j * 9 + t, none⟩ = (prL (L.getD j default))[t]?

theorem prL_some (x : Rec) {t : Nat} (ht : t < 9) : ∃ v, (prL x)[t]? = some v := by
  have : t < (prL x).length := ht
  exact ⟨_, List.getElem?_eq_getElem this⟩

theorem RdP.blk {w w' : World} {a : Option Addr} {n : Nat} {L : List Rec} (h : RdP w a n L) (hk : ∀ b o, a = some ⟨b, o, none⟩ → 0 < n → w'.heap[b]? = w.heap[b]?) : RdP w' a n L := by
  refine ⟨h.len, fun hn => ?_⟩
  obtain ⟨b, o, rfl, hc⟩ := h.cells hn
  refine ⟨b, o, rfl, fun j t hj ht => ?_⟩
  exact (World.cell?_of_block (w := w) (hk b o rfl hn)).trans (hc j t hj ht)

theorem RdP.in_ {w : World} {b o n : Nat} {L : List Rec} (h : RdP w (some ⟨b, o, none⟩) n L) (hn : 0 < n) : b < w.heap.size := by
  obtain ⟨b', o', e, hc⟩ := h.cells hn
  injection e with e
  injection e with e1 e2
  subst e1
  obtain ⟨v, hv⟩ := prL_some (L.getD 0 default) (t := 0) (by omega)
  have := hc 0 0 hn (by omega)
  rw [hv] at this
  exact World.block_lt_of_cell? w _ this

theorem RdP.later {w w' : World} {a : Option Addr} {n : Nat} {L : List Rec} (h : RdP w a n L) (hb : Below w.heap.size w w') : RdP w' a n L :=
  h.blk fun b o e hn => hb.block b (by rw [e] at h; exact h.in_ hn)

/-- The nine cells of record j. -/
theorem RdP.at_ {w : World} {a : Option Addr} {n : Nat} {L : List Rec} (h : RdP w a n L) {j : Nat} (hj : j < n) :
    ∃ b o x, a = some ⟨b, o, none⟩ ∧ x = L.getD j default ∧ x ∈ L ∧ ∀ t v, (prL x)[t]? = some v → w.cell? ⟨b, o + j * 9 + t, none⟩ = some v := by
  obtain ⟨b, o, rfl, hc⟩ := h.cells (by omega)
  have hjl : j < L.length := by rw [h.len]; exact hj
  have hm : L.getD j default ∈ L := by simp [List.getD, hjl]
  refine ⟨b, o, _, rfl, rfl, hm, fun t v hv => ?_⟩
  have ht : t < 9 := (List.getElem?_eq_some_iff.1 hv).1
  rw [hc j t hj ht, hv]

/-- Without the first. -/
theorem RdP.tail {w : World} {a : Option Addr} {n : Nat} {L : List Rec} (h : RdP w a (n + 1) L) {b o : Nat} (ha : a = some ⟨b, o, none⟩) : RdP w (some ⟨b, o + 9, none⟩) n L.tail := by
  refine ⟨by have := h.len; simp; omega, fun _ => ⟨b, o + 9, rfl, fun j t hj ht => ?_⟩⟩
  obtain ⟨b', o', he, hc⟩ := h.cells (by omega)
  rw [ha] at he
  injection he with he
  injection he with e1 e2
  subst e1
  subst e2
  have := hc (j + 1) t (by omega) ht
  have e3 : o + (j + 1) * 9 + t = o + 9 + j * 9 + t := by omega
  rw [e3] at this
  rw [this]
  have hl := h.len
  cases L with
  | nil => simp at hl
  | cons r L => simp

def OwnP (w : World) (base : Nat) (v : Value) (L : List Rec) : Prop := w.ownsRow base 50 9 v L.length (cPr L)

theorem OwnP.nil (w : World) (base : Nat) : OwnP w base (.slice none 0 0) [] := World.ownsRow_nil _ _ _ _

theorem OwnP.rd {w : World} {base : Nat} {v : Value} {L : List Rec} (h : OwnP w base v L) : ∃ a c, v = .slice a L.length c ∧ L.length ≤ c ∧ RdP w a L.length L ∧ ∀ b o, a = some ⟨b, o, none⟩ → base ≤ b := by
  have h0 := h
  rcases h.2 with ⟨rfl, h1⟩ | ⟨g, cap, cur, rfl, hb, _, hcap, _⟩
  · have : L = [] := List.eq_nil_of_length_eq_zero h1
    subst this
    exact ⟨none, 0, rfl, Nat.le_refl _, ⟨rfl, by simp⟩, by simp⟩
  · refine ⟨_, _, rfl, hcap, ⟨rfl, fun _ => ⟨g, 0, rfl, fun j t hj ht => ?_⟩⟩, fun b o e => by injection e with e; injection e with e1 e2; omega⟩
    have hc := World.ownsRow.cells h0 (g := g) rfl
    obtain ⟨u, hu⟩ := prL_some (L.getD j default) ht
    have hd := cPr_get L j t hj ht
    rw [hu] at hd ⊢
    have := hc _ _ hd
    rw [add_plain] at this
    simp only [Nat.add_assoc] at this ⊢
    exact this

theorem info_pr : (Tryz.prog.info? 50).map (fun i => (i.zero, i.size, i.bytes)) = some (some (.agg #[.int .u8 0, .int .i64 0, .int .i64 0, .int .i64 0, .int .i64 0, .string ⟨#[]⟩, .int .i64 0, .int .u64 0, .int .u64 0]), 9, 80) := by kernel_rfl

theorem run_append_p (w : World) (base : Nat) (v : Value) (L : List Rec) (ho : OwnP w base v L) (hbase : base ≤ w.heap.size) (A : Addr) (c : Nat) (x : Rec) (hr : ∀ t u, (prL x)[t]? = some u → w.cell? (A.add t) = some u) (hn : L.length ≤ 1000000) (ty : TypeId) :
    ∃ v' w', (Builtin.append_ #[35, 35] ty #[v, .slice (some A) 1 c]).run Tryz.prog w = .ok v' w' ∧ OwnP w' base v' (L ++ [x]) ∧ w.grownBy w' v.ownBlock ∧ (v'.ownBlock = v.ownBlock ∨ v'.ownBlock = some w.heap.size) := by
  obtain ⟨i0, hi0, hz0, hz1, hz2⟩ := info_parts info_pr
  obtain ⟨v', w', hrun, h1, h2, h3, h4⟩ := run_append_own_at (P := Tryz.prog) w base 35 ty 50 i0 _ 9 80 Tryz.underlying35 hi0 hz0 hz1 hz2 rfl (by omega) v L.length (cPr L) ho A 1 c (prL x) rfl hr (fun u hu => cPr_one [x] u (by simpa [cPr] using hu)) (by unfold maxLen; omega) (by omega) hbase
  refine ⟨v', w', hrun, ?_, h2, h4⟩
  unfold OwnP
  rw [cPr_append, List.length_append]
  simpa [cPr] using h1

theorem wpList_append_p {w : World} {ops : Array Oper} {rest : List Oper} {o : Oper} {a : Act} {Q : Exit → Act → World → Prop} (hgd : o.guard = none) (s x : Operand)
    (hop : o.op = .call { callee := .builtin .append, args := #[s, x], argTypes := #[35, 35] }) (v : Value) (hs : a.eval s = v) (A : Addr) (c : Nat) (hx : a.eval x = .slice (some A) 1 c)
    (base : Nat) (L : List Rec) (ho : OwnP w base v L) (hbase : base ≤ w.heap.size) (e : Rec) (hr : ∀ t u, (prL e)[t]? = some u → w.cell? (A.add t) = some u) (hn : L.length ≤ 1000000)
    (h : ∀ v' w', OwnP w' base v' (L ++ [e]) → w.grownBy w' v.ownBlock → (v'.ownBlock = v.ownBlock ∨ v'.ownBlock = some w.heap.size) → wpList Tryz.prog ops Q rest (a.put o.dst v') w') :
    wpList Tryz.prog ops Q (o :: rest) a w := by
  refine wpList_plain hgd fun K hK => ?_
  obtain ⟨v', w', hrun, h1, h2, h3⟩ := run_append_p w base v L ho hbase A c e hr hn o.type
  unfold Oper.wp execOp
  simp only [hop, resolve, invoke, builtin, Sem.run_bind, Sem.run_pure, Result.andThen_ok, List.map_toArray, List.map_cons, List.map_nil, hs, hx, hrun]
  exact hK _ _ (h v' w' h1 h2 h3)

end Go.Proofs.YtaijldcfoaeogaaGreat

/- The document's own Right: may a record be? Over any world. -/
namespace Go.Proofs.YtaijldcfoaeogaaGreat
open Go.RowKit
set_option maxRecDepth 100000
set_option linter.unusedSimpArgs false

/-- Two records of the document compared. -/
theorem wpList_eql_rec {w : World} {ops : Array Oper} {rest : List Oper} {o : Oper} {a : Act} {Q : Exit → Act → World → Prop} (hgd : o.guard = none) (s x : Operand) (ty : TypeId)
    (hop : o.op = .binOp .eql 50 s x ty) (X Y : Rec) (hs : a.eval s = pcV X) (hx : a.eval x = pcV Y) (hX : ∀ z ∈ X.l, z < 256) (hY : ∀ z ∈ Y.l, z < 256) (E : Bool) (hE : X.eq Y = E)
    (h : wpList Tryz.prog ops Q rest (a.put o.dst (.bool E)) w) : wpList Tryz.prog ops Q (o :: rest) a w := by
  refine wpList_plain hgd fun K hK => ?_
  have hr := eql_rec X Y hX hY w
  have hg : (eqGuard .eql 50 s x (pcV X) (pcV Y)).run Tryz.prog w = .ok () w := run_eqGuard_agg w .eql _ s x _ _ (by kernel_rfl)
  rw [hE] at hr
  unfold Oper.wp execOp
  simp only [hop, hs, hx, Sem.run_bind, hg, hr, Result.andThen_ok, Sem.run_pure]
  exact hK _ _ h

/-- A number below a great one. -/
theorem wpList_lss {w : World} {ops : Array Oper} {rest : List Oper} {o : Oper} {a : Act} {Q : Exit → Act → World → Prop} (s x : Operand) (ty ty2 : TypeId) (u v : Int)
    (hop : o.op = .binOp .lss ty s x ty2) (hw : Region.wanted o (yielded ops a.tmps) = true) (hs : a.eval s = .int .u64 u) (hx : a.eval x = .int .u64 v) (B : Bool) (hB : decide (u < v) = B)
    (h : wpList Tryz.prog ops Q rest (a.put o.dst (.bool B)) w) : wpList Tryz.prog ops Q (o :: rest) a w := by
  refine wpList_step fun K hK => ?_
  rw [if_pos hw]
  unfold Oper.wp execOp
  simp only [hop, hs, hx]
  go_simp
  exact hK _ _ h

end Go.Proofs.YtaijldcfoaeogaaGreat

/- The document's own Right, of a Head, of a Hole; over any world. -/
namespace Go.Proofs.YtaijldcfoaeogaaGreat
open Go.RowKit
set_option maxRecDepth 100000
set_option linter.unusedSimpArgs false

set_option maxHeartbeats 2000000 in
set_option maxRecDepth 100000 in
theorem right_head (i b f t c : Int) (l : List Nat) (dn ds : Nat) (w : World) (hl : ∀ z ∈ l, z < 256) :
    Calls Tryz.prog 76 #[pcV ⟨1, i, b, f, t, l, c, dn, ds⟩] w fun e w' => e = .returned (.bool (Rec.ok ⟨1, i, b, f, t, l, c, dn, ds⟩)) ∧ Below w.heap.size w w' := by
  obtain ⟨OK, hOK⟩ : ∃ OK, OK = Rec.ok ⟨1, i, b, f, t, l, c, dn, ds⟩ := ⟨_, rfl⟩
  rw [← hOK]
  obtain ⟨E, hE⟩ : ∃ E, E = Rec.eq ⟨1, i, b, f, t, l, c, dn, ds⟩ ⟨1, i, b, 0, 0, [], 0, 0, 0⟩ := ⟨_, rfl⟩
  have hok : OK = (isNum i && (isNum b && E)) := by rw [hOK, hE]; simp [Rec.ok]
  have HE := Lib.hid hE.symm
  have HOK := Lib.hid hok
  have HL := Lib.hid hl
  clear hOK hE hok hl
  simp only [pcV]
  go_enter Tryz.func76, Tryz.ntmps76
  go_wp2_with (first | (refine wpList_eql_rec rfl (.tmp 19) (.tmp 20) 50 rfl ⟨1, i, b, f, t, l, c, dn, ds⟩ ⟨1, i, b, 0, 0, [], 0, 0, 0⟩ rfl rfl HL.out (by simp) E HE.out ?_))
  all_goals
    go_ret
    refine ⟨ret_bool ?_, ((Below.refl _ _).alloc (Nat.le_refl _) _).alloc (by simp) _⟩
    rw [HOK.out]
    clear HE HL HOK
    first
      | (simp [isNum, *]; done)
      | (simp [isNum, *]; omega)
      | (simp_all [isNum]; done)
      | (simp_all [isNum]; omega)

set_option maxHeartbeats 2000000 in
set_option maxRecDepth 100000 in
theorem right_hole (i b f t c : Int) (l : List Nat) (dn ds : Nat) (w : World) (hl : ∀ z ∈ l, z < 256) :
    Calls Tryz.prog 76 #[pcV ⟨3, i, b, f, t, l, c, dn, ds⟩] w fun e w' => e = .returned (.bool (Rec.ok ⟨3, i, b, f, t, l, c, dn, ds⟩)) ∧ Below w.heap.size w w' := by
  obtain ⟨OK, hOK⟩ : ∃ OK, OK = Rec.ok ⟨3, i, b, f, t, l, c, dn, ds⟩ := ⟨_, rfl⟩
  rw [← hOK]
  obtain ⟨E, hE⟩ : ∃ E, E = Rec.eq ⟨3, i, b, f, t, l, c, dn, ds⟩ ⟨3, 0, 0, f, t, [], 0, 0, 0⟩ := ⟨_, rfl⟩
  have hok : OK = (isRunB f t && E) := by rw [hOK, hE]; simp [Rec.ok]
  have HE := Lib.hid hE.symm
  have HOK := Lib.hid hok
  have HL := Lib.hid hl
  clear hOK hE hok hl
  simp only [pcV]
  go_enter Tryz.func76, Tryz.ntmps76
  go_wp2_with (first | (refine wpList_eql_rec rfl (.tmp 102) (.tmp 103) 50 rfl ⟨3, i, b, f, t, l, c, dn, ds⟩ ⟨3, 0, 0, f, t, [], 0, 0, 0⟩ rfl rfl HL.out (by simp) E HE.out ?_))
  all_goals
    go_ret
    refine ⟨ret_bool ?_, ((Below.refl _ _).alloc (Nat.le_refl _) _).alloc (by simp) _⟩
    rw [HOK.out]
    clear HE HL HOK
    first
      | (simp [isRunB, *]; done)
      | (simp [isRunB, *]; omega)
      | (simp_all [isRunB]; done)
      | (simp_all [isRunB]; omega)

end Go.Proofs.YtaijldcfoaeogaaGreat
