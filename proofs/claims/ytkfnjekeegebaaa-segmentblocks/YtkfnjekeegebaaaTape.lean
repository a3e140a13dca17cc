/- A tape in memory: its block, its power, its sets, its pieces; Place, Len, used, isMark. -/
import Derived.Test.YtkfnjekeegebaaaTSet
import Derived.Test.YtkfnjekeegebaaaClone
import Derived.BigQuiet
import Derived.Deep.DeepCutAuto
import Derived.Deep.RegionHeld3
namespace Go.Proofs.Ytkfnjekeegebaaa
open Go.RowKit
set_option linter.unusedSimpArgs false

/-- A tape's state: room, how much ahead of the end it warns, the places that can't be written and read, the pieces (no bytes: a mark), the position. -/
structure Tst where
  room : Nat
  early : Nat
  nw : List Int
  nr : List Int
  P : List (List Nat)
  pos : Nat

/-- How many bytes pieces occupy. -/
def usedOf (P : List (List Nat)) : Nat := (P.map fun l => 4 + l.length).sum

theorem usedOf_nil : usedOf [] = 0 := rfl
theorem usedOf_append (P Q : List (List Nat)) : usedOf (P ++ Q) = usedOf P + usedOf Q := by simp [usedOf]
theorem usedOf_one (l : List Nat) : usedOf [l] = 4 + l.length := by simp [usedOf]
theorem usedOf_snoc (P : List (List Nat)) (l : List Nat) : usedOf (P ++ [l]) = usedOf P + (4 + l.length) := by rw [usedOf_append, usedOf_one]
theorem usedOf_take_le (P : List (List Nat)) (k : Nat) : usedOf (P.take k) ≤ usedOf P := by
  have := usedOf_append (P.take k) (P.drop k)
  rw [List.take_append_drop] at this
  omega
theorem usedOf_len (P : List (List Nat)) : 4 * P.length ≤ usedOf P := by
  induction P with
  | nil => simp
  | cons a r ih =>
    have : usedOf (a :: r) = (4 + a.length) + usedOf r := by simp [usedOf]
    rw [this, List.length_cons]
    omega

def Tst.used (t : Tst) : Nat := usedOf (t.P.take t.pos)

/-- A piece as it lies: where its bytes are, and how much room they have, the bytes, where it ends. -/
structure PC where
  a : Option Addr
  c : Nat
  l : List Nat
  e : Nat

def pcC (p : PC) : List Value := [.slice p.a p.l.length p.c, .int .i64 (p.e : Int)]

def cP : List PC → List Value
  | [] => []
  | p :: r => pcC p ++ cP r

theorem cP_append (X Y : List PC) : cP (X ++ Y) = cP X ++ cP Y := by
  induction X with
  | nil => rfl
  | cons p r ih => simp [cP, ih]

theorem cP_length (X : List PC) : (cP X).length = X.length * 2 := by
  induction X with
  | nil => rfl
  | cons p r ih => simp [cP, pcC, ih]; omega

theorem cP_one (X : List PC) : ∀ u ∈ cP X, u.oneCell' = true := by
  induction X with
  | nil => simp [cP]
  | cons p r ih =>
    intro u hu
    simp only [cP, pcC, List.cons_append, List.nil_append, List.mem_cons] at hu
    rcases hu with rfl | rfl | hu
    · rfl
    · rfl
    · exact ih u hu

def PC.none : PC := ⟨.none, 0, [], 0⟩

theorem cP_get (X : List PC) (i : Nat) (h : i < X.length) : (cP X)[i * 2]? = some (.slice (X.getD i PC.none).a (X.getD i PC.none).l.length (X.getD i PC.none).c) ∧ (cP X)[i * 2 + 1]? = some (.int .i64 ((X.getD i PC.none).e : Int)) := by
  induction X generalizing i with
  | nil => simp at h
  | cons p r ih =>
    cases i with
    | zero => exact ⟨rfl, rfl⟩
    | succ i =>
      have h' : i < r.length := by simpa using h
      have e1 : (i + 1) * 2 = i * 2 + 2 := by omega
      rw [e1]
      have := ih i h'
      simpa [cP, pcC, List.getD] using this

theorem cP_take (X : List PC) (k : Nat) : (cP X).take (k * 2) = cP (X.take k) := by
  induction X generalizing k with
  | nil => simp [cP]
  | cons p r ih =>
    cases k with
    | zero => simp [cP]
    | succ k =>
      have e1 : (k + 1) * 2 = k * 2 + 2 := by omega
      rw [e1]
      simp [cP, pcC, ih]

def tapObj (gp room early bW bR : Nat) (v : Value) (pos : Nat) : Obj :=
  .cells #[.pointer (some ⟨gp, 0, none⟩), .int .i64 (room : Int), .int .i64 (early : Int), .map (some bW), .map (some bR), v, .int .i64 (pos : Int)] 80 (0, 0)

/-- Block gt is a tape in state t, with the power in block gp, in state s; its pieces are the value v, the row X; all blocks of its own are in F. -/
structure Tp (w : World) (gt gp : Nat) (s : Pw) (t : Tst) (F : List Nat) (v : Value) (X : List PC) (bW bR : Nat) : Prop where
  obj : w.heap[gt]? = some (tapObj gp t.room t.early bW bR v t.pos)
  pow : Pow w gp s
  mw : SetM w bW t.nw
  mr : SetM w bR t.nr
  row : w.ownsRow 0 99 2 v X.length (cP X)
  pcs : ∀ p ∈ X, Rd w p.a p.l.length p.l ∧ p.l.length ≤ p.c ∧ (0 < p.l.length → ∀ b o, p.a = some ⟨b, o, none⟩ → b ∈ F ∧ b ≠ gt ∧ v.ownBlock ≠ some b)
  lst : X.map PC.l = t.P
  ends : ∀ i, i < X.length → (X.getD i PC.none).e = usedOf (t.P.take (i + 1))
  pos_le : t.pos ≤ t.P.length
  fits : usedOf t.P ≤ t.room
  roomle : t.room ≤ 16777216
  earlyle : t.early ≤ t.room
  ft : gt ∈ F
  fw : bW ∈ F
  fr : bR ∈ F
  fv : ∀ g, v.ownBlock = some g → g ∈ F
  fp : gp ∉ F
  fl : ∀ k ∈ F, k < w.heap.size

/-- A tape. -/
def Tap (w : World) (gt gp : Nat) (s : Pw) (t : Tst) (F : List Nat) : Prop := ∃ v X bW bR, Tp w gt gp s t F v X bW bR

theorem Tp.len {w : World} {gt gp : Nat} {s : Pw} {t : Tst} {F : List Nat} {v : Value} {X : List PC} {bW bR : Nat} (h : Tp w gt gp s t F v X bW bR) : X.length = t.P.length := by rw [← h.lst]; simp

theorem Tp.cells {w : World} {gt gp : Nat} {s : Pw} {t : Tst} {F : List Nat} {v : Value} {X : List PC} {bW bR : Nat} (h : Tp w gt gp s t F v X bW bR) :
    w.cell? ⟨gt, 0, none⟩ = some (.pointer (some ⟨gp, 0, none⟩)) ∧ w.cell? ⟨gt, 1, none⟩ = some (.int .i64 (t.room : Int)) ∧ w.cell? ⟨gt, 2, none⟩ = some (.int .i64 (t.early : Int)) ∧ w.cell? ⟨gt, 3, none⟩ = some (.map (some bW)) ∧ w.cell? ⟨gt, 4, none⟩ = some (.map (some bR)) ∧ w.cell? ⟨gt, 5, none⟩ = some v ∧ w.cell? ⟨gt, 6, none⟩ = some (.int .i64 (t.pos : Int)) := by
  refine ⟨?_, ?_, ?_, ?_, ?_, ?_, ?_⟩ <;> rw [cell_of_row w gt _ _ 80 (0, 0) h.obj] <;> rfl

theorem Tp.soft {w : World} {gt gp : Nat} {s : Pw} {t : Tst} {F : List Nat} {v : Value} {X : List PC} {bW bR : Nat} (h : Tp w gt gp s t F v X bW bR) (i : Nat) : w.frozen? ⟨gt, i, none⟩ = false := by
  simp [World.frozen?, h.obj, tapObj]

theorem Tp.shape {w : World} {gt gp : Nat} {s : Pw} {t : Tst} {F : List Nat} {v : Value} {X : List PC} {bW bR : Nat} (h : Tp w gt gp s t F v X bW bR) :
    ∃ a c, v = .slice a t.P.length c ∧ t.P.length ≤ c ∧ (0 < t.P.length → ∃ g cur, a = some ⟨g, 0, none⟩ ∧ w.heap[g]? = some (.cells cur 99 (0, 0)) ∧ c ≤ maxLen ∧ cur.size = c * 2 ∧ cur.toList.take (t.P.length * 2) = cP X) := by
  rcases h.row.2 with ⟨rfl, hl⟩ | ⟨g, cap, cur, rfl, _, hg, hc, hm, hs, ht⟩
  · rw [h.len] at hl
    rw [hl]
    exact ⟨none, 0, rfl, Nat.le_refl _, by omega⟩
  · rw [h.len] at hc ht ⊢
    exact ⟨_, cap, rfl, hc, fun _ => ⟨g, cur, rfl, hg, hm, hs, ht⟩⟩

theorem Tp.kept {w w' : World} {gt gp : Nat} {s : Pw} {t : Tst} {F : List Nat} {v : Value} {X : List PC} {bW bR : Nat} (h : Tp w gt gp s t F v X bW bR) {s' : Pw} (hsz : w.heap.size ≤ w'.heap.size) (hF : ∀ k ∈ F, k < w.heap.size → w'.heap[k]? = w.heap[k]?) (hp : Pow w' gp s') : Tp w' gt gp s' t F v X bW bR := by
  refine { h with obj := ?_, pow := ?_, mw := ?_, mr := ?_, row := ?_, pcs := ?_, fl := fun k hk => Nat.lt_of_lt_of_le (h.fl k hk) hsz }
  · exact (hF gt h.ft (lt_of_block h.obj)).trans h.obj
  · exact hp
  · exact h.mw.kept (hF bW h.fw h.mw.lt)
  · exact h.mr.kept (hF bR h.fr h.mr.lt)
  · obtain ⟨h0, h1⟩ := h.row
    refine ⟨h0, h1.imp id ?_⟩
    rintro ⟨g, cap, cur, hv, hb, hg, rest⟩
    exact ⟨g, cap, cur, hv, hb, (hF g (h.fv g (by rw [hv]; rfl)) (lt_of_block hg)).trans hg, rest⟩
  · intro p hp'
    obtain ⟨h1, h2, h3⟩ := h.pcs p hp'
    refine ⟨⟨h1.1, h1.2.1, fun hn => ?_⟩, h2, h3⟩
    obtain ⟨b, o, e, hc⟩ := h1.2.2 hn
    refine ⟨b, o, e, fun j hj => ?_⟩
    rw [← hc j hj]
    simp only [World.cell?, hF b (h3 hn b o e).1 (World.block_lt_of_cell? w _ (hc j hj))]

theorem Tp.save {w w' : World} {gt gp : Nat} {s : Pw} {t : Tst} {F Y : List Nat} {v : Value} {X : List PC} {bW bR : Nat} (h : Tp w gt gp s t F v X bW bR) (hs : Save Y w w') (hY : ∀ k ∈ F, k ∉ Y) (hp : gp ∉ Y) : Tp w' gt gp s t F v X bW bR :=
  h.kept hs.size (fun k hk hlt => hs.block k hlt (hY k hk)) ((hs.block gp h.pow.lt hp).trans h.pow)

theorem Tp.later {w w' : World} {gt gp : Nat} {s : Pw} {t : Tst} {F : List Nat} {v : Value} {X : List PC} {bW bR : Nat} (h : Tp w gt gp s t F v X bW bR) (hb : Below w.heap.size w w') : Tp w' gt gp s t F v X bW bR :=
  h.save (Y := []) (Save.of_below hb _) (by simp) (by simp)

theorem Tap.save {w w' : World} {gt gp : Nat} {s : Pw} {t : Tst} {F Y : List Nat} (h : Tap w gt gp s t F) (hs : Save Y w w') (hY : ∀ k ∈ F, k ∉ Y) (hp : gp ∉ Y) : Tap w' gt gp s t F := by
  obtain ⟨v, X, bW, bR, h⟩ := h
  exact ⟨v, X, bW, bR, h.save hs hY hp⟩

theorem Tap.later {w w' : World} {gt gp : Nat} {s : Pw} {t : Tst} {F : List Nat} (h : Tap w gt gp s t F) (hb : Below w.heap.size w w') : Tap w' gt gp s t F :=
  h.save (Y := []) (Save.of_below hb _) (by simp) (by simp)

/-- Power laid anew. -/
theorem Tp.setPow {w : World} {gt gp : Nat} {s : Pw} {t : Tst} {F : List Nat} {v : Value} {X : List PC} {bW bR : Nat} (h : Tp w gt gp s t F v X bW bR) (s' : Pw) : Tp (put w gp (powObj s')) gt gp s' t F v X bW bR := 
  h.kept (Nat.le_of_eq (put_size _ _ _).symm) (fun k hk _ => put_other (by rintro rfl; exact h.fp hk)) (put_same h.pow)

theorem tlen_any (w : World) (gt gp : Nat) (s : Pw) (t : Tst) (F : List Nat) (h : Tap w gt gp s t F) :
    Calls Try.prog 17 #[.pointer (some ⟨gt, 0, none⟩)] w fun e w' => e = .returned (.int .i64 (t.P.length : Int)) ∧ w' = w := by
  obtain ⟨v, X, bW, bR, h⟩ := h
  have c5 := h.cells.2.2.2.2.2.1
  obtain ⟨a, c, rfl, _⟩ := h.shape
  clear h
  go_enter Try.func17, Try.ntmps17
  go_wp2
  go_ret
  exact ⟨rfl, rfl⟩

theorem tlen_nil (w : World) : Calls Try.prog 17 #[.pointer none] w fun e w' => e = .returned (.int .i64 0) ∧ w' = w := by
  go_enter Try.func17, Try.ntmps17
  go_wp2
  go_ret
  exact ⟨rfl, rfl⟩

/-- A piece's two cells. -/
theorem Tp.piece {w : World} {gt gp : Nat} {s : Pw} {t : Tst} {F : List Nat} {v : Value} {X : List PC} {bW bR : Nat} (h : Tp w gt gp s t F v X bW bR) (i : Nat) (hi : i < t.P.length) :
    ∃ g c, v = .slice (some ⟨g, 0, none⟩) t.P.length c ∧ w.cell? ⟨g, i * 2, none⟩ = some (.slice (X.getD i PC.none).a (X.getD i PC.none).l.length (X.getD i PC.none).c) ∧ w.cell? ⟨g, i * 2 + 1, none⟩ = some (.int .i64 ((usedOf (t.P.take (i + 1)) : Nat) : Int)) := by
  obtain ⟨a, c, rfl, hc, hk⟩ := h.shape
  obtain ⟨g, cur, rfl, hg, _, hs, ht⟩ := hk (by omega)
  have hX : i < X.length := by rw [h.len]; exact hi
  obtain ⟨e1, e2⟩ := cP_get X i hX
  refine ⟨g, c, rfl, ?_, ?_⟩
  · rw [cell_of_row w g _ cur 99 (0, 0) hg, ← Array.getElem?_toList, ← e1, ← ht, List.getElem?_take_of_lt (by omega)]
  · rw [cell_of_row w g _ cur 99 (0, 0) hg, ← Array.getElem?_toList, ← h.ends i hX, ← e2, ← ht, List.getElem?_take_of_lt (by omega)]

theorem Tp.used_le {w : World} {gt gp : Nat} {s : Pw} {t : Tst} {F : List Nat} {v : Value} {X : List PC} {bW bR : Nat} (h : Tp w gt gp s t F v X bW bR) : t.used ≤ t.room := Nat.le_trans (usedOf_take_le _ _) h.fits

theorem Tp.pos_small {w : World} {gt gp : Nat} {s : Pw} {t : Tst} {F : List Nat} {v : Value} {X : List PC} {bW bR : Nat} (h : Tp w gt gp s t F v X bW bR) : t.P.length ≤ 16777216 := by
  have := usedOf_len t.P
  have := h.fits
  have := h.roomle
  omega

theorem used_any (w : World) (gt gp : Nat) (s : Pw) (t : Tst) (F : List Nat) (h : Tap w gt gp s t F) :
    Calls Try.prog 53 #[.pointer (some ⟨gt, 0, none⟩)] w fun e w' => e = .returned (.int .i64 (t.used : Int)) ∧ ∃ m, w' = w.drewN m := by
  obtain ⟨v, X, bW, bR, h⟩ := h
  have c6 := h.cells.2.2.2.2.2.2
  have c5 := h.cells.2.2.2.2.2.1
  have hps := h.pos_small
  have hpl := h.pos_le
  by_cases h0 : t.pos = 0
  · have hu : t.used = 0 := by unfold Tst.used; rw [h0]; rfl
    rw [h0] at c6
    rw [hu]
    clear h hps hpl h0 hu
    go_enter Try.func53, Try.ntmps53
    go_wp2
    go_ret
    exact ⟨rfl, 0, rfl⟩
  · obtain ⟨k, hk⟩ : ∃ k, t.pos = k + 1 := ⟨t.pos - 1, by omega⟩
    obtain ⟨g, c, rfl, _, e2⟩ := h.piece k (by omega)
    have hu : usedOf (t.P.take (k + 1)) = t.used := by unfold Tst.used; rw [hk]
    rw [hu] at e2
    obtain ⟨p, hp⟩ : ∃ p, p = t.pos := ⟨_, rfl⟩
    obtain ⟨n, hn⟩ : ∃ n, n = t.P.length := ⟨_, rfl⟩
    obtain ⟨u, hu2⟩ : ∃ u, u = t.used := ⟨_, rfl⟩
    rw [← hp] at c6 hk
    rw [← hn] at c5
    rw [← hu2] at e2 ⊢
    have hpn : p ≤ n := by omega
    have hn1 : n ≤ 16777216 := by omega
    have hne : ((p : Int) == 0) = false := by simp; omega
    have hw1 : IntKind.i64.wrap ((p : Int) - 1) = (k : Int) := by rw [IntKind.wrap_i64] <;> omega
    have hkn : k < n := by omega
    clear h hps hpl h0 hu hp hn hu2 hk
    go_enter Try.func53, Try.ntmps53
    go_upto_region 3 with fail
    go_quiet (fail)
    go_wp2
    go_ret
    exact ⟨rfl, _, rfl⟩

theorem isMark_any (w : World) (a : Option Addr) (n c : Nat) (e : Int) :
    Calls Try.prog 46 #[.agg #[.slice a n c, .int .i64 e]] w fun x w' => x = .returned (.bool (n == 0)) ∧ w' = w.alloc (.cells #[.slice a n c, .int .i64 e] 99) := by
  go_enter Try.func46, Try.ntmps46
  go_wp2
  go_ret
  refine ⟨?_, rfl⟩
  cases n <;> rfl

theorem Tap.drewN {w : World} {gt gp : Nat} {s : Pw} {t : Tst} {F : List Nat} (h : Tap w gt gp s t F) (m : Nat) : Tap (w.drewN m) gt gp s t F := by
  obtain ⟨v, X, bW, bR, h⟩ := h
  exact ⟨v, X, bW, bR, h.kept (Nat.le_refl _) (fun _ _ _ => rfl) h.pow⟩

end Go.Proofs.Ytkfnjekeegebaaa
