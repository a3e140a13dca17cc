/- A store in memory: its images, its row of snapshots; over any world. -/
import Derived.Test.YtaijjogjohbheaaGreatGIReadToSMath
import Derived.Test.YtaijjogjohbheaaGreatGSRowToSDel
namespace Go.Proofs.YtaijjogjohbheaaGreat
open Go.RowKit
set_option maxRecDepth 100000
set_option linter.unusedSimpArgs false

/-- A snapshot in memory: its number, its image's block, what that has. -/
abbrev Sn := Nat × Nat × List (List Nat)

def tX (t : Sn) : Nat × List (List Nat) := (t.1, t.2.2)
def tY (t : Sn) : Nat × Nat := (t.1, t.2.1)

/-- An image that lies nowhere in V. -/
def ImgV (w : World) (V : List Nat) (N g : Nat) (F : List (List Nat)) : Prop := ∃ b n, Img w g b n F ∧ n ≤ N ∧ g ∉ V ∧ b ∉ V

/-- A state: its image, its snapshots; nothing of it lies in V. -/
structure Sta (w : World) (V : List Nat) (N gi : Nat) (a : Option Addr) (n : Nat) (F : List (List Nat)) (X : List (Nat × List (List Nat))) : Prop where
  img : ImgV w V N gi F
  row : ∃ T : List Sn, X = T.map tX ∧ RdY w a n (T.map tY) ∧ (∀ t ∈ T, ImgV w V N t.2.1 t.2.2) ∧ (0 < n → ∀ b o, a = some ⟨b, o, none⟩ → b ∉ V)

theorem ImgV.save {w w' : World} {V Z : List Nat} {N g : Nat} {F : List (List Nat)} (h : ImgV w V N g F) (hs : Save Z w w') (hZ : ∀ k ∈ Z, k ∈ V) : ImgV w' V N g F := by
  obtain ⟨b, n, h1, h2, h3, h4⟩ := h
  exact ⟨b, n, h1.save hs (fun h => h3 (hZ _ h)) (fun h => h4 (hZ _ h)), h2, h3, h4⟩

theorem ImgV.mono {w : World} {V : List Nat} {N N' g : Nat} {F : List (List Nat)} (h : ImgV w V N g F) (hN : N ≤ N') : ImgV w V N' g F := by
  obtain ⟨b, n, h1, h2, h3, h4⟩ := h
  exact ⟨b, n, h1, Nat.le_trans h2 hN, h3, h4⟩

theorem ImgV.fresh {w : World} {V V' : List Nat} {N g : Nat} {F : List (List Nat)} (h : ImgV w V N g F) (hV : ∀ k ∈ V', k < w.heap.size → k ∈ V) : ImgV w V' N g F := by
  obtain ⟨b, n, h1, h2, h3, h4⟩ := h
  exact ⟨b, n, h1, h2, fun h => h3 (hV _ h h1.lt), fun h => h4 (hV _ h h1.map.lt)⟩

theorem ImgV.ok {w : World} {V : List Nat} {N g : Nat} {F : List (List Nat)} (h : ImgV w V N g F) : okF F := by
  obtain ⟨b, n, h1, _⟩ := h
  exact h1.ok

theorem ImgV.lt {w : World} {V : List Nat} {N g : Nat} {F : List (List Nat)} (h : ImgV w V N g F) : g < w.heap.size := by
  obtain ⟨b, n, h1, _⟩ := h
  exact h1.lt

theorem Sta.save {w w' : World} {V Z : List Nat} {N gi n : Nat} {a : Option Addr} {F : List (List Nat)} {X : List (Nat × List (List Nat))} (h : Sta w V N gi a n F X) (hs : Save Z w w') (hZ : ∀ k ∈ Z, k ∈ V) : Sta w' V N gi a n F X := by
  obtain ⟨h1, T, h2, h3, h4, h5⟩ := h
  exact ⟨h1.save hs hZ, T, h2, h3.save hs fun hn b o e hb => h5 hn b o e (hZ _ hb), fun t ht => (h4 t ht).save hs hZ, h5⟩

theorem Sta.later {w w' : World} {V : List Nat} {N gi n : Nat} {a : Option Addr} {F : List (List Nat)} {X : List (Nat × List (List Nat))} (h : Sta w V N gi a n F X) (hb : Below w.heap.size w w') : Sta w' V N gi a n F X :=
  h.save (Save.of_below hb []) (by simp)

theorem Sta.mono {w : World} {V : List Nat} {N N' gi n : Nat} {a : Option Addr} {F : List (List Nat)} {X : List (Nat × List (List Nat))} (h : Sta w V N gi a n F X) (hN : N ≤ N') : Sta w V N' gi a n F X := by
  obtain ⟨h1, T, h2, h3, h4, h5⟩ := h
  exact ⟨h1.mono hN, T, h2, h3, fun t ht => (h4 t ht).mono hN, h5⟩

theorem Sta.fresh {w : World} {V V' : List Nat} {N gi n : Nat} {a : Option Addr} {F : List (List Nat)} {X : List (Nat × List (List Nat))} (h : Sta w V N gi a n F X) (hV : ∀ k ∈ V', k < w.heap.size → k ∈ V) : Sta w V' N gi a n F X := by
  obtain ⟨h1, T, h2, h3, h4, h5⟩ := h
  refine ⟨h1.fresh hV, T, h2, h3, fun t ht => (h4 t ht).fresh hV, fun hn b o e hb => ?_⟩
  obtain ⟨b', o', e', hc⟩ := h3.2 hn
  rw [e] at e'
  injection e' with e'
  injection e' with e1 e2
  subst e1
  exact h5 hn b o e (hV b hb (World.block_lt_of_cell? w _ (hc 0 hn).1))

theorem Sta.len {w : World} {V : List Nat} {N gi n : Nat} {a : Option Addr} {F : List (List Nat)} {X : List (Nat × List (List Nat))} (h : Sta w V N gi a n F X) : X.length = n := by
  obtain ⟨h1, T, h2, h3, h4, h5⟩ := h
  have := h3.1
  rw [h2]
  simpa using this

theorem getD_tX {T : List Sn} {j : Nat} (hj : j < T.length) : (T.map tX).getD j default = tX (T.getD j default) := by simp [List.getD, hj]

theorem getD_tY {T : List Sn} {j : Nat} (hj : j < T.length) : (T.map tY).getD j default = tY (T.getD j default) := by simp [List.getD, hj]

theorem getD_memS {T : List Sn} {j : Nat} (hj : j < T.length) : T.getD j default ∈ T := by
  have : T.getD j default = T[j] := by simp [List.getD, hj]
  rw [this]
  exact List.getElem_mem hj

theorem OkS.incY {F : List (List Nat)} {last : Nat} {T : List Sn} (h : OkS F last (T.map tX)) : IncY (T.map tY) := by
  intro k l hkl hl
  have hl' : l < T.length := by simpa using hl
  rw [getD_tY (by omega), getD_tY hl']
  have := List.pairwise_iff_getElem.1 h.inc k l (by simp; omega) (by simp; omega) hkl
  simp only [List.getElem_map] at this
  have e1 : T.getD k default = T[k]'(by omega) := by simp [List.getD, show k < T.length by omega]
  have e2 : T.getD l default = T[l] := by simp [List.getD, hl']
  rw [e1, e2]
  exact this

/-- A store's own block. -/
def stoObj (gr gi last : Nat) (a : Option Addr) (n c : Nat) : Obj := .cells #[.pointer (some ⟨gr, 0, none⟩), .pointer (some ⟨gi, 0, none⟩), .int .i64 (last : Int), .slice a n c] 78 (0, 0)

theorem sto_cells {w : World} {gs gr gi last n c : Nat} {a : Option Addr} (h : w.heap[gs]? = some (stoObj gr gi last a n c)) :
    w.cell? ⟨gs, 0, none⟩ = some (.pointer (some ⟨gr, 0, none⟩)) ∧ w.cell? ⟨gs, 1, none⟩ = some (.pointer (some ⟨gi, 0, none⟩)) ∧ w.cell? ⟨gs, 2, none⟩ = some (.int .i64 (last : Int)) ∧ w.cell? ⟨gs, 3, none⟩ = some (.slice a n c) := by
  simp [World.cell?, h, stoObj]

/-- A store that lies at gs, on the root gr; nothing of its state lies in V. -/
def Sto (w : World) (V : List Nat) (N gs gr : Nat) (F : List (List Nat)) (last : Nat) (X : List (Nat × List (List Nat))) : Prop :=
  ∃ gi a n c, w.heap[gs]? = some (stoObj gr gi last a n c) ∧ n ≤ c ∧ Sta w V N gi a n F X

theorem Sto.save {w w' : World} {V Z : List Nat} {N gs gr last : Nat} {F : List (List Nat)} {X : List (Nat × List (List Nat))} (h : Sto w V N gs gr F last X) (hs : Save Z w w') (hZ : ∀ k ∈ Z, k ∈ V) (hg : gs ∉ Z) : Sto w' V N gs gr F last X := by
  obtain ⟨gi, a, n, c, h1, h2, h3⟩ := h
  exact ⟨gi, a, n, c, (hs.block gs (lt_of_block h1) hg).trans h1, h2, h3.save hs hZ⟩

theorem Sto.later {w w' : World} {V : List Nat} {N gs gr last : Nat} {F : List (List Nat)} {X : List (Nat × List (List Nat))} (h : Sto w V N gs gr F last X) (hb : Below w.heap.size w w') : Sto w' V N gs gr F last X :=
  h.save (Save.of_below hb []) (by simp) (by simp)

theorem Sto.lt {w : World} {V : List Nat} {N gs gr last : Nat} {F : List (List Nat)} {X : List (Nat × List (List Nat))} (h : Sto w V N gs gr F last X) : gs < w.heap.size := by
  obtain ⟨gi, a, n, c, h1, h2, h3⟩ := h
  exact lt_of_block h1

/-- The image of a number: 0 the one that is written. -/
def lkS (F : List (List Nat)) (X : List (Nat × List (List Nat))) (x : Int) : Option (List (List Nat)) :=
  if x = 0 then some F else (X.find? fun p => decide ((p.1 : Int) = x)).map (·.2)

theorem lkS_at {F : List (List Nat)} {X : List (Nat × List (List Nat))} (h : X.Pairwise fun p q => p.1 < q.1) {i : Nat} (hi : i < X.length) {x : Int} (hx : ((X.getD i default).1 : Int) = x) (h0 : x ≠ 0) : lkS F X x = some (X.getD i default).2 := by
  unfold lkS
  rw [if_neg h0]
  induction X generalizing i with
  | nil => simp at hi
  | cons p X ih =>
    rw [List.pairwise_cons] at h
    cases i with
    | zero =>
      simp only [List.getD_cons_zero] at hx ⊢
      rw [List.find?_cons_of_pos (by simpa using hx)]
      rfl
    | succ i =>
      have hi' : i < X.length := by simpa using hi
      simp only [List.getD_cons_succ] at hx ⊢
      have hm : X.getD i default ∈ X := by
        have : X.getD i default = X[i] := by simp [List.getD, hi']
        rw [this]; exact List.getElem_mem hi'
      have := h.1 _ hm
      rw [List.find?_cons_of_neg (by simp; omega)]
      exact ih h.2 hi' hx

theorem lkS_none {F : List (List Nat)} {X : List (Nat × List (List Nat))} {x : Int} (h : ∀ k, k < X.length → ((X.getD k default).1 : Int) ≠ x) (h0 : x ≠ 0) : lkS F X x = none := by
  unfold lkS
  rw [if_neg h0]
  have : X.find? (fun p => decide ((p.1 : Int) = x)) = none := by
    rw [List.find?_eq_none]
    intro p hp
    obtain ⟨k, hk, rfl⟩ := List.getElem_of_mem hp
    have := h k hk
    have e : X.getD k default = X[k] := by simp [List.getD, hk]
    rw [e] at this
    simpa using this
  rw [this]
  rfl

end Go.Proofs.YtaijjogjohbheaaGreat
