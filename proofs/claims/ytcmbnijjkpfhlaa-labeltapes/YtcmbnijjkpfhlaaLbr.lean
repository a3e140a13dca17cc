/- A library in memory: its block, its power, its row of tapes; New, Count, Unload, slices.Index, Slot. -/
import Derived.Test.YtcmbnijjkpfhlaaGTapeGetNew
import Derived.Lib.MinMax
namespace Go.Proofs.Ytcmbnijjkpfhlaa
open Go.RowKit
set_option linter.unusedSimpArgs false

/-- Where tapes lie, as values. -/
def cG (g : Nat → Nat) (n : Nat) : List Value := (List.range n).map fun i => .pointer (some ⟨g i, 0, none⟩)

theorem cG_length (g : Nat → Nat) (n : Nat) : (cG g n).length = n := by simp [cG]

theorem cG_get (g : Nat → Nat) (n i : Nat) (h : i < n) : (cG g n)[i]? = some (.pointer (some ⟨g i, 0, none⟩)) := by simp [cG, h]

theorem cG_succ (g : Nat → Nat) (n : Nat) : cG g (n + 1) = cG g n ++ [.pointer (some ⟨g n, 0, none⟩)] := by simp [cG, List.range_succ]

theorem cG_congr {g g' : Nat → Nat} {n : Nat} (h : ∀ i, i < n → g i = g' i) : cG g n = cG g' n := by
  unfold cG
  refine List.map_congr_left fun i hi => ?_
  rw [h i (List.mem_range.1 hi)]

/-- A function, but at one place. -/
def upd {α : Type} (f : Nat → α) (i : Nat) (x : α) : Nat → α := fun j => if j = i then x else f j

theorem upd_same {α : Type} (f : Nat → α) (i : Nat) (x : α) : upd f i x i = x := by simp [upd]
theorem upd_other {α : Type} (f : Nat → α) {i j : Nat} (x : α) (h : j ≠ i) : upd f i x j = f j := by simp [upd, h]

/-- The address of the tape in the drive. -/
def drvA (g : Nat → Nat) (d : Option Nat) : Option Addr := d.map fun i => ⟨g i, 0, none⟩

def libObj (a : Option Addr) (gp : Nat) (v : Value) : Obj := .cells #[.pointer a, .pointer (some ⟨gp, 0, none⟩), v] 68 (0, 0)

/-- Block gl is a library of n tapes with the power in block gp, in state s; the tape of slot i lies at g i, in state t i, with the blocks F i; d: the slot in the drive; v: the row of tapes; all blocks of its own are in H. -/
structure Lbr (w : World) (gl gp : Nat) (s : Pw) (d : Option Nat) (n : Nat) (g : Nat → Nat) (t : Nat → Tst) (F : Nat → List Nat) (v : Value) (H : List Nat) : Prop where
  obj : w.heap[gl]? = some (libObj (drvA g d) gp v)
  pow : Pow w gp s
  row : w.ownsRow 0 65 1 v n (cG g n)
  taps : ∀ i, i < n → Tap w (g i) gp s (t i) (F i)
  dis : ∀ i j, i < n → j < n → i ≠ j → ∀ k ∈ F i, k ∉ F j
  drv : ∀ i, d = some i → i < n
  fit : ∀ i, i < n → ∀ k ∈ F i, k ∈ H ∧ k ≠ gl ∧ v.ownBlock ≠ some k
  fv : ∀ b, v.ownBlock = some b → b ∈ H ∧ b ≠ gl
  fo : gl ∈ H
  fp : gp ∉ H
  le : n ≤ 64
  lt : ∀ k ∈ H, k < w.heap.size

section
variable {w w' : World} {gl gp : Nat} {s s' : Pw} {d : Option Nat} {n : Nat} {g : Nat → Nat} {t : Nat → Tst} {F : Nat → List Nat} {v : Value} {H Y : List Nat}

theorem Lbr.cells (h : Lbr w gl gp s d n g t F v H) :
    w.cell? ⟨gl, 0, none⟩ = some (.pointer (drvA g d)) ∧ w.cell? ⟨gl, 1, none⟩ = some (.pointer (some ⟨gp, 0, none⟩)) ∧ w.cell? ⟨gl, 2, none⟩ = some v := by
  refine ⟨?_, ?_, ?_⟩ <;> rw [cell_of_row w gl _ _ 68 (0, 0) h.obj] <;> rfl

theorem Lbr.soft (h : Lbr w gl gp s d n g t F v H) (i : Nat) : w.frozen? ⟨gl, i, none⟩ = false := by
  simp [World.frozen?, h.obj, libObj]

theorem Lbr.shape (h : Lbr w gl gp s d n g t F v H) : ∃ a c, v = .slice a n c ∧ n ≤ c ∧ (0 < n → ∃ b, a = some ⟨b, 0, none⟩ ∧ ∀ i, i < n → w.cell? ⟨b, i, none⟩ = some (.pointer (some ⟨g i, 0, none⟩))) := by
  rcases h.row.2 with ⟨rfl, hl⟩ | ⟨b, cap, cur, rfl, _, hg, hc, hm, hs, ht⟩
  · subst hl
    exact ⟨none, 0, rfl, Nat.le_refl _, by omega⟩
  · refine ⟨_, cap, rfl, hc, fun _ => ⟨b, rfl, fun i hi => ?_⟩⟩
    rw [cell_of_row w b _ cur 65 (0, 0) hg, ← Array.getElem?_toList, ← cG_get g n i hi, ← ht, List.getElem?_take_of_lt (by omega)]

theorem Tap.gtF {gt : Nat} {tt : Tst} {K : List Nat} (h : Tap w gt gp s tt K) : gt ∈ K := by
  obtain ⟨v, X, bW, bR, h⟩ := h
  exact h.ft

theorem Tap.powOf {gt : Nat} {tt : Tst} {K : List Nat} (h : Tap w gt gp s tt K) : Pow w gp s := by
  obtain ⟨v, X, bW, bR, h⟩ := h
  exact h.pow

theorem Tap.kept {gt : Nat} {tt : Tst} {K : List Nat} (h : Tap w gt gp s tt K) (hsz : w.heap.size ≤ w'.heap.size) (hF : ∀ k ∈ K, k < w.heap.size → w'.heap[k]? = w.heap[k]?) (hp : Pow w' gp s') : Tap w' gt gp s' tt K := by
  obtain ⟨v, X, bW, bR, h⟩ := h
  exact ⟨v, X, bW, bR, h.kept hsz hF hp⟩

theorem Lbr.inj (h : Lbr w gl gp s d n g t F v H) {i j : Nat} (hi : i < n) (hj : j < n) (e : g i = g j) : i = j := by
  rcases Nat.decEq i j with hne | he
  · have h1 := (h.taps i hi).gtF
    have h2 := (h.taps j hj).gtF
    rw [e] at h1
    exact absurd h2 (h.dis i j hi hj hne _ h1)
  · exact he

theorem ownsRow_kept {base : Nat} {e : TypeId} {size m : Nat} {u : Value} {xs : List Value} (h : w.ownsRow base e size u m xs) (hF : ∀ b, u.ownBlock = some b → b < w.heap.size → w'.heap[b]? = w.heap[b]?) : w'.ownsRow base e size u m xs := by
  obtain ⟨h0, h1⟩ := h
  refine ⟨h0, h1.imp id ?_⟩
  rintro ⟨g, cap, cur, hv, hb, hg, rest⟩
  exact ⟨g, cap, cur, hv, hb, (hF g (by rw [hv]; rfl) (lt_of_block hg)).trans hg, rest⟩

/-- All of it stays, power may be another one. -/
theorem Lbr.kept (h : Lbr w gl gp s d n g t F v H) (hsz : w.heap.size ≤ w'.heap.size) (hF : ∀ k ∈ H, k < w.heap.size → w'.heap[k]? = w.heap[k]?) (hp : Pow w' gp s') : Lbr w' gl gp s' d n g t F v H := by
  refine { h with obj := (hF gl h.fo (lt_of_block h.obj)).trans h.obj, pow := hp, row := ownsRow_kept h.row (fun b hb => hF b (h.fv b hb).1), taps := ?_, lt := fun k hk => Nat.lt_of_lt_of_le (h.lt k hk) hsz }
  intro i hi
  exact (h.taps i hi).kept hsz (fun k hk => hF k (h.fit i hi k hk).1) hp

theorem Lbr.save (h : Lbr w gl gp s d n g t F v H) (hs : Save Y w w') (hY : ∀ k ∈ H, k ∉ Y) (hp : gp ∉ Y) : Lbr w' gl gp s d n g t F v H :=
  h.kept hs.size (fun k hk hlt => hs.block k hlt (hY k hk)) ((hs.block gp h.pow.lt hp).trans h.pow)

theorem Lbr.later (h : Lbr w gl gp s d n g t F v H) (hb : Below w.heap.size w w') : Lbr w' gl gp s d n g t F v H :=
  h.save (Y := []) (Save.of_below hb _) (by simp) (by simp)

theorem Lbr.drewN (h : Lbr w gl gp s d n g t F v H) (m : Nat) : Lbr (w.drewN m) gl gp s d n g t F v H :=
  h.kept (Nat.le_refl _) (fun _ _ _ => rfl) h.pow

/-- Another tape in the drive. -/
theorem Lbr.setDrv (h : Lbr w gl gp s d n g t F v H) (d' : Option Nat) (hd : ∀ i, d' = some i → i < n) : Lbr (put w gl (libObj (drvA g d') gp v)) gl gp s d' n g t F v H := by
  have hgp : gp ≠ gl := by rintro rfl; exact h.fp h.fo
  have hk : ∀ k, k ≠ gl → (put w gl (libObj (drvA g d') gp v)).heap[k]? = w.heap[k]? := fun k hk => put_other hk
  have hpw : Pow (put w gl (libObj (drvA g d') gp v)) gp s := (hk gp hgp).trans h.pow
  refine { h with obj := put_same h.obj, pow := hpw, row := ownsRow_kept h.row (fun b hb _ => hk b (h.fv b hb).2), taps := ?_, drv := hd, lt := fun k hk => by rw [put_size]; exact h.lt k hk }
  intro i hi
  exact (h.taps i hi).kept (by rw [put_size]; exact Nat.le_refl _) (fun k hk' _ => hk k (h.fit i hi k hk').2.1) hpw

/-- One tape does something. -/
theorem Lbr.tape (h : Lbr w gl gp s d n g t F v H) {i : Nat} (hi : i < n) {t' : Tst} {F' : List Nat} (hT : Tap w' (g i) gp s' t' F') (hs : Save Y w w') (hY : ∀ k ∈ Y, k ∈ H → k ∈ F i) (hF : ∀ k ∈ F', k ∈ F i ∨ k ∉ H) {H' : List Nat} (h1H : ∀ k ∈ H, k ∉ F i → k ∈ H') (h2H : ∀ k ∈ F', k ∈ H') (h3H : ∀ k ∈ H', k ∈ H ∨ k ∈ F') : Lbr w' gl gp s' d n g (upd t i t') (upd F i F') v H' := by
  have hfl : ∀ k ∈ F', k < w'.heap.size := by
    obtain ⟨v, X, bW, bR, h⟩ := hT
    exact h.fl
  have hgp : gp ∉ F' := by
    obtain ⟨v, X, bW, bR, h⟩ := hT
    exact h.fp
  have hk : ∀ k, k ∈ H → k ∉ F i → w'.heap[k]? = w.heap[k]? := fun k hk hn => hs.block k (h.lt k hk) (fun hy => hn (hY k hy hk))
  have hgl : gl ∉ F i := fun hx => (h.fit i hi gl hx).2.1 rfl
  have hrow : ∀ b, v.ownBlock = some b → b ∉ F i := fun b hb hx => (h.fit i hi b hx).2.2 hb
  refine ⟨(hk gl h.fo hgl).trans h.obj, hT.powOf, ownsRow_kept h.row (fun b hb _ => hk b (h.fv b hb).1 (hrow b hb)), ?_, ?_, h.drv, ?_, ?_, h1H _ h.fo hgl, ?_, h.le, ?_⟩
  · intro j hj
    by_cases e : j = i
    · subst e
      rw [upd_same, upd_same]
      exact hT
    · rw [upd_other _ _ e, upd_other _ _ e]
      refine (h.taps j hj).kept hs.size (fun k hk' _ => hk k (h.fit j hj k hk').1 (h.dis j i hj hi e k hk')) hT.powOf
  · intro a b ha hb hne k hk1 hk2
    have hlt : ∀ j, j < n → k ∈ F j → k ∈ H := fun j hj hx => (h.fit j hj k hx).1
    by_cases ea : a = i
    · subst ea
      rw [upd_same] at hk1
      rw [upd_other _ _ (Ne.symm hne)] at hk2
      have hl := hlt b hb hk2
      exact h.dis a b ha hb hne k ((hF k hk1).elim id (fun h => absurd hl h)) hk2
    · rw [upd_other _ _ ea] at hk1
      have hl := hlt a ha hk1
      by_cases eb : b = i
      · subst eb
        rw [upd_same] at hk2
        exact h.dis a b ha hb hne k hk1 ((hF k hk2).elim id (fun h => absurd hl h))
      · rw [upd_other _ _ eb] at hk2
        exact h.dis a b ha hb hne k hk1 hk2
  · intro j hj k hk1
    by_cases e : j = i
    · subst e
      rw [upd_same] at hk1
      refine ⟨h2H k hk1, ?_⟩
      rcases hF k hk1 with hx | hx
      · exact (h.fit j hj k hx).2
      · exact ⟨by rintro rfl; exact hx h.fo, fun e => hx (h.fv k e).1⟩
    · rw [upd_other _ _ e] at hk1
      obtain ⟨h1, h2⟩ := h.fit j hj k hk1
      exact ⟨h1H k h1 (h.dis j i hj hi e k hk1), h2⟩
  · intro b hb
    exact ⟨h1H b (h.fv b hb).1 (hrow b hb), (h.fv b hb).2⟩
  · intro hx
    exact (h3H gp hx).elim h.fp hgp
  · intro k hk1
    rcases h3H k hk1 with h1 | h1
    · exact Nat.lt_of_lt_of_le (h.lt k h1) hs.size
    · exact hfl k h1

end

theorem lnew_nil (w : World) : Calls Try.prog 17 #[.pointer none] w fun e w' => e = .returned (.tuple #[.pointer none, .int .i64 1]) ∧ w' = w := by
  go_enter Try.func17, Try.ntmps17
  go_wp2
  go_ret2
  exact ⟨rfl, rfl⟩

theorem lnew_any (w : World) (gp : Nat) : Calls Try.prog 17 #[.pointer (some ⟨gp, 0, none⟩)] w fun e w' => e = .returned (.tuple #[.pointer (some ⟨w.heap.size, 0, none⟩), .int .i64 0]) ∧ w' = w.alloc (libObj none gp (.slice none 0 0)) := by
  go_enter Try.func17, Try.ntmps17
  go_wp2
  go_ret2
  exact ⟨rfl, rfl⟩

/-- A library without tapes. -/
theorem lbr_new {w : World} {gp : Nat} {s : Pw} (hp : Pow w gp s) (g : Nat → Nat) (t : Nat → Tst) (F : Nat → List Nat) : Lbr (w.alloc (libObj none gp (.slice none 0 0))) w.heap.size gp s none 0 g t F (.slice none 0 0) [w.heap.size] := by
  have hlt := hp.lt
  refine ⟨heap_alloc_new w _, (heap_alloc_old w _ hlt).trans hp, World.ownsRow_nil _ _ _ _, fun i hi => by omega, fun i j hi => by omega, by simp, fun i hi => by omega, by simp [Value.ownBlock], by simp, ?_, by omega, by simp⟩
  simp only [List.mem_singleton]
  omega

section
variable {w : World} {gl gp : Nat} {s : Pw} {d : Option Nat} {n : Nat} {g : Nat → Nat} {t : Nat → Tst} {F : Nat → List Nat} {v : Value} {H : List Nat}

end

end Go.Proofs.Ytcmbnijjkpfhlaa
