/- A variable that holds a row of the call's own, in a loop over an iterator. -/
import Derived.Test.YtaijldcfoaeogaaGMemToOwnBlk
import Derived.Test.YtaijldcfoaeogaaGEAllToERangeR
import Derived.Test.YtaijldcfoaeogaaGEInToEInAny
namespace Go.Proofs.Ytaijldcfoaeogaa
open Go.RowKit Go.Shelf

/-- Block gl (a variable of type T) holds a row of the call's own. -/
def VarR (W : World) (gl : Nat) (T : TypeId) (base : Nat) (E : TypeId) (size n : Nat) (xs : List Value) : Prop :=
  ∃ v, W.heap[gl]? = some (.cells #[v] T (0, 0)) ∧ W.ownsRow base E size v n xs

/-- The variable's row lies in block k. -/
def RowAt (gl : Nat) (T : TypeId) (W : World) (k : Nat) : Prop := ∃ v, W.heap[gl]? = some (.cells #[v] T (0, 0)) ∧ v.ownBlock = some k

theorem var_inj {W : World} {gl : Nat} {T : TypeId} {v u : Value} (h : W.heap[gl]? = some (.cells #[v] T (0, 0))) (h' : W.heap[gl]? = some (.cells #[u] T (0, 0))) : u = v := by
  rw [h] at h'
  injection h' with h'
  injection h' with h'
  injection h' with h'
  injection h' with h'
  exact h'.symm

theorem VarR.cells {W : World} {gl : Nat} {T : TypeId} {base : Nat} {E : TypeId} {size n : Nat} {xs : List Value} (h : VarR W gl T base E size n xs) {k : Nat} (hr : RowAt gl T W k) : base ≤ k ∧ ∃ cs t fr, W.heap[k]? = some (.cells cs t fr) := by
  obtain ⟨v, hv, ho⟩ := h
  obtain ⟨u, hu, hk⟩ := hr
  rw [var_inj hv hu] at hk
  obtain ⟨h1, cs, h2⟩ := owns_block ho hk
  exact ⟨h1, cs, _, _, h2⟩

theorem RowAt.back {W W' : World} {gl : Nat} {T : TypeId} {k : Nat} (h : RowAt gl T W' k) (he : W'.heap[gl]? = W.heap[gl]?) : RowAt gl T W k := by
  obtain ⟨v, hv, hk⟩ := h
  exact ⟨v, he.symm.trans hv, hk⟩

theorem VarR.same {W W' : World} {gl : Nat} {T : TypeId} {base : Nat} {E : TypeId} {size n : Nat} {xs : List Value} (h : VarR W gl T base E size n xs) (he : W'.heap[gl]? = W.heap[gl]?) (hr : ∀ k, RowAt gl T W k → W'.heap[k]? = W.heap[k]?) : VarR W' gl T base E size n xs := by
  obtain ⟨v, hv, ho⟩ := h
  exact ⟨v, he.trans hv, owns_same ho fun k hk => hr k ⟨v, hv, hk⟩⟩

/-- Something is appended to the variable's row. -/
theorem var_appended {W W1 w' : World} {gl : Nat} {T : TypeId} {base : Nat} {E : TypeId} {size n' : Nat} {xs' : List Value} {v v' : Value} (hv : W.heap[gl]? = some (.cells #[v] T (0, 0))) (hgl : gl < base) (hb : Below W.heap.size W W1)
    (hvb : ∀ k, v.ownBlock = some k → base ≤ k) (hown : w'.ownsRow base E size v' n' xs') (hg : W1.grownBy w' v.ownBlock) (hat : v'.ownBlock = v.ownBlock ∨ v'.ownBlock = some W1.heap.size) (hbase : base ≤ W.heap.size) :
    VarR (w'.setCell ⟨gl, 0, none⟩ v') gl T base E size n' xs' ∧ KeepRU (RowAt gl T) base W (w'.setCell ⟨gl, 0, none⟩ v') ∧ Below gl W (w'.setCell ⟨gl, 0, none⟩ v') ∧ (∀ k, k < base → k ≠ gl → (w'.setCell ⟨gl, 0, none⟩ v').heap[k]? = W.heap[k]?) ∧ w'.cell? ⟨gl, 0, none⟩ = some v ∧ w'.frozen? ⟨gl, 0, none⟩ = false := by
  have hlt : gl < W.heap.size := (Array.getElem?_eq_some_iff.1 hv).1
  have hold : ∀ k, k < W.heap.size → v.ownBlock ≠ some k → w'.heap[k]? = W.heap[k]? := fun k hk hne => (hg.block k (Nat.lt_of_lt_of_le hk hb.size) (fun e => hne e.symm)).trans (hb.block k hk)
  have hglne : v.ownBlock ≠ some gl := fun e => by have := hvb gl e; omega
  have hv1 : w'.heap[gl]? = some (.cells #[v] T (0, 0)) := (hold gl hlt hglne).trans hv
  have hsame : (w'.setCell ⟨gl, 0, none⟩ v').heap[gl]? = some (.cells #[v'] T (0, 0)) := by
    rw [heap_setCell_same w' gl 0 _ T v' hv1]
    rfl
  have hoth : ∀ k, k ≠ gl → (w'.setCell ⟨gl, 0, none⟩ v').heap[k]? = w'.heap[k]? := fun k hk => Below.heap_setCell _ _ _ k hk
  have hsz : W.heap.size ≤ w'.heap.size := Nat.le_trans hb.size hg.size
  have hsz2 : (w'.setCell ⟨gl, 0, none⟩ v').heap.size = w'.heap.size := by simp [World.setCell]
  refine ⟨⟨v', hsame, owns_same hown fun k hk => hoth k (by have := (owns_block hown hk).1; omega)⟩, ⟨by omega, fun k hk hkl hnr => ?_, fun k hr => ?_⟩, ?_, fun k hk hne => ?_, by rw [cell_of_row w' gl 0 _ _ _ hv1]; rfl, by simp [World.frozen?, hv1]⟩
  · rw [hoth k (by omega)]
    exact hold k hkl fun e => hnr ⟨v, hv, e⟩
  · obtain ⟨u, hu, hk⟩ := hr
    rw [var_inj hsame hu] at hk
    rcases hat with h1 | h1
    · exact .inl ⟨v, hv, by rw [← h1]; exact hk⟩
    · rw [h1] at hk
      injection hk with hk
      have := hb.size
      exact .inr (by omega)
  · refine ⟨hg.os.trans hb.os, hg.tape.trans hb.tape, hg.output.trans hb.output, by omega, fun k hk => ?_⟩
    rw [hoth k (by omega)]
    exact hold k (by omega) fun e => by have := hvb k e; omega
  · rw [hoth k hne]
    exact hold k (by omega) fun e => by have := hvb k e; omega

/-- Something is appended to the variable's row, wherever that lies. -/
theorem var_appended2 {W W1 w' : World} {gl lo B : Nat} {T : TypeId} {base : Nat} {E : TypeId} {size n' : Nat} {xs' : List Value} {v v' : Value} (hv : W.heap[gl]? = some (.cells #[v] T (0, 0))) (hlo : lo ≤ gl) (hB : gl < B) (hb : Below W.heap.size W W1)
    (hvb : ∀ k, v.ownBlock = some k → lo ≤ k ∧ k ≠ gl) (hown : w'.ownsRow base E size v' n' xs') (hg : W1.grownBy w' v.ownBlock) (hat : v'.ownBlock = v.ownBlock ∨ v'.ownBlock = some W1.heap.size) :
    VarR (w'.setCell ⟨gl, 0, none⟩ v') gl T base E size n' xs' ∧ KeepRU (RowAt gl T) B W (w'.setCell ⟨gl, 0, none⟩ v') ∧ Below lo W (w'.setCell ⟨gl, 0, none⟩ v') ∧ (∀ k, k < W.heap.size → k ≠ gl → v.ownBlock ≠ some k → (w'.setCell ⟨gl, 0, none⟩ v').heap[k]? = W.heap[k]?) ∧
      (∀ k, RowAt gl T (w'.setCell ⟨gl, 0, none⟩ v') k → lo ≤ k ∧ k ≠ gl) ∧ w'.cell? ⟨gl, 0, none⟩ = some v ∧ w'.frozen? ⟨gl, 0, none⟩ = false := by
  have hlt : gl < W.heap.size := (Array.getElem?_eq_some_iff.1 hv).1
  have hold : ∀ k, k < W.heap.size → v.ownBlock ≠ some k → w'.heap[k]? = W.heap[k]? := fun k hk hne => (hg.block k (Nat.lt_of_lt_of_le hk hb.size) (fun e => hne e.symm)).trans (hb.block k hk)
  have hglne : v.ownBlock ≠ some gl := fun e => (hvb gl e).2 rfl
  have hv1 : w'.heap[gl]? = some (.cells #[v] T (0, 0)) := (hold gl hlt hglne).trans hv
  have hsame : (w'.setCell ⟨gl, 0, none⟩ v').heap[gl]? = some (.cells #[v'] T (0, 0)) := by
    rw [heap_setCell_same w' gl 0 _ T v' hv1]
    rfl
  have hoth : ∀ k, k ≠ gl → (w'.setCell ⟨gl, 0, none⟩ v').heap[k]? = w'.heap[k]? := fun k hk => Below.heap_setCell _ _ _ k hk
  have hsz : W.heap.size ≤ w'.heap.size := Nat.le_trans hb.size hg.size
  have hsz2 : (w'.setCell ⟨gl, 0, none⟩ v').heap.size = w'.heap.size := by simp [World.setCell]
  have hnew : ∀ k, v'.ownBlock = some k → lo ≤ k ∧ k ≠ gl := by
    intro k hk
    rcases hat with h1 | h1
    · exact hvb k (by rw [← h1]; exact hk)
    · rw [h1] at hk
      injection hk with hk
      have := hb.size
      omega
  refine ⟨⟨v', hsame, owns_same hown fun k hk => hoth k (hnew k hk).2⟩, ⟨by omega, fun k hk hkl hnr => ?_, fun k hr => ?_⟩, ?_, fun k hk hne hvk => ?_, fun k ⟨u, hu, hk⟩ => hnew k (by rw [← var_inj hsame hu]; exact hk), by rw [cell_of_row w' gl 0 _ _ _ hv1]; rfl, by simp [World.frozen?, hv1]⟩
  · rw [hoth k (by omega)]
    exact hold k hkl fun e => hnr ⟨v, hv, e⟩
  · obtain ⟨u, hu, hk⟩ := hr
    rw [var_inj hsame hu] at hk
    rcases hat with h1 | h1
    · exact .inl ⟨v, hv, by rw [← h1]; exact hk⟩
    · rw [h1] at hk
      injection hk with hk
      have := hb.size
      exact .inr (by omega)
  · refine ⟨hg.os.trans hb.os, hg.tape.trans hb.tape, hg.output.trans hb.output, by omega, fun k hk => ?_⟩
    rw [hoth k (by omega)]
    exact hold k (by omega) fun e => by have := (hvb k e).1; omega
  · rw [hoth k hne]
    exact hold k hk hvk

end Go.Proofs.Ytaijldcfoaeogaa
