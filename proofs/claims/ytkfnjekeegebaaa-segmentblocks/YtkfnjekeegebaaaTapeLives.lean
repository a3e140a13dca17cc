/- The chapter's example, run. -/
import Derived.Test.YtkfnjekeegebaaaTapeNew
import Derived.Lib.SlBytesConst
namespace Go.Proofs.Ytkfnjekeegebaaa
open Go.RowKit
set_option linter.unusedSimpArgs false

theorem pow_laid (w : World) (s : Pw) : Pow (w.alloc (powObj s)) w.heap.size s := heap_alloc_new w _

theorem rdI_nil (w : World) : RdI w none 0 [] := ⟨rfl, by simp, by omega⟩

/-- A tape of the call's own: all that it has lies behind w. -/
structure Liv (w W : World) (gt gp : Nat) (s : Pw) (t : Tst) (F : List Nat) : Prop where
  tap : Tap W gt gp s t F
  own : ∀ k ∈ F, w.heap.size ≤ k
  gpo : w.heap.size ≤ gp
  bel : Below w.heap.size w W

theorem Liv.later {w W W' : World} {gt gp : Nat} {s : Pw} {t : Tst} {F : List Nat} (h : Liv w W gt gp s t F) (hb : Below W.heap.size W W') : Liv w W' gt gp s t F :=
  ⟨h.tap.later hb, h.own, h.gpo, h.bel.trans (hb.mono h.bel.size)⟩

theorem Liv.gplt {w W : World} {gt gp : Nat} {s : Pw} {t : Tst} {F : List Nat} (h : Liv w W gt gp s t F) : gp < W.heap.size := by
  obtain ⟨v, X, bW, bR, h⟩ := h.tap
  exact h.pow.lt

theorem Liv.fl {w W : World} {gt gp : Nat} {s : Pw} {t : Tst} {F : List Nat} (h : Liv w W gt gp s t F) : ∀ k ∈ F, k < W.heap.size := by
  obtain ⟨v, X, bW, bR, h⟩ := h.tap
  exact h.fl

theorem Liv.belF {w W W' : World} {gt gp : Nat} {s : Pw} {t : Tst} {F : List Nat} (h : Liv w W gt gp s t F) (hs : Save (gp :: F) W W') : Below w.heap.size w W' := by
  refine h.bel.trans (hs.below h.bel.size ?_)
  intro k hk
  simp only [List.mem_cons] at hk
  rcases hk with rfl | hk
  · exact h.gpo
  · exact h.own k hk

theorem Liv.next {w W W' : World} {gt gp : Nat} {s s' : Pw} {t t' : Tst} {F F' : List Nat} (h : Liv w W gt gp s t F) (hT : Tap W' gt gp s' t' F') (hs : Save (gp :: F) W W') (hF : ∀ k ∈ F', k ∈ F ∨ W.heap.size ≤ k) : Liv w W' gt gp s' t' F' :=
  ⟨hT, fun k hk => (hF k hk).elim (h.own k) (fun h2 => Nat.le_trans h.bel.size h2), h.gpo, h.belF hs⟩

end Go.Proofs.Ytkfnjekeegebaaa
