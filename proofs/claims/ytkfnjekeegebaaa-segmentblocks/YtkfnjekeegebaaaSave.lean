/- What a world keeps: all blocks but some are as they were. -/
import Derived.Test.YtkfnjekeegebaaaMem
import Derived.Test.YtkfnjekeegebaaaBlk
namespace Go.Proofs.Ytkfnjekeegebaaa
open Go.RowKit
set_option linter.unusedSimpArgs false

/-- All blocks but those of X are as they were. -/
structure Save (X : List Nat) (w w' : World) : Prop where
  os : w'.os = w.os
  tape : w'.tape = w.tape
  output : w'.output = w.output
  size : w.heap.size ≤ w'.heap.size
  block : ∀ k, k < w.heap.size → k ∉ X → w'.heap[k]? = w.heap[k]?

theorem Save.refl (X : List Nat) (w : World) : Save X w w := ⟨rfl, rfl, rfl, Nat.le_refl _, fun _ _ _ => rfl⟩

theorem Save.trans {X : List Nat} {w w1 w2 : World} (h : Save X w w1) (h' : Save X w1 w2) : Save X w w2 :=
  ⟨h'.os.trans h.os, h'.tape.trans h.tape, h'.output.trans h.output, Nat.le_trans h.size h'.size, fun k hk hx => (h'.block k (Nat.lt_of_lt_of_le hk h.size) hx).trans (h.block k hk hx)⟩

theorem Save.mono {X Y : List Nat} {w w' : World} (h : Save X w w') (hXY : ∀ k ∈ X, k ∈ Y) : Save Y w w' := ⟨h.os, h.tape, h.output, h.size, fun k hk hx => h.block k hk fun hX => hx (hXY k hX)⟩

theorem Save.of_below {w w' : World} (h : Below w.heap.size w w') (X : List Nat) : Save X w w' := ⟨h.os, h.tape, h.output, h.size, fun k hk _ => h.block k hk⟩

theorem Save.put {X : List Nat} {w w' : World} (h : Save X w w') {g : Nat} (hg : g ∈ X) (o : Obj) : Save X w (put w' g o) :=
  h.trans ⟨rfl, rfl, rfl, by simp [Go.Proofs.Ytkfnjekeegebaaa.put], fun k _ hk => put_other (by rintro rfl; exact hk hg)⟩

theorem Save.alloc {X : List Nat} {w w' : World} (h : Save X w w') (o : Obj) : Save X w (w'.alloc o) := h.trans (Save.of_below (Below.alloc0 _ _) X)

theorem Save.drew {X : List Nat} {w w' : World} (h : Save X w w') : Save X w w'.drew := h.trans (Save.of_below (Below.refl _ _).drew X)

theorem Save.drewN {X : List Nat} {w w' : World} (h : Save X w w') (m : Nat) : Save X w (w'.drewN m) := h.trans ⟨rfl, rfl, rfl, Nat.le_refl _, fun _ _ _ => rfl⟩

theorem Save.below {X : List Nat} {w w' : World} {B : Nat} (h : Save X w w') (hB : B ≤ w.heap.size) (hX : ∀ k ∈ X, B ≤ k) : Below B w w' :=
  ⟨h.os, h.tape, h.output, h.size, fun k hk => h.block k (Nat.lt_of_lt_of_le hk hB) fun hx => by have := hX k hx; omega⟩

theorem Rd.save {w w' : World} {X : List Nat} {a : Option Addr} {n : Nat} {l : List Nat} (h : Rd w a n l) (hs : Save X w w') (hX : ∀ b o, a = some ⟨b, o, none⟩ → b ∉ X) : Rd w' a n l := by
  refine ⟨h.1, h.2.1, fun hn => ?_⟩
  obtain ⟨b, o, rfl, hc⟩ := h.2.2 hn
  refine ⟨b, o, rfl, fun j hj => ?_⟩
  have hlt : b < w.heap.size := World.block_lt_of_cell? w _ (hc j hj)
  rw [← hc j hj]
  simp only [World.cell?, hs.block b hlt (hX b o rfl)]

theorem Own.save {w w' : World} {X : List Nat} {base g n c : Nat} {l : List Nat} (h : Own w base (.slice (some ⟨g, 0, none⟩) n c) l) (hs : Save X w w') (hg : g ∉ X) : Own w' base (.slice (some ⟨g, 0, none⟩) n c) l := by
  obtain ⟨hb, h0, h1⟩ := h
  refine ⟨hb, h0, ?_⟩
  rcases h1 with ⟨hv, _⟩ | ⟨g', cap', cur, hv, hbg, hgo, rest⟩
  · cases hv
  · have e := hv
    injection e with e1 e2 e3
    injection e1 with e1
    injection e1 with e1
    subst e1
    exact .inr ⟨g, cap', cur, hv, hbg, (hs.block g (lt_of_block hgo) hg).trans hgo, rest⟩

theorem Save.set (w : World) (g i : Nat) (u : Value) : Save [g] w (w.setCell ⟨g, i, none⟩ u) := by
  have h := grown_set w g i u
  exact ⟨h.os, h.tape, h.output, h.size, fun k hk hx => h.block k hk (by intro e; injection e with e; exact hx (by simp [e]))⟩

end Go.Proofs.Ytkfnjekeegebaaa
