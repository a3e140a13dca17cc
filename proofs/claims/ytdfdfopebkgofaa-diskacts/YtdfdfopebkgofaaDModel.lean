/- The document's own disk (all bytes, and power), in memory: its put, all, read. -/
import Derived.Test.YtdfdfopebkgofaaDiskAll
namespace Go.Proofs.Ytdfdfopebkgofaa
open Go.RowKit
set_option linter.unusedSimpArgs false

/-- Writes till power falls; below 0: none. -/
def Pw.till (s : Pw) : Int := match s.plan with | some (k, _) => (k : Int) | none => -1

def mObj (gr n : Nat) (on : Bool) (p t : Int) : Obj := .cells #[.slice (some ⟨gr, 0, none⟩) n n, .bool on, .int .i64 p, .int .i64 t] 34 (0, 0)

/-- Block gm is the document's disk, of power s, its bytes L in block gr. -/
structure Mod (w : World) (gm gr : Nat) (s : Pw) (L : List Nat) (k : Nat) : Prop where
  obj : ∃ t, w.heap[gm]? = some (mObj gr (64 * k) s.on s.till t) ∧ ∀ j u, s.plan = some (j, u) → t = u
  row : w.heap[gr]? = some (rowObj 5 L)
  len : L.length = 64 * k
  byte : ∀ x ∈ L, x < 256
  ksmall : k ≤ 65536
  ne : gm ≠ gr

theorem mcells {w : World} {gm gr n : Nat} {on : Bool} {p t : Int} (h : w.heap[gm]? = some (mObj gr n on p t)) :
    w.cell? ⟨gm, 0, none⟩ = some (.slice (some ⟨gr, 0, none⟩) n n) ∧ w.cell? ⟨gm, 1, none⟩ = some (.bool on) ∧ w.cell? ⟨gm, 2, none⟩ = some (.int .i64 p) ∧ w.cell? ⟨gm, 3, none⟩ = some (.int .i64 t) := by
  refine ⟨?_, ?_, ?_, ?_⟩ <;> rw [cell_of_row w gm _ _ 34 (0, 0) h] <;> rfl

theorem msoft {w : World} {gm gr n : Nat} {on : Bool} {p t : Int} (h : w.heap[gm]? = some (mObj gr n on p t)) (i : Nat) : w.frozen? ⟨gm, i, none⟩ = false := by
  simp [World.frozen?, h, mObj]

theorem mlay0 {w : World} {gm gr n : Nat} {on : Bool} {p t : Int} (h : w.heap[gm]? = some (mObj gr n on p t)) (x : Nat) : w.setCell ⟨gm, 0, none⟩ (.slice (some ⟨x, 0, none⟩) n n) = put w gm (mObj x n on p t) := set_put _ h
theorem mlay1 {w : World} {gm gr n : Nat} {on : Bool} {p t : Int} (h : w.heap[gm]? = some (mObj gr n on p t)) (x : Bool) : w.setCell ⟨gm, 1, none⟩ (.bool x) = put w gm (mObj gr n x p t) := set_put _ h
theorem mlay2 {w : World} {gm gr n : Nat} {on : Bool} {p t : Int} (h : w.heap[gm]? = some (mObj gr n on p t)) (x : Int) : w.setCell ⟨gm, 2, none⟩ (.int .i64 x) = put w gm (mObj gr n on x t) := set_put _ h
theorem mlay3 {w : World} {gm gr n : Nat} {on : Bool} {p t : Int} (h : w.heap[gm]? = some (mObj gr n on p t)) (x : Int) : w.setCell ⟨gm, 3, none⟩ (.int .i64 x) = put w gm (mObj gr n on p x) := set_put _ h

theorem Mod.lts {w : World} {gm gr k : Nat} {s : Pw} {L : List Nat} (h : Mod w gm gr s L k) : gm < w.heap.size ∧ gr < w.heap.size := by
  obtain ⟨t, ht, _⟩ := h.obj
  exact ⟨lt_of_block ht, lt_of_block h.row⟩

theorem Mod.save {w w' : World} {gm gr k : Nat} {s : Pw} {L : List Nat} {X : List Nat} (h : Mod w gm gr s L k) (hs : Save X w w') (hX : gm ∉ X ∧ gr ∉ X) : Mod w' gm gr s L k := by
  obtain ⟨t, ht, hp⟩ := h.obj
  exact ⟨⟨t, (hs.block _ h.lts.1 hX.1).trans ht, hp⟩, (hs.block _ h.lts.2 hX.2).trans h.row, h.len, h.byte, h.ksmall, h.ne⟩

theorem Mod.later {w w' : World} {gm gr k : Nat} {s : Pw} {L : List Nat} (h : Mod w gm gr s L k) (hs : Below w.heap.size w w') : Mod w' gm gr s L k := h.save (X := []) (Save.of_below hs _) (by simp)

theorem Mod.rd {w : World} {gm gr k : Nat} {s : Pw} {L : List Nat} (h : Mod w gm gr s L k) : Rd w (some ⟨gr, 0, none⟩) (64 * k) L := rd_rowObj h.row h.len h.byte

theorem mput_no (w : World) (gm gr k : Nat) (s : Pw) (L : List Nat) (i : Int) (a : Option Addr) (n c : Nat) (h : Mod w gm gr s L k) (hi : i < 0 ∨ (k : Int) ≤ i ∨ 64 < n) :
    Calls Try.prog 9 #[.pointer (some ⟨gm, 0, none⟩), .int .i64 i, .slice a n c] w fun e w' => e = .returned (.int .i64 1) ∧ w' = w := by
  obtain ⟨t, ht, _⟩ := h.obj
  have c0 := (mcells ht).1
  have hk := h.ksmall
  clear h ht
  by_cases h1 : i < 0
  · clear hi
    go_enter Try.func9, Try.ntmps9
    go_wp2
    go_ret
    exact ⟨rfl, rfl⟩
  · obtain ⟨j, rfl⟩ : ∃ j : Nat, i = (j : Int) := ⟨i.toNat, by omega⟩
    have hdiv : ((64 * k : Nat) : Int) / 64 = (k : Int) := by omega
    have hdiv2 : ((64 * k : Nat) : Int).tdiv 64 = (k : Int) := by rw [Int.tdiv_eq_ediv_of_nonneg (by omega)]; omega
    obtain ⟨K, hK⟩ : ∃ K : Nat, K = 64 * k := ⟨_, rfl⟩
    rw [← hK] at c0 hdiv hdiv2
    clear hK h1
    by_cases h2 : k ≤ j
    · clear hi
      go_enter Try.func9, Try.ntmps9
      go_wp2
      go_ret
      exact ⟨rfl, rfl⟩
    · have h3 : 64 < n := by omega
      have h4 : j < k := by omega
      clear hi h2
      go_enter Try.func9, Try.ntmps9
      go_wp2
      go_ret
      exact ⟨rfl, rfl⟩

theorem mput_down (w : World) (gm gr k : Nat) (s : Pw) (L : List Nat) (i : Nat) (a : Option Addr) (n c : Nat) (h : Mod w gm gr s L k) (hi : i < k) (hn : n ≤ 64) (ho : s.on = false) :
    Calls Try.prog 9 #[.pointer (some ⟨gm, 0, none⟩), .int .i64 (i : Int), .slice a n c] w fun e w' => e = .returned (.int .i64 11) ∧ w' = w := by
  obtain ⟨t, ht, _⟩ := h.obj
  rw [ho] at ht
  obtain ⟨c0, c1, _, _⟩ := mcells ht
  have hk := h.ksmall
  have hdiv : ((64 * k : Nat) : Int) / 64 = (k : Int) := by omega
  obtain ⟨K, hK⟩ : ∃ K : Nat, K = 64 * k := ⟨_, rfl⟩
  rw [← hK] at c0 hdiv
  clear hK h ho ht
  go_enter Try.func9, Try.ntmps9
  go_wp2
  go_ret
  exact ⟨rfl, rfl⟩

end Go.Proofs.Ytdfdfopebkgofaa
