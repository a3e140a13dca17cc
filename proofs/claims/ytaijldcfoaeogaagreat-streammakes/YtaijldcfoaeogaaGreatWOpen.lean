/- Writes that came in: one, and a slice of them. -/
import Derived.Test.YtaijldcfoaeogaaGreatGILikeToReady
import Derived.Test.YtaijldcfoaeogaaGreatMemOpen
import Derived.Test.YtaijldcfoaeogaaGreatStructs
import Derived.Lib.SmallJoins
import Derived.SizedLaws
namespace Go.Proofs.YtaijldcfoaeogaaGreat
open Go.ChangeShapes Go.WideShapes Go.ChangeAt Go.RowKit Go.Deep

/-- A slice of bytes that came in. -/
theorem rdC_open {H : Type} {enc : TypeId × Value → H} {W : World} {b0 : Nat} {held : Bool} {v : Value} {m : Nat} {x : DataW H × List MemPlace}
    (h : DataW.trod enc Tryz.prog W b0 (fun _ => true) held m 31 [v] = some x) : ∃ a n c l, v = .slice a n c ∧ n ≤ c ∧ Rd W a n l := by
  rcases open_ints Tryz.underlying31 Tryz.underlying5 (by kernel_rfl) h with ⟨hcs, _⟩ | ⟨x, l, c', zs, hcs, _, hl, hm, hz, _, hcell, hwz⟩
  · simp only [List.cons.injEq, and_true] at hcs
    subst hcs
    exact ⟨none, 0, 0, [], rfl, Nat.le_refl _, rfl, by simp, by simp⟩
  · simp only [List.cons.injEq, and_true] at hcs
    subst hcs
    exact ⟨some x, l, c', (zs.take l).map Int.toNat, rfl, hl, (nums_of (k := .u8) (fun z hz => (bounds_u8 hz).1) hl (by simpa using hz) hcell hwz).rd⟩

theorem list3 {α : Type} {l : List α} (h : l.length = 3) : ∃ a b c, l = [a, b, c] := by
  match l, h with
  | [a, b, c], _ => exact ⟨a, b, c, rfl⟩

theorem cellsW : Tryz.prog.cellsOf 3 = 1 ∧ Tryz.prog.cellsOf 4 = 1 ∧ Tryz.prog.cellsOf 31 = 1 ∧ Tryz.prog.cellsOf 62 = 3 := by
  refine ⟨?_, ?_, ?_, ?_⟩ <;> kernel_rfl

/-- The cells of a write. -/
def wrV (r : Wr) : List Value := [.int .i64 r.i, .bool r.clr, .slice r.a r.m r.c]

/-- What a write's parts are. -/
def Wr.fits (r : Wr) (W : World) : Prop := (Lit.int .i64 r.i).wf = true ∧ r.m ≤ r.c ∧ Rd W r.a r.m r.x

/-- One write that came in. -/
theorem write_open {H : Type} {enc : TypeId × Value → H} {W : World} {b0 : Nat} {held : Bool} {m : Nat} {cs : List Value} {D : DataW H × List MemPlace}
    (h : DataW.trod enc Tryz.prog W b0 (fun _ => true) held m 62 cs = some D) : ∃ r : Wr, wrV r = cs ∧ r.fits W := by
  obtain ⟨q1, q2, q3, q4⟩ := cellsW
  obtain ⟨ys, k, _, _, hcl, hyl, hg⟩ := DataW.trod_struct Tryz.underlying62 h
  rw [q4] at hcl
  obtain ⟨c0, c1, c2, rfl⟩ := list3 hcl
  obtain ⟨y0, y1, y2, rfl⟩ := list3 hyl
  have f0 : DataW.trod enc Tryz.prog W b0 (fun _ => true) held k 3 [c0] = some y0 := by
    have h0 : DataW.trod enc Tryz.prog W b0 (fun _ => true) held k 3 (([c0, c1, c2].drop 0).take (Tryz.prog.cellsOf 3)) = some y0 := hg 0 _ rfl
    rw [q1] at h0
    exact h0
  have f1 : DataW.trod enc Tryz.prog W b0 (fun _ => true) held k 4 [c1] = some y1 := by
    have h0 : DataW.trod enc Tryz.prog W b0 (fun _ => true) held k 4 (([c0, c1, c2].drop 1).take (Tryz.prog.cellsOf 4)) = some y1 := hg 1 _ rfl
    rw [q2] at h0
    exact h0
  have f2 : DataW.trod enc Tryz.prog W b0 (fun _ => true) held k 31 [c2] = some y2 := by
    have h0 : DataW.trod enc Tryz.prog W b0 (fun _ => true) held k 31 (([c0, c1, c2].drop 2).take (Tryz.prog.cellsOf 31)) = some y2 := hg 2 _ rfl
    rw [q3] at h0
    exact h0
  obtain ⟨I, e0, _, w0⟩ := DataW.trod_int Tryz.underlying3 f0
  obtain ⟨B, e1, _⟩ := DataW.trod_bool Tryz.underlying4 f1
  simp only [List.cons.injEq, and_true] at e0 e1
  subst e0 e1
  obtain ⟨a, n, c, l, rfl, hnc, hB⟩ := rdC_open f2
  exact ⟨⟨I, B, a, n, c, l⟩, rfl, w0, hnc, hB⟩

/-- A slice of writes that came in. -/
theorem writes_open {H : Type} {enc : TypeId × Value → H} {W : World} {b0 : Nat} {held : Bool} {a : Option Addr} {n c : Nat} {d : DataW H} {p : List MemPlace}
    (h : DataW.Trod enc Tryz.prog W b0 (fun _ => true) held 22 (.slice a n c) d p) (hsz : ∀ z ∈ d.weights Tryz.prog 22, z ≤ reachBytes) : n ≤ reachBytes ∧ ∃ X, RdW W a n X := by
  obtain ⟨q1, q2, q3, q4⟩ := cellsW
  obtain ⟨fuel, hf⟩ := h
  rcases open_slice Tryz.underlying22 hf with ⟨hcs, _⟩ | ⟨x, len, cap, m, k, D, Pl, hcs, _, hl, hm, hmm, hd, hi⟩
  · simp [Value.cells] at hcs
    obtain ⟨rfl, rfl, rfl⟩ := hcs
    exact ⟨Nat.zero_le _, [], rfl, by simp, by omega⟩
  · simp [Value.cells] at hcs
    obtain ⟨rfl, rfl, rfl⟩ := hcs
    simp only [if_true] at hmm
    subst hmm
    have hreach : m ≤ reachBytes := by
      have h1 := hsz (m * Tryz.prog.bytesOf 62) (by
        injection hd with hd _
        rw [hd]
        simp only [DataW.weights, Tryz.underlying22, List.length_map, List.length_range]
        have h2 : n + (m - n) = m := by omega
        rw [h2]
        simp)
      exact Nat.le_trans (Nat.le_mul_of_pos_right m (of_decide_eq_true (by kernel_rfl))) h1
    have cell : ∀ i, ∃ y : Wr, i < n → (∀ j u, (wrV y)[j]? = some u → W.cell? (x.add (i * 3 + j)) = some u) ∧ y.fits W := by
      intro i
      by_cases hin : i < n
      · obtain ⟨cs, hc, htr⟩ := hi i (by omega)
        obtain ⟨_, hcl, hat⟩ := World.cells?_some hc
        rw [q4] at hcl hat
        obtain ⟨y, hy, hfit⟩ := write_open htr
        refine ⟨y, fun _ => ⟨fun j u hu => ?_, hfit⟩⟩
        rw [hy] at hu
        have hj : j < 3 := by
          rcases Nat.lt_or_ge j 3 with h | h
          · exact h
          · rw [List.getElem?_eq_none (by omega)] at hu; cases hu
        have hcell := hat j hj
        rw [Go.Deep.add_add] at hcell
        exact hcell.trans hu
      · exact ⟨default, fun h => absurd h hin⟩
    obtain ⟨f, hfx⟩ := Classical.axiomOfChoice cell
    refine ⟨by omega, (List.range n).map f, by simp, ?_, fun h0 => ?_⟩
    · intro y hy
      simp only [List.mem_map, List.mem_range] at hy
      obtain ⟨i, hi', rfl⟩ := hy
      exact (hfx i hi').2
    · obtain ⟨b, o, sp⟩ := x
      have hv := (hfx 0 h0).1 0 _ rfl
      have hsp : sp = none := by simpa [Addr.add] using World.cell?_spot hv
      subst hsp
      refine ⟨b, o, rfl, fun j hj => ?_⟩
      have e : ((List.range n).map f).getD j default = f j := by simp [List.getD, hj]
      rw [e]
      have h3 : ∀ t u, (wrV (f j))[t]? = some u → W.cell? ⟨b, o + (j * 3 + t), none⟩ = some u := fun t u hu => by
        have := (hfx j hj).1 t u hu
        rw [Go.WideShapes.add_plain] at this
        exact this
      exact ⟨h3 0 _ rfl, h3 1 _ rfl, h3 2 _ rfl⟩
end Go.Proofs.YtaijldcfoaeogaaGreat
