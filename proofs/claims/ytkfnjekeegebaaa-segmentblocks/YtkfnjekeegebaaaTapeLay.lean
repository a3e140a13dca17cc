/- The contract of a tape's add. -/
import Derived.Test.YtkfnjekeegebaaaTapeAdd
import Derived.Deep.RegionLaw
namespace Go.Proofs.Ytkfnjekeegebaaa
open Go.RowKit
set_option linter.unusedSimpArgs false

/-- bytes.Clone, and where the bytes lie. -/
theorem clone_at (a : Option Addr) (n c : Nat) (l : List Nat) (w : World) (h : Rd w a n l) (hn : n ≤ 1000000) :
    Calls Try.prog 29 #[.slice a n c] w fun e w' => ∃ a' c', e = .returned (.slice a' n c') ∧ Rd w' a' n l ∧ n ≤ c' ∧ (∀ b o, a' = some ⟨b, o, none⟩ → w.heap.size ≤ b ∧ b < w'.heap.size) ∧ Below w.heap.size w w' := by
  refine (clone_any a n c l w h hn).mono ?_
  rintro e w' ⟨v, rfl, ho, hb⟩
  obtain ⟨a', c', rfl, hr, hc⟩ := ho.sl
  have hl := h.1
  refine ⟨a', c', by rw [hl], by rw [hl] at hr; exact hr, by omega, ?_, hb⟩
  rintro b o rfl
  exact ho.2.lt b rfl

/-- The piece is laid: what the tape is then. -/
theorem add_end {w WZ w7 : World} {gt gp : Nat} {s : Pw} {t : Tst} {F : List Nat} {v : Value} {X : List PC} {bW bR : Nat} (h : Tp w gt gp s t F v X bW bR) {a' : Option Addr} {n c' E gg cap : Nat} {l : List Nat} {o : Obj}
    (hW : Below w.heap.size w WZ) (hrd : Rd WZ a' n l) (hc : n ≤ c') (hloc : ∀ b o, a' = some ⟨b, o, none⟩ → w.heap.size ≤ b ∧ b < WZ.heap.size)
    (hown : w7.ownsRow 0 99 2 (.slice (some ⟨gg, 0, none⟩) (X.length + 1) cap) (X.length + 1) (cP X ++ [.slice a' n c', .int .i64 (E : Int)])) (hg : (WZ.alloc o).grownBy w7 v.ownBlock)
    (hat : v.ownBlock = some gg ∨ gg = (WZ.alloc o).heap.size) (hn : l.length = n) (hE : E = usedOf t.P + 4 + n) (hfit : usedOf t.P + (4 + n) ≤ t.room) :
    ∃ F', Tap (w7.setCell ⟨gt, 5, none⟩ (.slice (some ⟨gg, 0, none⟩) (X.length + 1) cap)) gt gp s (t.add l) F' ∧ Save F w (w7.setCell ⟨gt, 5, none⟩ (.slice (some ⟨gg, 0, none⟩) (X.length + 1) cap)) ∧ ∀ k ∈ F', k ∈ F ∨ w.heap.size ≤ k := by
  have hgt := lt_of_block h.obj
  have hrn := h.row_ne
  have hsz : w.heap.size ≤ WZ.heap.size := hW.size
  have hsa : (WZ.alloc o).heap.size = WZ.heap.size + 1 := by simp
  have hold : ∀ k, k < WZ.heap.size → v.ownBlock ≠ some k → w7.heap[k]? = WZ.heap[k]? := fun k hk hne =>
    (hg.block k (by omega) (fun e => hne e.symm)).trans (heap_alloc_old WZ o hk)
  have ho7 : w7.heap[gt]? = some (tapObj gp t.room t.early bW bR v t.pos) := (hold gt (by omega) hrn.1).trans ((hW.block gt hgt).trans h.obj)
  have hgg : gg ≠ gt := by
    rintro rfl
    rcases hat with hat | hat
    · exact hrn.1 hat
    · omega
  rw [setCell5 ho7]
  have hk : ∀ k, k < w.heap.size → k ≠ gt → v.ownBlock ≠ some k → (put w7 gt (tapObj gp t.room t.early bW bR (.slice (some ⟨gg, 0, none⟩) (X.length + 1) cap) t.pos)).heap[k]? = w.heap[k]? := fun k hk h1 h2 =>
    (put_other h1).trans ((hold k (by omega) h2).trans (hW.block k hk))
  have hrow : (put w7 gt (tapObj gp t.room t.early bW bR (.slice (some ⟨gg, 0, none⟩) (X.length + 1) cap) t.pos)).ownsRow 0 99 2 (.slice (some ⟨gg, 0, none⟩) (X.length + 1) cap) (X.length + 1) (cP (X ++ [⟨a', c', l, E⟩])) := by
    have e : cP (X ++ [⟨a', c', l, E⟩]) = cP X ++ [.slice a' n c', .int .i64 (E : Int)] := by
      rw [cP_append, ← hn]; rfl
    rw [e]
    refine ⟨hown.1, ?_⟩
    rcases hown.2 with ⟨hv, _⟩ | ⟨g', cap', cur, hv, h0, hgo, rest⟩
    · cases hv
    · have e1 := hv
      injection e1 with e1
      injection e1 with e1
      injection e1 with e1
      subst e1
      exact .inr ⟨gg, cap', cur, hv, h0, (put_other hgg).trans hgo, rest⟩
  have hs70 : WZ.heap.size ≤ w7.heap.size := Nat.le_trans (by omega) hg.size
  have hlocn : ∀ b o, a' = some ⟨b, o, none⟩ → w.heap.size ≤ b ∧ (some gg : Option Nat) ≠ some b ∧ b < (put w7 gt (tapObj gp t.room t.early bW bR (.slice (some ⟨gg, 0, none⟩) (X.length + 1) cap) t.pos)).heap.size := by
    intro b o' e
    obtain ⟨h1, h2⟩ := hloc b o' e
    refine ⟨h1, fun e => ?_, by rw [put_size]; omega⟩
    injection e with e
    subst e
    rcases hat with hat | hat
    · have := (h.row.lt _ hat).2
      omega
    · omega
  obtain ⟨F', hT, hF⟩ := h.addRow (w' := put w7 gt (tapObj gp t.room t.early bW bR (.slice (some ⟨gg, 0, none⟩) (X.length + 1) cap) t.pos)) (v' := .slice (some ⟨gg, 0, none⟩) (X.length + 1) cap) ⟨a', c', l, E⟩ (put_same ho7) hrow
    (by
      rcases hat with hat | hat
      · exact .inl hat.symm
      · exact .inr ⟨gg, rfl, by omega⟩) (by rw [put_size]; omega) hk (by
      simp only [hn]
      refine ⟨hrd.1, hrd.2.1, fun h0 => ?_⟩
      obtain ⟨b, o', e, hcl⟩ := hrd.2.2 h0
      refine ⟨b, o', e, fun j hj => ?_⟩
      obtain ⟨h1, h2⟩ := hloc b o' e
      rw [← hcl j hj]
      have hne : v.ownBlock ≠ some b := fun e => by
        have := (h.row.lt _ e).2
        omega
      simp only [World.cell?, (put_other (show b ≠ gt by omega) : (put w7 gt _).heap[b]? = _), hold b h2 hne]) (by simp only [hn]; exact hc) hlocn (by simp only [hn]; omega) (by simp only [hn]; exact hfit)
  refine ⟨F', ⟨_, _, _, _, hT⟩, ?_, hF⟩
  have hs7 : Save F w w7 := by
    refine ⟨hg.os.trans hW.os, hg.tape.trans hW.tape, hg.output.trans hW.output, Nat.le_trans hsz (Nat.le_trans (by omega) hg.size), fun k hk hx => ?_⟩
    exact (hold k (by omega) (fun e => hx (h.fv k e))).trans (hW.block k hk)
  exact hs7.put h.ft _

set_option maxHeartbeats 4000000 in
theorem add_any (w : World) (gt gp : Nat) (s : Pw) (t : Tst) (F : List Nat) (h : Tap w gt gp s t F) (hp : t.pos = t.P.length) (a : Option Addr) (n c : Nat) (l : List Nat) (hr : Rd w a n l) (hfit : usedOf t.P + (4 + n) ≤ t.room) (hn2 : n ≤ 200) :
    Calls Try.prog 56 #[.pointer (some ⟨gt, 0, none⟩), .slice a n c] w fun e w' => e = .returned (.tuple #[]) ∧ ∃ F', Tap w' gt gp s (t.add l) F' ∧ Save F w w' ∧ ∀ k ∈ F', k ∈ F ∨ w.heap.size ≤ k := by
  obtain ⟨i0, hi0, hz0, hz1, hz2⟩ := info_parts infoP
  have HU0 : ∀ W, Below w.heap.size w W → _ := fun W hW => used_any W gt gp s t F (h.later hW)
  obtain ⟨v, X, bW, bR, h⟩ := h
  have HH := Lib.hid h
  have hroom := h.roomle
  have huu : t.used = usedOf t.P := by unfold Tst.used; rw [hp, List.take_length]
  rw [huu] at HU0
  have hX := h.len
  have hsm := usedOf_len t.P
  obtain ⟨u, hu⟩ : ∃ u, u = usedOf t.P := ⟨_, rfl⟩
  rw [← hu] at HU0 hfit hsm
  have hw1 : IntKind.i64.wrap ((u : Int) + 4) = ((u + 4 : Nat) : Int) := by rw [IntKind.wrap_i64] <;> omega
  have hw2 : IntKind.i64.wrap (((u + 4 : Nat) : Int) + (n : Int)) = ((u + 4 + n : Nat) : Int) := by rw [IntKind.wrap_i64] <;> omega
  obtain ⟨u4, hu4⟩ : ∃ u4, u4 = u + 4 := ⟨_, rfl⟩
  obtain ⟨E, hE⟩ : ∃ E, E = u + 4 + n := ⟨_, rfl⟩
  rw [← hE] at hw2
  rw [← hu4] at hw1 hw2
  obtain ⟨Y, hY⟩ : ∃ Y : List Nat, Y = v.ownBlock.toList := ⟨_, rfl⟩
  have hYF : ∀ k ∈ Y, k ∈ F := by
    intro k hk
    rw [hY] at hk
    simp only [Option.mem_toList] at hk
    exact h.fv k hk
  have hgtY : gt ∉ Y := by
    rw [hY]
    simp only [Option.mem_toList]
    exact h.row_ne.1
  have HU : Hid (∀ W, Below w.heap.size w W → Calls Try.prog 53 #[.pointer (some ⟨gt, 0, none⟩)] W fun e w' => e = .returned (.int .i64 (u : Int)) ∧ w'.cell? ⟨gt, 5, none⟩ = some v ∧ (∀ o, (w'.alloc o).cell? ⟨gt, 5, none⟩ = some v) ∧ Hid (Below w.heap.size w w' ∧ ∀ b, b < W.heap.size → b < w'.heap.size ∧ w'.heap[b]? = W.heap[b]?)) := by
    refine Lib.hid fun W hW => (HU0 W hW).mono ?_
    rintro e w' ⟨rfl, m, rfl⟩
    have hc : (W.drewN m).cell? ⟨gt, 5, none⟩ = some v := (h.later hW).cells.2.2.2.2.2.1
    exact ⟨rfl, hc, fun o => Lib.cell?_alloc_some _ hc, Lib.hid ⟨⟨hW.os, hW.tape, hW.output, hW.size, hW.block⟩, fun b hb => ⟨hb, rfl⟩⟩⟩
  have HC : Hid (∀ W, Below w.heap.size w W → Calls Try.prog 29 #[.slice a n c] W fun e w' => ∃ a' c', e = .returned (.slice a' n c') ∧ w'.cell? ⟨gt, 5, none⟩ = some v ∧ (∀ o, (w'.alloc o).cell? ⟨gt, 5, none⟩ = some v) ∧ Hid (Below w.heap.size w w' ∧ Rd w' a' n l ∧ n ≤ c' ∧ ∀ b o, a' = some ⟨b, o, none⟩ → w.heap.size ≤ b ∧ b < w'.heap.size)) := by
    refine Lib.hid fun W hW => (clone_at a n c l W (hr.later hW) (by omega)).mono ?_
    rintro e w' ⟨a', c', rfl, h1, h2, h3, h4⟩
    have hb := hW.trans (h4.mono hW.size)
    have hc := (h.later hb).cells.2.2.2.2.2.1
    refine ⟨a', c', rfl, hc, fun o => Lib.cell?_alloc_some _ hc, Lib.hid ⟨hb, h1, h2, fun b o e => ⟨Nat.le_trans hW.size (h3 b o e).1, (h3 b o e).2⟩⟩⟩
  have d5 := h.cells.2.2.2.2.2.1
  have HROW : Hid (∀ W, Below w.heap.size w W → W.ownsRow 0 99 2 v X.length (cP X)) := Lib.hid fun W hW => (h.later hW).row
  have HG : Hid (∀ W w7, Below w.heap.size w W → W.grownBy w7 v.ownBlock → w7.heap[gt]? = w.heap[gt]? ∧ w7.cell? ⟨gt, 5, none⟩ = some v ∧ w7.frozen? ⟨gt, 5, none⟩ = false) := by
    refine Lib.hid fun W w7 hW hg => ?_
    have hlt := lt_of_block h.obj
    have e : w7.heap[gt]? = w.heap[gt]? := (hg.block gt (Nat.lt_of_lt_of_le hlt hW.size) (fun e => h.row_ne.1 e.symm)).trans (hW.block gt hlt)
    have e2 := e.trans h.obj
    refine ⟨e, ?_, ?_⟩
    · rw [cell_of_row w7 gt _ _ 80 (0, 0) e2]; rfl
    · simp [World.frozen?, e2, tapObj]
  have hmx : X.length + 1 ≤ maxLen := by unfold maxLen; omega
  have hby : (X.length + 1) * 32 ≤ 140737488355328 := by omega
  have HN := Lib.hid (And.intro hu (And.intro hu4 (And.intro hE (And.intro hr.1 hfit))))
  clear h hroom huu hX hsm hu hu4 hE HU0 hr hfit hp hY hYF hgtY
  go_enter Try.func56, Try.ntmps56
  go_upto_region 0 with fail
  go_region_law (first
    | (go_simp; go_at_call 29; refine (HC.out _ ?_).mono ?_; (first | exact HBU.out.1 | exact (Below.refl _ _).drew); rintro e wA ⟨a', c', rfl, kA, kA2, HBA⟩; dsimp only)
    | (go_simp; go_at_call 53; refine (HU.out _ ?_).mono ?_; (first | exact HBA.out.1 | exact (Below.refl _ _).drew); rintro e wU ⟨rfl, kU, kU2, HBU⟩; dsimp only)
    | (refine step_append_lies _ (by rfl) _ _ _ (by rfl) 0 99 i0 _ 2 32 Try.underlying78 hi0 hz0 hz1 hz2 rfl (by omega) v X.length (cP X) (by rfl) (HROW.out _ (HBU.out.1.alloc HBU.out.1.size _))
        ⟨wU.heap.size, 0, none⟩ 1 1 [.slice a' n c', .int .i64 (E : Int)] (by rfl) (by rfl) (World.news_of_block (cs := #[.slice a' n c', .int .i64 (E : Int)]) (t := 99) (fr := (0, 0)) (heap_alloc_new wU _)) (by simp [Value.oneCell'])
        (by omega) hmx hby (Nat.zero_le _) _ rfl ?_; intro gg cap w7 hown1 hgrow hat hlt; obtain ⟨k1, k2, k3⟩ := HG.out _ _ (HBU.out.1.alloc HBU.out.1.size _) hgrow; have HR7 := Lib.hid (And.intro hown1 (And.intro hgrow (And.intro hat (And.intro hlt k1)))); clear hown1 hgrow hat hlt k1)
    | (refine step_append_lies _ (by rfl) _ _ _ (by rfl) 0 99 i0 _ 2 32 Try.underlying78 hi0 hz0 hz1 hz2 rfl (by omega) v X.length (cP X) (by rfl) (HROW.out _ (HBA.out.1.alloc HBA.out.1.size _))
        ⟨wA.heap.size, 0, none⟩ 1 1 [.slice a' n c', .int .i64 (E : Int)] (by rfl) (by rfl) (World.news_of_block (cs := #[.slice a' n c', .int .i64 (E : Int)]) (t := 99) (fr := (0, 0)) (heap_alloc_new wA _)) (by simp [Value.oneCell'])
        (by omega) hmx hby (Nat.zero_le _) _ rfl ?_; intro gg cap w7 hown1 hgrow hat hlt; obtain ⟨k1, k2, k3⟩ := HG.out _ _ (HBA.out.1.alloc HBA.out.1.size _) hgrow; have HR7 := Lib.hid (And.intro hown1 (And.intro hgrow (And.intro hat (And.intro hlt k1)))); clear hown1 hgrow hat hlt k1))
  all_goals
    go_wp2
    go_end0
    refine ⟨rfl, ?_⟩
    obtain ⟨hown1, hgrow, hat, hlt, k1⟩ := HR7.out
    obtain ⟨hu, hu4, hE, hln, hfit⟩ := HN.out
    first
      | exact add_end HH.out HBA.out.1 HBA.out.2.1 HBA.out.2.2.1 HBA.out.2.2.2 hown1 hgrow hat hln (by omega) (by omega)
      | (refine add_end HH.out HBU.out.1 ?_ HBA.out.2.2.1 (fun b o e => ⟨(HBA.out.2.2.2 b o e).1, (HBU.out.2 b (HBA.out.2.2.2 b o e).2).1⟩) hown1 hgrow hat hln (by omega) (by omega)
         refine ⟨HBA.out.2.1.1, HBA.out.2.1.2.1, fun h0 => ?_⟩
         obtain ⟨b, o, e, hc⟩ := HBA.out.2.1.2.2 h0
         refine ⟨b, o, e, fun j hj => ?_⟩
         rw [← hc j hj]
         simp only [World.cell?, (HBU.out.2 b (HBA.out.2.2.2 b o e).2).2])

end Go.Proofs.Ytkfnjekeegebaaa
