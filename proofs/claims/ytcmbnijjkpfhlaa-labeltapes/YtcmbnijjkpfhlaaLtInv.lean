/- A library of one tape, and the document's tape and power beside it. -/
import Derived.Test.YtcmbnijjkpfhlaaLbrAdd
import Derived.Test.YtcmbnijjkpfhlaaZIn
import Derived.Test.YtcmbnijjkpfhlaaTModelGetC
namespace Go.Proofs.Ytcmbnijjkpfhlaa
open Go.RowKit
set_option linter.unusedSimpArgs false

theorem Mta.gmF {w : World} {gm : Nat} {tt : Tst} {K : List Nat} (h : Mta w gm tt K) : gm ∈ K := by
  obtain ⟨v, X, aW, aR, nW, cW, nR, cR, h⟩ := h
  exact h.ft

/-- A library of the call's own (block gl, power gp in state sp) with one tape, in the drive, in state tp at gt; the document's tape gm in state tm, its power gq in state sm; all of it behind w. -/
structure Duo (w W : World) (gl gp gt gm gq : Nat) (sp : Pw) (tp : Tst) (sm : Pw) (tm : Tst) (g : Nat → Nat) (t : Nat → Tst) (F : Nat → List Nat) (v : Value) (H G : List Nat) : Prop where
  lib : Lbr W gl gp sp (some 0) 1 g t F v H
  gt0 : g 0 = gt
  tp0 : t 0 = tp
  mod : Mta W gm tm G
  mpw : MP W gq sm
  own : ∀ k ∈ H, w.heap.size ≤ k
  gpo : w.heap.size ≤ gp
  gown : ∀ k ∈ G, w.heap.size ≤ k
  gqo : w.heap.size ≤ gq
  gqG : gq ∉ G
  gqH : gq ∉ gp :: H
  dis : ∀ k ∈ G, k ∉ gp :: H
  bel : Below w.heap.size w W

section
variable {w W W' : World} {gl gp gt gm gq : Nat} {sp sm sp' sm' : Pw} {tp tm tp' tm' : Tst} {g : Nat → Nat} {t : Nat → Tst} {F : Nat → List Nat} {v : Value} {H G : List Nat}

theorem Duo.drive (h : Duo w W gl gp gt gm gq sp tp sm tm g t F v H G) : W.cell? ⟨gl, 0, none⟩ = some (.pointer (some ⟨gt, 0, none⟩)) := by
  have := h.lib.cells.1
  rw [← h.gt0]
  exact this

theorem Duo.tap (h : Duo w W gl gp gt gm gq sp tp sm tm g t F v H G) : Tap W gt gp sp tp (F 0) := by
  have := h.lib.taps 0 (by omega)
  rw [h.gt0, h.tp0] at this
  exact this

theorem Duo.later (h : Duo w W gl gp gt gm gq sp tp sm tm g t F v H G) (hb : Below W.heap.size W W') : Duo w W' gl gp gt gm gq sp tp sm tm g t F v H G :=
  { h with lib := h.lib.later hb, mod := h.mod.later hb, mpw := h.mpw.save (Y := []) (Save.of_below hb _) (by simp), bel := h.bel.trans (hb.mono h.bel.size) }

theorem Duo.lts (h : Duo w W gl gp gt gm gq sp tp sm tm g t F v H G) : ∀ k, (k ∈ gp :: H ∨ k ∈ G ∨ k = gq) → w.heap.size ≤ k ∧ k < W.heap.size := by
  intro k hk
  rcases hk with hk | hk | rfl
  · simp only [List.mem_cons] at hk
    rcases hk with rfl | hk
    · exact ⟨h.gpo, h.lib.pow.lt⟩
    · exact ⟨h.own k hk, h.lib.lt k hk⟩
  · exact ⟨h.gown k hk, h.mod.fl k hk⟩
  · exact ⟨h.gqo, h.mpw.lt⟩

/-- The library does something: another state of it, in another world. -/
theorem Duo.libr {g' : Nat → Nat} {t' : Nat → Tst} {F' : Nat → List Nat} {v' : Value} {H' : List Nat} (h : Duo w W gl gp gt gm gq sp tp sm tm g t F v H G) (hL : Lbr W' gl gp sp' (some 0) 1 g' t' F' v' H') (h1 : g' 0 = gt) (h2 : t' 0 = tp') (hs : Save (gp :: H) W W') (hH : ∀ k ∈ H', k ∈ H ∨ W.heap.size ≤ k) : Duo w W' gl gp gt gm gq sp' tp' sm tm g' t' F' v' H' G := by
  have hnot : ∀ k, k < W.heap.size → k ∉ gp :: H → k ∉ gp :: H' := by
    intro k hk hn
    simp only [List.mem_cons, not_or] at hn ⊢
    exact ⟨hn.1, fun hF' => (hH k hF').elim hn.2 (fun h => by omega)⟩
  refine ⟨hL, h1, h2, h.mod.save hs h.dis, h.mpw.save hs h.gqH, ?_, h.gpo, h.gown, h.gqo, h.gqG, hnot gq h.mpw.lt h.gqH, fun k hk => hnot k (h.mod.fl k hk) (h.dis k hk), h.bel.trans (hs.below h.bel.size (fun k hk => (h.lts k (.inl hk)).1))⟩
  intro k hk
  rcases hH k hk with h1 | h1
  · exact h.own k h1
  · exact Nat.le_trans h.bel.size h1

/-- The tape does something. -/
theorem Duo.prog2 {K' : List Nat} {W1 : World} (h0 : Duo w W gl gp gt gm gq sp tp sm tm g t F v H G) (hb : Below W.heap.size W W1) (hT : Tap W' gt gp sp' tp' K') (hs : Save (gp :: F 0) W1 W') (hK : ∀ k ∈ K', k ∈ F 0 ∨ W1.heap.size ≤ k) : ∃ t' F' H', Duo w W' gl gp gt gm gq sp' tp' sm tm g t' F' v H' G ∧ ∀ k ∈ H', k ∈ H ∨ W1.heap.size ≤ k := by
  have h := h0.later hb
  have hT' : Tap W' (g 0) gp sp' tp' K' := by rw [h.gt0]; exact hT
  have hL := h.lib.tape (i := 0) (by omega) hT' hs (fun k hk hH => by
    simp only [List.mem_cons] at hk
    rcases hk with rfl | hk
    · exact absurd hH h.lib.fp
    · exact hk) (fun k hk => (hK k hk).imp id (fun h2 hH => absurd (h.lib.lt k hH) (Nat.not_lt.2 h2))) (H' := H ++ K') (by simp +contextual) (by simp +contextual) (by simp)
  have hH : ∀ k ∈ H ++ K', k ∈ H ∨ W1.heap.size ≤ k := by
    intro k hk
    simp only [List.mem_append] at hk
    rcases hk with hk | hk
    · exact .inl hk
    · exact (hK k hk).imp (fun hk => (h.lib.fit 0 (by omega) k hk).1) id
  refine ⟨_, _, _, h.libr hL h.gt0 (upd_same _ _ _) (hs.mono ?_) hH, hH⟩
  intro k hk
  simp only [List.mem_cons] at hk ⊢
  exact hk.imp id (fun hk => (h.lib.fit 0 (by omega) k hk).1)

theorem Duo.prog {K' : List Nat} {W1 : World} (h0 : Duo w W gl gp gt gm gq sp tp sm tm g t F v H G) (hb : Below W.heap.size W W1) (hT : Tap W' gt gp sp' tp' K') (hs : Save (gp :: F 0) W1 W') (hK : ∀ k ∈ K', k ∈ F 0 ∨ W1.heap.size ≤ k) : ∃ t' F' H', Duo w W' gl gp gt gm gq sp' tp' sm tm g t' F' v H' G := by
  obtain ⟨t', F', H', h, _⟩ := h0.prog2 hb hT hs hK
  exact ⟨t', F', H', h⟩

/-- A block that belongs to none of it becomes another one. -/
theorem Duo.aside {q : Nat} (h : Duo w W gl gp gt gm gq sp tp sm tm g t F v H G) (hq : w.heap.size ≤ q) (h1 : q ∉ gp :: H) (h2 : q ∉ G) (h3 : q ≠ gq) (o : Obj) : Duo w (Go.Proofs.Ytcmbnijjkpfhlaa.put W q o) gl gp gt gm gq sp tp sm tm g t F v H G := by
  have hs : Save [q] W (Go.Proofs.Ytcmbnijjkpfhlaa.put W q o) := (Save.refl _ _).put (by simp) o
  refine { h with lib := h.lib.save hs (fun k hk => ?_) ?_, mod := h.mod.save hs (fun k hk => ?_), mpw := h.mpw.save hs ?_, bel := h.bel.trans (hs.below h.bel.size (by simpa using hq)) }
  all_goals
    simp only [List.mem_singleton]
    rintro rfl
  · exact h1 (by simp [hk])
  · exact h1 (by simp)
  · exact h2 hk
  · exact h3 rfl

/-- The document does something. -/
theorem Duo.model {G' : List Nat} {W1 : World} (h0 : Duo w W gl gp gt gm gq sp tp sm tm g t F v H G) (hb : Below W.heap.size W W1) (hM : Mta W' gm tm' G') (hP : MP W' gq sm') (hs : Save (gq :: G) W1 W') (hG : ∀ k ∈ G', k ∈ G ∨ W.heap.size ≤ k) : Duo w W' gl gp gt gm gq sp tp sm' tm' g t F v H G' := by
  have h := h0.later hb
  have hsz := hb.size
  have hY : ∀ k ∈ gp :: H, k ∉ gq :: G := by
    intro k hk hy
    simp only [List.mem_cons] at hy
    rcases hy with rfl | hy
    · exact h.gqH hk
    · exact h.dis k hy hk
  refine ⟨h.lib.save hs (fun k hk => hY k (by simp [hk])) (hY gp (by simp)), h.gt0, h.tp0, hM, hP, h.own, h.gpo, ?_, h.gqo, ?_, h.gqH, ?_, h.bel.trans (hs.below h.bel.size ?_)⟩
  · intro k hk
    rcases hG k hk with h1 | h1
    · exact h.gown k h1
    · exact Nat.le_trans h0.bel.size h1
  · intro hk
    rcases hG gq hk with h1 | h1
    · exact h.gqG h1
    · have := h0.mpw.lt
      omega
  · intro k hk
    rcases hG k hk with h1 | h1
    · exact h.dis k h1
    · intro h2
      have := (h0.lts k (.inl h2)).2
      omega
  · intro k hk
    simp only [List.mem_cons] at hk
    rcases hk with rfl | hk
    · exact h.gqo
    · exact h.gown k hk

/-- The document's tape is laid at its beginning. -/
theorem Duo.rewind (h : Duo w W gl gp gt gm gq sp tp sm tm g t F v H G) : Duo w (W.setCell ⟨gm, 5, none⟩ (.int .i64 0)) gl gp gt gm gq sp tp sm tm.rewound g t F v H G := by
  have hmi := h.mod
  have hs : Save (gq :: G) W (W.setCell ⟨gm, 5, none⟩ (.int .i64 0)) := (Save.set W gm 5 _).mono (fun k hk => by simp only [List.mem_singleton] at hk; rw [hk]; exact List.mem_cons_of_mem _ hmi.gmF)
  have hgm : gq ∉ [gm] := by
    simp only [List.mem_singleton]
    rintro rfl
    exact h.gqG hmi.gmF
  have hM : Mta (W.setCell ⟨gm, 5, none⟩ (.int .i64 0)) gm tm.rewound G := by
    obtain ⟨v, X, aW, aR, nW, cW, nR, cR, h⟩ := hmi
    exact ⟨v, X, aW, aR, nW, cW, nR, cR, h.setPos 0 (Nat.zero_le _)⟩
  exact h.model (Below.refl _ _) hM (h.mpw.save (Save.set W gm 5 _) hgm) hs (fun k hk => .inl hk)

/-- The blocks that belong to the tape and to the document. -/
def zOf (gp gq : Nat) (K G : List Nat) : List Nat := gq :: gp :: (K ++ G)

theorem Duo.two (h : Duo w W gl gp gt gm gq sp tp sm tm g t F v H G) : Two (zOf gp gq (F 0) G) W W gt gp gm gq sp tp (F 0) sm tm G := by
  have hF : ∀ k ∈ F 0, k ∈ H := fun k hk => (h.lib.fit 0 (by omega) k hk).1
  have hsub : ∀ k ∈ gp :: F 0, k ∈ gp :: H := by
    intro k hk
    simp only [List.mem_cons] at hk ⊢
    exact hk.imp id (hF k)
  refine ⟨⟨h.tap, fun k hk => .inl (by simp [zOf, hk]), .inl (by simp [zOf]), Save.refl _ _⟩, h.mod, h.mpw, fun k hk => .inl (by simp [zOf, hk]), .inl (by simp [zOf]), h.gqG, fun hk => h.gqH (hsub _ hk), fun k hk hx => h.dis k hk (hsub k hx)⟩

/-- Back from it. -/
theorem Duo.back {K' G' : List Nat} (h : Duo w W gl gp gt gm gq sp tp sm tm g t F v H G) (h2 : Two (zOf gp gq (F 0) G) W W' gt gp gm gq sp' tp' K' sm' tm' G') : ∃ t' F' H', Duo w W' gl gp gt gm gq sp' tp' sm' tm' g t' F' v H' G' := by
  have hz : ∀ k, k ∈ zOf gp gq (F 0) G ↔ k = gq ∨ k = gp ∨ k ∈ F 0 ∨ k ∈ G := by intro k; simp [zOf]
  have hF : ∀ k ∈ F 0, k ∈ H := fun k hk => (h.lib.fit 0 (by omega) k hk).1
  have hgpK : gp ∉ K' := by
    obtain ⟨v, X, bW, bR, hh⟩ := h2.liv.tap
    exact hh.fp
  have hs := h2.liv.bel
  have hT' : Tap W' (g 0) gp sp' tp' K' := by rw [h.gt0]; exact h2.liv.tap
  have hK : ∀ k ∈ K', k ∈ F 0 ∨ k ∉ H := by
    intro k hk
    rcases h2.liv.own k hk with h1 | h1
    · rcases (hz k).1 h1 with rfl | rfl | h1 | h1
      · exact .inr (fun hx => h.gqH (by simp [hx]))
      · exact absurd hk hgpK
      · exact .inl h1
      · exact .inr (fun hx => h.dis k h1 (by simp [hx]))
    · exact .inr (fun hx => by have := h.lib.lt k hx; omega)
  have hL := h.lib.tape (i := 0) (by omega) hT' hs (fun k hk hH => by
    rcases (hz k).1 hk with rfl | rfl | h1 | h1
    · exact absurd hH (fun hx => h.gqH (by simp [hx]))
    · exact absurd hH h.lib.fp
    · exact h1
    · exact absurd hH (fun hx => h.dis k h1 (by simp [hx]))) hK (H' := H.filter (fun k => decide (k ∉ F 0)) ++ K') (by simp +contextual) (by simp +contextual) (by
      intro k hk
      simp only [List.mem_append, List.mem_filter] at hk
      exact hk.imp (fun h => h.1) id)
  have hzw : ∀ k ∈ zOf gp gq (F 0) G, w.heap.size ≤ k := by
    intro k hk
    rcases (hz k).1 hk with rfl | rfl | h1 | h1
    · exact h.gqo
    · exact h.gpo
    · exact h.own k (hF k h1)
    · exact h.gown k h1
  have hKw : ∀ k ∈ K', w.heap.size ≤ k := fun k hk => (h2.liv.own k hk).elim (hzw k) (fun h1 => Nat.le_trans h.bel.size h1)
  refine ⟨_, _, _, hL, h.gt0, upd_same _ _ _, h2.mod, h2.mpw, ?_, h.gpo, fun k hk => (h2.gown k hk).elim (hzw k) (fun h1 => Nat.le_trans h.bel.size h1), h.gqo, h2.gqG, ?_, ?_, h.bel.trans (hs.below h.bel.size hzw)⟩
  · intro k hk
    simp only [List.mem_append, List.mem_filter] at hk
    rcases hk with hk | hk
    · exact h.own k hk.1
    · exact hKw k hk
  · intro hk
    simp only [List.mem_cons, List.mem_append, List.mem_filter] at hk
    rcases hk with hk | ⟨hk, _⟩ | hk
    · exact h.gqH (by simp [hk])
    · exact h.gqH (by simp [hk])
    · exact h2.gqF (by simp [hk])
  · intro k hk hx
    simp only [List.mem_cons, List.mem_append, List.mem_filter] at hx
    have hd := h2.dis k hk
    simp only [List.mem_cons, not_or] at hd
    rcases hx with hx | ⟨hx, hx2⟩ | hx
    · exact hd.1 hx
    · have hx3 : k ∉ F 0 := of_decide_eq_true hx2
      rcases h2.gown k hk with h1 | h1
      · rcases (hz k).1 h1 with rfl | rfl | h1 | h1
        · exact h.gqH (by simp [hx])
        · exact h.lib.fp hx
        · exact hx3 h1
        · exact h.dis k h1 (by simp [hx])
      · have := h.lib.lt k hx
        omega
    · exact hd.2 hx

end

/-- A library of one tape and the document's, in the same states, whatever the blocks. -/
def Duos (w W : World) (gl gp gt gm gq : Nat) (sp : Pw) (tp : Tst) (sm : Pw) (tm : Tst) : Prop := ∃ g t F v H G, Duo w W gl gp gt gm gq sp tp sm tm g t F v H G

section
variable {w W W' : World} {gl gp gt gm gq : Nat} {sp sm sp' sm' : Pw} {tp tm tp' tm' : Tst}

theorem Duos.later (h : Duos w W gl gp gt gm gq sp tp sm tm) (hb : Below W.heap.size W W') : Duos w W' gl gp gt gm gq sp tp sm tm := by
  obtain ⟨g, t, F, v, H, G, h⟩ := h
  exact ⟨g, t, F, v, H, G, h.later hb⟩

theorem Duos.bel (h : Duos w W gl gp gt gm gq sp tp sm tm) : Below w.heap.size w W := by
  obtain ⟨g, t, F, v, H, G, h⟩ := h
  exact h.bel

theorem Duos.drive (h : Duos w W gl gp gt gm gq sp tp sm tm) : W.cell? ⟨gl, 0, none⟩ = some (.pointer (some ⟨gt, 0, none⟩)) := by
  obtain ⟨g, t, F, v, H, G, h⟩ := h
  exact h.drive

/-- Where the tape has its power. -/
theorem Duos.supply (h : Duos w W gl gp gt gm gq sp tp sm tm) : W.cell? ⟨gt, 0, none⟩ = some (.pointer (some ⟨gp, 0, none⟩)) := by
  obtain ⟨g, t, F, v, H, G, h⟩ := h
  obtain ⟨vv, X, bW, bR, htp⟩ := h.tap
  exact htp.cells.1

/-- Step. -/
theorem Duos.step {W0 : World} (h0 : Duos w W0 gl gp gt gm gq sp tp sp tp) (hb0 : Below W0.heap.size W0 W) (N : Nat) (hwi : sp.within N) (hN : N ≤ 1000000) (hroom : tp.room ≤ 1000000) (hnw : tp.nw.length ≤ 1000000) (hnr : tp.nr.length ≤ 1000000) (K : Nat) (I Z : Int) (a : Option Addr) (nb c : Nat) (b : List Nat) (h2 : I < 9223372036854775808) (h4 : Rd W a nb b) (hzb : 0 < nb → ∀ b o, a = some ⟨b, o, none⟩ → b < w.heap.size) (hnb : nb ≤ 300) :
    Calls Try.prog 21 #[.pointer (some ⟨gt, 0, none⟩), .pointer (some ⟨gm, 0, none⟩), .pointer (some ⟨gq, 0, none⟩), .agg #[.int .u8 (K : Int), .int .i64 I, .int .i64 Z, .slice a nb c]] W fun e W' => e = .returned (.bool true) ∧ (∃ s' x, Duos w W' gl gp gt gm gq s' x s' x ∧ s'.within (N + 1) ∧ Tst.like tp x) ∧ ∀ k, W0.heap.size ≤ k → k < W.heap.size → W'.heap[k]? = W.heap[k]? := by
  obtain ⟨g, t, F, v, H, G, h1⟩ := h0
  have h := h1.later hb0
  have hz : ∀ k ∈ zOf gp gq (F 0) G, k ∈ gp :: H ∨ k ∈ G ∨ k = gq := by
    intro k hk
    simp only [zOf, List.mem_cons, List.mem_append] at hk
    rcases hk with rfl | rfl | h2 | h2
    · exact .inr (.inr rfl)
    · exact .inl (by simp)
    · exact .inl (by simp [(h1.lib.fit 0 (by omega) k h2).1])
    · exact .inr (.inl h2)
  have hzw : ∀ k ∈ zOf gp gq (F 0) G, w.heap.size ≤ k := fun k hk => (h1.lts k (hz k hk)).1
  refine (step_any _ W W gt gp gm gq sp tp (F 0) G h.two N hwi hN hroom hnw hnr K I Z a nb c b h2 h4 (fun h0 b o e hb => by have := hzb h0 b o e; have := hzw b hb; omega) hnb).mono ?_
  rintro e W' ⟨rfl, s', x, F', G', hT', hw', hlk⟩
  obtain ⟨t', F2, H', h3⟩ := h.back hT'
  exact ⟨rfl, ⟨s', x, ⟨g, t', F2, v, H', G', h3⟩, hw', hlk⟩, fun k hk1 hk2 => hT'.liv.bel.block k hk2 (fun hx => by have := (h1.lts k (hz k hx)).2; omega)⟩

/-- Power comes back. -/
theorem Duos.up (h0 : Duos w W gl gp gt gm gq sp tp sm tm) : Calls Try.prog 22 #[.pointer (some ⟨gp, 0, none⟩)] W fun e W' => e = .returned (.tuple #[]) ∧ Duos w W' gl gp gt gm gq sp.up tp sm tm := by
  obtain ⟨g, t, F, v, H, G, h⟩ := h0
  obtain ⟨vv, X, bW, bR, htp⟩ := h.tap
  refine (up_any W gp sp htp.pow).mono ?_
  rintro e W' ⟨rfl, rfl⟩
  obtain ⟨t', F', H', h2⟩ := h.prog (Below.refl _ _) (sp' := sp.up) (tp' := tp) ⟨vv, X, bW, bR, htp.setPow sp.up⟩ ((Save.refl _ _).put (by simp) _) (fun k hk => .inl hk)
  exact ⟨rfl, g, t', F', v, H', G, h2⟩

/-- Power is planned to fall. -/
theorem Duos.plan (h0 : Duos w W gl gp gt gm gq sp tp sm tm) (I Z : Int) : Calls Try.prog 23 #[.pointer (some ⟨gp, 0, none⟩), .int .i64 I, .int .i64 Z] W fun e W' => e = .returned (.tuple #[]) ∧ Duos w W' gl gp gt gm gq (sp.planned I Z) tp sm tm ∧ Save [gp] W W' := by
  obtain ⟨g, t, F, v, H, G, h⟩ := h0
  obtain ⟨vv, X, bW, bR, htp⟩ := h.tap
  refine (plan_any W gp sp I Z htp.pow).mono ?_
  rintro e W' ⟨rfl, rfl⟩
  obtain ⟨t', F', H', h2⟩ := h.prog (Below.refl _ _) (sp' := sp.planned I Z) (tp' := tp) ⟨vv, X, bW, bR, htp.setPow _⟩ ((Save.refl _ _).put (by simp) _) (fun k hk => .inl hk)
  exact ⟨rfl, ⟨g, t', F', v, H', G, h2⟩, (Save.refl _ _).put (by simp) _⟩

/-- The document's power is laid anew. -/
theorem Duos.mpower (h0 : Duos w W gl gp gt gm gq sp tp sm tm) (hs : Save [gq] W W') (hP : MP W' gq sm') : Duos w W' gl gp gt gm gq sp tp sm' tm := by
  obtain ⟨g, t, F, v, H, G, h⟩ := h0
  refine ⟨g, t, F, v, H, G, h.model (Below.refl _ _) (h.mod.save hs (fun k hk => ?_)) hP (hs.mono (by simp)) (fun k hk => .inl hk)⟩
  simp only [List.mem_singleton]
  rintro rfl
  exact h.gqG hk

theorem Duos.rewind (h0 : Duos w W gl gp gt gm gq sp tp sm tm) : Duos w (W.setCell ⟨gm, 5, none⟩ (.int .i64 0)) gl gp gt gm gq sp tp sm tm.rewound := by
  obtain ⟨g, t, F, v, H, G, h⟩ := h0
  exact ⟨g, t, F, v, H, G, h.rewind⟩

/-- The tape is loaded. -/
theorem Duos.load (h0 : Duos w W gl gp gt gm gq sp tp sm tm) (ho : sp.on = true) : Calls Try.prog 20 #[.pointer (some ⟨gl, 0, none⟩), .int .i64 0] W fun e W' => e = .returned (.int .i64 0) ∧ Duos w W' gl gp gt gm gq sp tp.rewound sm tm := by
  obtain ⟨g, t, F, v, H, G, h⟩ := h0
  refine (load_yes h.lib 0 (by omega) ho).mono ?_
  rintro e W' ⟨rfl, h1, h2⟩
  exact ⟨rfl, g, _, F, v, H, G, h.libr h1 h.gt0 (by rw [upd_same, h.tp0]) (h2.mono (by simp +contextual)) (fun k hk => .inl hk)⟩

/-- A slot that isn't there. -/
theorem Duos.loadNo (h0 : Duos w W gl gp gt gm gq sp tp sm tm) (z : Int) (hz : z ≠ 0) : Calls Try.prog 20 #[.pointer (some ⟨gl, 0, none⟩), .int .i64 z] W fun e W' => e = .returned (.int .i64 1) ∧ W' = W := by
  obtain ⟨g, t, F, v, H, G, h⟩ := h0
  exact load_no h.lib z (by omega)

/-- A block is put. -/
theorem Duos.put (h0 : Duos w W gl gp gt gm gq sp tp sm tm) (hok : sp.ok) {W1 : World} (hb : Below W.heap.size W W1) (a : Option Addr) (n c : Nat) (l : List Nat) (hrd : Rd W1 a n l) (hoff : 0 < n → ∀ b o, a = some ⟨b, o, none⟩ → W.heap.size ≤ b) (hnc : n ≤ c) :
    Calls Try.prog 42 #[.pointer (some ⟨gt, 0, none⟩), .slice a n c] W1 fun e W' => e = .returned (.int .i64 ((Tst.put sp tp l).2.2 : Int)) ∧ Duos w W' gl gp gt gm gq (Tst.put sp tp l).1 (Tst.put sp tp l).2.1 sm tm := by
  obtain ⟨g, t, F, v, H, G, h⟩ := h0
  have hl := h.later hb
  refine (tput_any W1 gt gp sp tp (F 0) hl.tap a n c l hrd (fun h1 b o e hx => ?_) hnc hok).mono ?_
  · have h2 := hoff h1 b o e
    have h3 := (h.lts b (.inl (by
      simp only [List.mem_cons] at hx ⊢
      exact hx.imp id (fun hx => (h.lib.fit 0 (by omega) b hx).1)))).2
    omega
  rintro e W' ⟨rfl, F', h1, h2, h3⟩
  obtain ⟨t', F2, H', h4⟩ := hl.prog (Below.refl _ _) h1 h2 h3
  exact ⟨rfl, g, t', F2, v, H', G, h4⟩

/-- A mark is put. -/
theorem Duos.mark (h0 : Duos w W gl gp gt gm gq sp tp sm tm) (hok : sp.ok) :
    Calls Try.prog 43 #[.pointer (some ⟨gt, 0, none⟩)] W fun e W' => e = .returned (.int .i64 ((Tst.write sp tp []).2.2 : Int)) ∧ Duos w W' gl gp gt gm gq (Tst.write sp tp []).1 (Tst.write sp tp []).2.1 sm tm := by
  obtain ⟨g, t, F, v, H, G, h⟩ := h0
  refine (mark_any W gt gp sp tp (F 0) h.tap hok).mono ?_
  rintro e W' ⟨rfl, F', h1, h2, h3⟩
  obtain ⟨t', F2, H', h4⟩ := h.prog (Below.refl _ _) h1 h2 h3
  exact ⟨rfl, g, t', F2, v, H', G, h4⟩

theorem Duos.place (h0 : Duos w W gl gp gt gm gq sp tp sm tm) :
    Calls Try.prog 49 #[.pointer (some ⟨gt, 0, none⟩)] W fun e W' => e = .returned (.int .i64 (tp.pos : Int)) ∧ W' = W := by
  obtain ⟨g, t, F, v, H, G, h⟩ := h0
  exact place_any W gt gp sp tp (F 0) h.tap

theorem Duos.len (h0 : Duos w W gl gp gt gm gq sp tp sm tm) :
    Calls Try.prog 26 #[.pointer (some ⟨gt, 0, none⟩)] W fun e W' => e = .returned (.int .i64 (tp.P.length : Int)) ∧ W' = W := by
  obtain ⟨g, t, F, v, H, G, h⟩ := h0
  exact tlen_any W gt gp sp tp (F 0) h.tap

/-- A block is read. -/
theorem Duos.get (h0 : Duos w W gl gp gt gm gq sp tp sm tm) (hroom : tp.room ≤ 1000000) :
    Calls Try.prog 44 #[.pointer (some ⟨gt, 0, none⟩)] W fun e W' => ∃ a n c, e = .returned (.tuple #[.slice a n c, .int .i64 ((Tst.get sp tp).2.2 : Int)]) ∧ n ≤ c ∧ n ≤ 1000000 ∧ Rd W' a n (Tst.get sp tp).2.1 ∧ Duos w W' gl gp gt gm gq sp (Tst.get sp tp).1 sm tm := by
  obtain ⟨g, t, F, v, H, G, h⟩ := h0
  have hsm := get_small h.tap
  refine (get_any W gt gp sp tp (F 0) h.tap hroom).mono ?_
  rintro e W' ⟨v1, rfl, h1, h2, h3⟩
  obtain ⟨a, c, rfl, hr, hc⟩ := h1.sl
  obtain ⟨t', F2, H', h4⟩ := h.prog (Below.refl _ _) h2 (h3.mono (fun k hk => by simp [hk])) (fun k hk => .inl hk)
  exact ⟨a, _, c, rfl, hc, by omega, hr, g, t', F2, v, H', G, h4⟩

/-- The document's Put. -/
theorem Duos.mput (h0 : Duos w W gl gp gt gm gq sp tp sm tm) (hok : sm.ok) (hnw : tm.nw.length ≤ 1000000) {W1 : World} (hb : Below W.heap.size W W1) (a : Option Addr) (n c : Nat) (l : List Nat) (mk : Bool) (hmk : mk = true → n = 0) (hrd : Rd W1 a n l) (hoff : 0 < n → ∀ b o, a = some ⟨b, o, none⟩ → W.heap.size ≤ b) (hnc : n ≤ c) :
    Calls Try.prog 25 #[.pointer (some ⟨gm, 0, none⟩), .pointer (some ⟨gq, 0, none⟩), .agg #[.slice a n c, .bool mk]] W1 fun e W' => e = .returned (.int .i64 ((Tst.mput sm tm mk l).2.2 : Int)) ∧ Duos w W' gl gp gt gm gq sp tp (Tst.mput sm tm mk l).1 (Tst.mput sm tm mk l).2.1 := by
  obtain ⟨g, t, F, v, H, G, h⟩ := h0
  have hl := h.later hb
  have hgm := (h.lts gm (.inr (.inl h.mod.gmF))).2
  have hgq := (h.lts gq (.inr (.inr rfl))).2
  obtain ⟨A, hA1, hA2⟩ : ∃ A : List Nat, (0 < n → ∀ b o, a = some ⟨b, o, none⟩ → b ∈ A) ∧ (∀ k ∈ A, W.heap.size ≤ k) := by
    rcases Nat.eq_zero_or_pos n with h1 | h1
    · exact ⟨[], fun h => by omega, by simp⟩
    · obtain ⟨b, o, rfl, _⟩ := hrd.2.2 h1
      refine ⟨[b], fun _ b' o' e => ?_, fun k hk => ?_⟩
      · injection e with e
        injection e with e
        simp [e]
      · simp only [List.mem_singleton] at hk
        rw [hk]
        exact hoff h1 b o rfl
  refine (mput_any W1 gm gq sm tm G A hl.mod hl.mpw h.gqG a n c l mk hmk hrd (fun h1 b o e => ⟨hA1 h1 b o e, by have := hoff h1 b o e; omega, by have := hoff h1 b o e; omega⟩) hnc hok hnw).mono ?_
  rintro e W' ⟨rfl, G', h1, h2, h3, h4⟩
  refine ⟨rfl, g, t, F, v, H, G', h.model hb h1 h2 (h3.mono (fun k hk => ?_)) (fun k hk => ?_)⟩
  · simp only [List.mem_cons, List.not_mem_nil, or_false] at hk
    rcases hk with rfl | rfl
    · exact List.mem_cons_of_mem _ h.mod.gmF
    · simp
  · rcases h4 k hk with h5 | h5 | h5
    · exact .inl h5
    · exact .inr (hA2 k h5)
    · exact .inr (Nat.le_trans hb.size h5)

theorem get_len (s : Pw) (t : Tst) : (Tst.get s t).2.1.length ≤ usedOf t.P := by
  unfold Tst.get
  by_cases h1 : s.on = false
  · rw [if_pos h1]; simp
  rw [if_neg h1]
  by_cases h2 : t.pos = t.P.length
  · rw [if_pos h2]; simp
  rw [if_neg h2]
  by_cases h3 : (t.pos : Int) ∈ t.nr
  · rw [if_pos h3]; simp
  rw [if_neg h3]
  by_cases h4 : (t.P.getD t.pos []).length = 0
  · rw [if_pos h4]; simp
  · rw [if_neg h4]; exact getD_small t.P t.pos

/-- The document's Get. -/
theorem Duos.mget (h0 : Duos w W gl gp gt gm gq sp tp sm tm) (hnr : tm.nr.length ≤ 1000000) :
    Calls Try.prog 28 #[.pointer (some ⟨gm, 0, none⟩), .pointer (some ⟨gq, 0, none⟩)] W fun e W' => ∃ a n c, e = .returned (.tuple #[.slice a n c, .int .i64 ((Tst.get sm tm).2.2 : Int)]) ∧ n ≤ c ∧ n ≤ tm.room ∧ Rd W' a n (Tst.get sm tm).2.1 ∧ Duos w W' gl gp gt gm gq sp tp sm (Tst.get sm tm).1 ∧ Save [gm] W W' := by
  obtain ⟨g, t, F, v, H, G, h⟩ := h0
  have hfit : usedOf tm.P ≤ tm.room := by
    obtain ⟨v, X, aW, aR, nW, cW, nR, cR, hh⟩ := h.mod
    exact hh.fits
  refine (mgetC_any W gm gq sm tm G h.mod h.mpw hnr).mono ?_
  rintro e W' ⟨a, n, c, rfl, hc, h1, h2, h3⟩
  have hgm : gq ∉ [gm] := by
    simp only [List.mem_singleton]
    rintro rfl
    exact h.gqG h.mod.gmF
  have hl := get_len sm tm
  exact ⟨a, n, c, rfl, hc, by rw [← h1.1]; omega, h1, ⟨g, t, F, v, H, G, h.model (Below.refl _ _) h2 (h.mpw.save h3 hgm) (h3.mono (fun k hk => by simp only [List.mem_singleton] at hk; rw [hk]; exact List.mem_cons_of_mem _ h.mod.gmF)) (fun k hk => .inl hk)⟩, h3⟩

/-- The document's power. -/
theorem Duos.mp (h0 : Duos w W gl gp gt gm gq sp tp sm tm) : ∃ tt, W.heap[gq]? = some (mpObj sm.on sm.till tt) ∧ ∀ j u, sm.plan = some (j, u) → tt = u := by
  obtain ⟨g, t, F, v, H, G, h⟩ := h0
  exact h.mpw

/-- The document's tape, its pieces and its place. -/
theorem Duos.mcells (h0 : Duos w W gl gp gt gm gq sp tp sm tm) : (∃ av cv, W.cell? ⟨gm, 4, none⟩ = some (.slice av tm.P.length cv)) ∧ W.cell? ⟨gm, 5, none⟩ = some (.int .i64 (tm.pos : Int)) ∧ W.frozen? ⟨gm, 5, none⟩ = false := by
  obtain ⟨g, t, F, v, H, G, h⟩ := h0
  obtain ⟨vm, Xm, aWm, aRm, nWm, cWm, nRm, cRm, hmt⟩ := h.mod
  obtain ⟨av, cv, hvm, _, _⟩ := hmt.shape
  have m4 := hmt.cells.2.2.2.1
  rw [hvm] at m4
  exact ⟨⟨av, cv, m4⟩, hmt.cells.2.2.2.2, hmt.soft 5⟩

theorem Duos.gmlt (h0 : Duos w W gl gp gt gm gq sp tp sm tm) : gm < W.heap.size ∧ w.heap.size ≤ gm ∧ gq < W.heap.size ∧ w.heap.size ≤ gq := by
  obtain ⟨g, t, F, v, H, G, h⟩ := h0
  have h1 := h.lts gm (.inr (.inl h.mod.gmF))
  have h2 := h.lts gq (.inr (.inr rfl))
  exact ⟨h1.2, h1.1, h2.2, h2.1⟩

end

end Go.Proofs.Ytcmbnijjkpfhlaa
