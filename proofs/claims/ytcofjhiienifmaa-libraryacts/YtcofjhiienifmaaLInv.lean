/- The program's library and the document's tapes, side by side. -/
import Derived.Test.YtcofjhiienifmaaZIn
import Derived.Test.YtcofjhiienifmaaLbrLives
namespace Go.Proofs.Ytcofjhiienifmaa
open Go.RowKit
set_option linter.unusedSimpArgs false

/-- The document's tapes: va is the row of n of them; that of slot i lies at m i, in state t i, with the blocks G i; all blocks are in J. -/
structure Mdl (w : World) (va : Value) (n : Nat) (m : Nat → Nat) (t : Nat → Tst) (G : Nat → List Nat) (J : List Nat) : Prop where
  row : w.ownsRow 0 44 1 va n (cG m n)
  taps : ∀ i, i < n → Mta w (m i) (t i) (G i)
  dis : ∀ i j, i < n → j < n → i ≠ j → ∀ k ∈ G i, k ∉ G j
  fit : ∀ i, i < n → ∀ k ∈ G i, k ∈ J ∧ va.ownBlock ≠ some k
  fv : ∀ b, va.ownBlock = some b → b ∈ J
  lt : ∀ k ∈ J, k < w.heap.size

section
variable {w w' : World} {va : Value} {n : Nat} {m : Nat → Nat} {t : Nat → Tst} {G : Nat → List Nat} {J Y : List Nat}

theorem Mdl.shape (h : Mdl w va n m t G J) : ∃ a c, va = .slice a n c ∧ n ≤ c ∧ (0 < n → ∃ b, a = some ⟨b, 0, none⟩ ∧ ∀ i, i < n → w.cell? ⟨b, i, none⟩ = some (.pointer (some ⟨m i, 0, none⟩))) := by
  rcases h.row.2 with ⟨rfl, hl⟩ | ⟨b, cap, cur, rfl, _, hg, hc, hm, hs, ht⟩
  · subst hl
    exact ⟨none, 0, rfl, Nat.le_refl _, by omega⟩
  · refine ⟨_, cap, rfl, hc, fun _ => ⟨b, rfl, fun i hi => ?_⟩⟩
    rw [cell_of_row w b _ cur 44 (0, 0) hg, ← Array.getElem?_toList, ← cG_get m n i hi, ← ht, List.getElem?_take_of_lt (by omega)]

theorem Mta.kept {gm : Nat} {tt : Tst} {K : List Nat} (h : Mta w gm tt K) (hsz : w.heap.size ≤ w'.heap.size) (hF : ∀ k ∈ K, k < w.heap.size → w'.heap[k]? = w.heap[k]?) : Mta w' gm tt K := by
  obtain ⟨v, X, aW, aR, nW, cW, nR, cR, h⟩ := h
  exact ⟨v, X, aW, aR, nW, cW, nR, cR, h.kept hsz hF⟩

theorem Mta.gmF {gm : Nat} {tt : Tst} {K : List Nat} (h : Mta w gm tt K) : gm ∈ K := by
  obtain ⟨v, X, aW, aR, nW, cW, nR, cR, h⟩ := h
  exact h.ft

theorem Mdl.kept (h : Mdl w va n m t G J) (hsz : w.heap.size ≤ w'.heap.size) (hF : ∀ k ∈ J, k < w.heap.size → w'.heap[k]? = w.heap[k]?) : Mdl w' va n m t G J :=
  { h with row := ownsRow_kept h.row (fun b hb => hF b (h.fv b hb)), taps := fun i hi => (h.taps i hi).kept hsz (fun k hk => hF k (h.fit i hi k hk).1), lt := fun k hk => Nat.lt_of_lt_of_le (h.lt k hk) hsz }

theorem Mdl.save (h : Mdl w va n m t G J) (hs : Save Y w w') (hY : ∀ k ∈ J, k ∉ Y) : Mdl w' va n m t G J :=
  h.kept hs.size (fun k hk hlt => hs.block k hlt (hY k hk))

theorem Mdl.tape (h : Mdl w va n m t G J) {i : Nat} (hi : i < n) {t' : Tst} {G' : List Nat} (hM : Mta w' (m i) t' G') (hs : Save Y w w') (hY : ∀ k ∈ Y, k ∈ J → k ∈ G i) (hG : ∀ k ∈ G', k ∈ G i ∨ k ∉ J) {J' : List Nat} (h1J : ∀ k ∈ J, k ∉ G i → k ∈ J') (h2J : ∀ k ∈ G', k ∈ J') (h3J : ∀ k ∈ J', k ∈ J ∨ k ∈ G') : Mdl w' va n m (upd t i t') (upd G i G') J' := by
  have hk : ∀ k, k ∈ J → k ∉ G i → w'.heap[k]? = w.heap[k]? := fun k hk hn => hs.block k (h.lt k hk) (fun hy => hn (hY k hy hk))
  have hrow : ∀ b, va.ownBlock = some b → b ∉ G i := fun b hb hx => (h.fit i hi b hx).2 hb
  refine ⟨ownsRow_kept h.row (fun b hb _ => hk b (h.fv b hb) (hrow b hb)), ?_, ?_, ?_, ?_, ?_⟩
  · intro j hj
    by_cases e : j = i
    · subst e
      rw [upd_same, upd_same]
      exact hM
    · rw [upd_other _ _ e, upd_other _ _ e]
      exact (h.taps j hj).kept hs.size (fun k hk' _ => hk k (h.fit j hj k hk').1 (h.dis j i hj hi e k hk'))
  · intro a b ha hb hne k hk1 hk2
    have hlt : ∀ j, j < n → k ∈ G j → k ∈ J := fun j hj hx => (h.fit j hj k hx).1
    by_cases ea : a = i
    · subst ea
      rw [upd_same] at hk1
      rw [upd_other _ _ (Ne.symm hne)] at hk2
      have hl := hlt b hb hk2
      exact h.dis a b ha hb hne k ((hG k hk1).elim id (fun h => absurd hl h)) hk2
    · rw [upd_other _ _ ea] at hk1
      have hl := hlt a ha hk1
      by_cases eb : b = i
      · subst eb
        rw [upd_same] at hk2
        exact h.dis a b ha hb hne k hk1 ((hG k hk2).elim id (fun h => absurd hl h))
      · rw [upd_other _ _ eb] at hk2
        exact h.dis a b ha hb hne k hk1 hk2
  · intro j hj k hk1
    by_cases e : j = i
    · subst e
      rw [upd_same] at hk1
      refine ⟨h2J k hk1, ?_⟩
      rcases hG k hk1 with hx | hx
      · exact (h.fit j hj k hx).2
      · exact fun e => hx (h.fv k e)
    · rw [upd_other _ _ e] at hk1
      obtain ⟨h1, h2⟩ := h.fit j hj k hk1
      exact ⟨h1J k h1 (h.dis j i hj hi e k hk1), h2⟩
  · intro b hb
    exact h1J b (h.fv b hb) (hrow b hb)
  · intro k hk1
    rcases h3J k hk1 with h1 | h1
    · exact Nat.lt_of_lt_of_le (h.lt k h1) hs.size
    · exact hM.fl k h1

/-- A tape laid behind the others. -/
theorem Mdl.added {w7 : World} (h : Mdl w va n m t G J) {gm B gg cap : Nat} {t0 : Tst} {G' : List Nat} {o : Obj} (hM : Mta w gm t0 G') (hJB : ∀ k ∈ J, k < B) (hGB : ∀ k ∈ G', B ≤ k)
    (hown : w7.ownsRow 0 44 1 (.slice (some ⟨gg, 0, none⟩) (n + 1) cap) (n + 1) (cG m n ++ [.pointer (some ⟨gm, 0, none⟩)])) (hg : (w.alloc o).grownBy w7 va.ownBlock) (hat : va.ownBlock = some gg ∨ gg = (w.alloc o).heap.size) :
    Mdl w7 (.slice (some ⟨gg, 0, none⟩) (n + 1) cap) (n + 1) (upd m n gm) (upd t n t0) (upd G n G') (gg :: (J ++ G')) ∧ Save J w w7 ∧ (gg ∈ J ∨ w.heap.size ≤ gg) := by
  have hsa : (w.alloc o).heap.size = w.heap.size + 1 := by simp
  have hsz : w.heap.size ≤ w7.heap.size := Nat.le_trans (by omega) hg.size
  have hold : ∀ k, k < w.heap.size → va.ownBlock ≠ some k → w7.heap[k]? = w.heap[k]? := fun k hk hne =>
    (hg.block k (by omega) (fun e => hne e.symm)).trans (heap_alloc_old w o hk)
  have hggF : ∀ k, k = gg → va.ownBlock = some k ∨ w.heap.size ≤ k := by
    rintro k rfl
    rcases hat with hat | hat
    · exact .inl hat
    · exact .inr (by omega)
  have hs7 : Save J w w7 := ⟨hg.os, hg.tape, hg.output, hsz, fun k hk hx => hold k hk (fun e => hx (h.fv k e))⟩
  have hfl := hM.fl
  have hvB : ∀ k, va.ownBlock = some k → k < B := fun k e => hJB k (h.fv k e)
  refine ⟨⟨?_, ?_, ?_, ?_, ?_, ?_⟩, hs7, (hggF gg rfl).imp (fun e => h.fv gg e) id⟩
  · have e : cG (upd m n gm) (n + 1) = cG m n ++ [.pointer (some ⟨gm, 0, none⟩)] := by
      rw [cG_succ, upd_same, cG_congr (g' := m) (fun i hi => upd_other _ _ (by omega))]
    rw [e]
    exact hown
  · intro j hj
    by_cases e : j = n
    · subst e
      rw [upd_same, upd_same, upd_same]
      refine hM.kept hsz (fun k hk1 hk2 => hold k hk2 ?_)
      intro e; have := hGB k hk1; have := hvB k e; omega
    · rw [upd_other _ _ e, upd_other _ _ e, upd_other _ _ e]
      have hj' : j < n := by omega
      exact (h.taps j hj').kept hsz (fun k hk1 hk2 => hold k hk2 (h.fit j hj' k hk1).2)
  · intro a b ha hb hne k hk1 hk2
    by_cases ea : a = n
    · subst ea
      rw [upd_same] at hk1
      rw [upd_other _ _ (Ne.symm hne)] at hk2
      have h1 := hGB k hk1
      have h2 := hJB k (h.fit b (by omega) k hk2).1
      omega
    · rw [upd_other _ _ ea] at hk1
      by_cases eb : b = n
      · subst eb
        rw [upd_same] at hk2
        have h1 := hGB k hk2
        have h2 := hJB k (h.fit a (by omega) k hk1).1
        omega
      · rw [upd_other _ _ eb] at hk2
        exact h.dis a b (by omega) (by omega) hne k hk1 hk2
  · intro j hj k hk1
    by_cases e : j = n
    · subst e
      rw [upd_same] at hk1
      have h1 := hGB k hk1
      have h2 := hfl k hk1
      refine ⟨by simp [hk1], fun e => ?_⟩
      injection e with e
      rcases hggF k e.symm with h3 | h3
      · have := hvB k h3; omega
      · omega
    · rw [upd_other _ _ e] at hk1
      have hj' : j < n := by omega
      obtain ⟨h1, h3⟩ := h.fit j hj' k hk1
      refine ⟨by simp [h1], fun e => ?_⟩
      injection e with e
      rcases hggF k e.symm with h4 | h4
      · exact h3 h4
      · have := h.lt k h1; omega
  · intro b hb
    injection hb with hb
    rw [← hb]
    simp
  · intro k hk1
    simp only [List.mem_cons, List.mem_append] at hk1
    rcases hk1 with rfl | h1 | h1
    · rcases hown.2 with ⟨hv, _⟩ | ⟨g', cap', cur, hv, _, hgo, _⟩
      · cases hv
      · injection hv with hv
        injection hv with hv
        injection hv with hv
        rw [hv]
        exact lt_of_block hgo
    · exact Nat.lt_of_lt_of_le (h.lt k h1) hsz
    · exact Nat.lt_of_lt_of_le (hfl k h1) hsz

end

/-- The library, and the document's tapes and power; all of it lies behind w, and apart. -/
structure Al (w W : World) (gl gp gq : Nat) (s : Pw) (d : Option Nat) (n nm : Nat) (g m : Nat → Nat) (t tm : Nat → Tst) (F G : Nat → List Nat) (v va : Value) (H J : List Nat) : Prop where
  lib : Lbr W gl gp s d n g t F v H
  mod : Mdl W va nm m tm G J
  mpw : MP W gq s
  cross : ∀ k ∈ H, k ∉ J
  gpJ : gp ∉ J
  gqH : gq ∉ H
  gqJ : gq ∉ J
  gpq : gp ≠ gq
  own : ∀ k ∈ H, w.heap.size ≤ k
  mown : ∀ k ∈ J, w.heap.size ≤ k
  gpo : w.heap.size ≤ gp
  gqo : w.heap.size ≤ gq
  bel : Below w.heap.size w W

section
variable {w W W' : World} {gl gp gq : Nat} {s : Pw} {d d' : Option Nat} {n n' nm nm' : Nat} {g g' m m' : Nat → Nat} {t t' tm tm' : Nat → Tst} {F F' G G' : Nat → List Nat} {v v' va va' : Value} {H H' J J' : List Nat} {j : Nat}

theorem Al.later (h : Al w W gl gp gq s d n nm g m t tm F G v va H J) (hb : Below W.heap.size W W') : Al w W' gl gp gq s d n nm g m t tm F G v va H J :=
  { h with lib := h.lib.later hb, mod := h.mod.save (Y := []) (Save.of_below hb _) (by simp), mpw := h.mpw.save (Y := []) (Save.of_below hb _) (by simp), bel := h.bel.trans (hb.mono h.bel.size) }

theorem Al.drewN (h : Al w W gl gp gq s d n nm g m t tm F G v va H J) (k : Nat) : Al w (W.drewN k) gl gp gq s d n nm g m t tm F G v va H J :=
  { h with lib := h.lib.drewN k, mod := h.mod.save (Y := []) ((Save.refl _ _).drewN k) (by simp), mpw := h.mpw.save (Y := []) ((Save.refl _ _).drewN k) (by simp), bel := ⟨h.bel.os, h.bel.tape, h.bel.output, h.bel.size, h.bel.block⟩ }

/-- The library does something. -/
theorem Al.prog (h : Al w W gl gp gq s d n nm g m t tm F G v va H J) (hL : Lbr W' gl gp s d' n' g' t' F' v' H') (hs : Save H W W') (hH : ∀ k ∈ H', k ∈ H ∨ W.heap.size ≤ k) : Al w W' gl gp gq s d' n' nm g' m t' tm F' G v' va H' J := by
  have hsz := h.bel.size
  refine ⟨hL, h.mod.save hs (fun k hk hx => h.cross k hx hk), h.mpw.save hs h.gqH, ?_, h.gpJ, ?_, h.gqJ, h.gpq, ?_, h.mown, h.gpo, h.gqo, h.bel.trans (hs.below hsz h.own)⟩
  · intro k hk hj
    rcases hH k hk with h1 | h1
    · exact h.cross k h1 hj
    · have := h.mod.lt k hj
      omega
  · intro hk
    rcases hH gq hk with h1 | h1
    · exact h.gqH h1
    · have := h.mpw.lt
      omega
  · intro k hk
    rcases hH k hk with h1 | h1
    · exact h.own k h1
    · omega

/-- The document's tapes do something. -/
theorem Al.model (h : Al w W gl gp gq s d n nm g m t tm F G v va H J) (hM : Mdl W' va' nm' m' tm' G' J') (hs : Save J W W') (hJ : ∀ k ∈ J', k ∈ J ∨ W.heap.size ≤ k) : Al w W' gl gp gq s d n nm' g m' t tm' F G' v va' H J' := by
  have hsz := h.bel.size
  refine ⟨h.lib.save hs (fun k hk hx => h.cross k hk hx) h.gpJ, hM, h.mpw.save hs h.gqJ, ?_, ?_, h.gqH, ?_, h.gpq, h.own, ?_, h.gpo, h.gqo, h.bel.trans (hs.below hsz h.mown)⟩
  · intro k hk hj
    rcases hJ k hj with h1 | h1
    · exact h.cross k hk h1
    · have := h.lib.lt k hk
      omega
  · intro hk
    rcases hJ gp hk with h1 | h1
    · exact h.gpJ h1
    · have := h.lib.pow.lt
      omega
  · intro hk
    rcases hJ gq hk with h1 | h1
    · exact h.gqJ h1
    · have := h.mpw.lt
      omega
  · intro k hk
    rcases hJ k hk with h1 | h1
    · exact h.mown k h1
    · omega

/-- A tape of the document's, laid at its beginning. -/
theorem Al.rewind (h : Al w W gl gp gq s d n nm g m t tm F G v va H J) (i : Nat) (hi : i < nm) : Al w (W.setCell ⟨m i, 5, none⟩ (.int .i64 0)) gl gp gq s d n nm g m t (upd tm i (tm i).rewound) F G v va H J := by
  have hmi := h.mod.taps i hi
  have hs : Save (G i) W (W.setCell ⟨m i, 5, none⟩ (.int .i64 0)) := (Save.set W (m i) 5 _).mono (fun k hk => by simp only [List.mem_singleton] at hk; rw [hk]; exact hmi.gmF)
  have hM : Mta (W.setCell ⟨m i, 5, none⟩ (.int .i64 0)) (m i) (tm i).rewound (G i) := by
    obtain ⟨v, X, aW, aR, nW, cW, nR, cR, h⟩ := hmi
    exact ⟨v, X, aW, aR, nW, cW, nR, cR, h.setPos 0 (Nat.zero_le _)⟩
  have h4 := h.mod.tape hi hM hs (fun k hk _ => hk) (fun k hk => .inl hk) (J' := J) (fun k hk _ => hk) (fun k hk => (h.mod.fit i hi k hk).1) (fun k hk => .inl hk)
  rw [upd_self G] at h4
  exact h.model h4 (hs.mono fun k hk => (h.mod.fit i hi k hk).1) (fun k hk => .inl hk)

/-- Just the blocks that are in use. -/
def Hof (gl : Nat) (v : Value) (n : Nat) (F : Nat → List Nat) : List Nat := gl :: (v.ownBlock.toList ++ (List.range n).flatMap F)

theorem mem_Hof {k : Nat} : k ∈ Hof gl v n F ↔ k = gl ∨ v.ownBlock = some k ∨ ∃ i, i < n ∧ k ∈ F i := by
  simp [Hof, Option.mem_toList, List.mem_flatMap]

def Jof (va : Value) (n : Nat) (G : Nat → List Nat) : List Nat := va.ownBlock.toList ++ (List.range n).flatMap G

theorem mem_Jof {k : Nat} : k ∈ Jof va n G ↔ va.ownBlock = some k ∨ ∃ i, i < n ∧ k ∈ G i := by
  simp [Jof, Option.mem_toList, List.mem_flatMap]

theorem Lbr.hof (h : Lbr W gl gp s d n g t F v H) : ∀ k ∈ Hof gl v n F, k ∈ H := by
  intro k hk
  rcases mem_Hof.1 hk with rfl | h1 | ⟨i, hi, h1⟩
  · exact h.fo
  · exact (h.fv k h1).1
  · exact (h.fit i hi k h1).1

theorem Mdl.jof (h : Mdl W va n m t G J) : ∀ k ∈ Jof va n G, k ∈ J := by
  intro k hk
  rcases mem_Jof.1 hk with h1 | ⟨i, hi, h1⟩
  · exact h.fv k h1
  · exact (h.fit i hi k h1).1

theorem Al.canon (h : Al w W gl gp gq s d n nm g m t tm F G v va H J) : Al w W gl gp gq s d n nm g m t tm F G v va (Hof gl v n F) (Jof va nm G) := by
  have h1 := h.lib.hof
  have h2 := h.mod.jof
  refine ⟨{ h.lib with fit := ?_, fv := ?_, fo := mem_Hof.2 (.inl rfl), fp := fun hk => h.lib.fp (h1 _ hk), lt := fun k hk => h.lib.lt k (h1 k hk) }, { h.mod with fit := ?_, fv := ?_, lt := fun k hk => h.mod.lt k (h2 k hk) }, h.mpw, fun k hk hj => h.cross k (h1 k hk) (h2 k hj), fun hk => h.gpJ (h2 _ hk), fun hk => h.gqH (h1 _ hk), fun hk => h.gqJ (h2 _ hk), h.gpq, fun k hk => h.own k (h1 k hk), fun k hk => h.mown k (h2 k hk), h.gpo, h.gqo, h.bel⟩
  · intro i hi k hk
    exact ⟨mem_Hof.2 (.inr (.inr ⟨i, hi, hk⟩)), (h.lib.fit i hi k hk).2⟩
  · intro b hb
    exact ⟨mem_Hof.2 (.inr (.inl hb)), (h.lib.fv b hb).2⟩
  · intro i hi k hk
    exact ⟨mem_Jof.2 (.inr ⟨i, hi, hk⟩), (h.mod.fit i hi k hk).2⟩
  · intro b hb
    exact mem_Jof.2 (.inl hb)

/-- Step, on the tape in slot i. -/
theorem Al.step (h0 : Al w W gl gp gq s d n n g m t t F G v va H J) (i : Nat) (hi : i < n) (N : Nat) (hwi : s.within N) (hN : N ≤ 1000000) (hroom : (t i).room ≤ 1000000) (hnw : (t i).nw.length ≤ 1000000) (hnr : (t i).nr.length ≤ 1000000) (K : Nat) (I Z : Int) (a : Option Addr) (nb c : Nat) (b : List Nat) (h2 : I < 9223372036854775808) (h4 : Rd W a nb b) (hzb : 0 < nb → ∀ b o, a = some ⟨b, o, none⟩ → b < w.heap.size) (hnb : nb ≤ 300) :
    Calls Try.prog 13 #[.pointer (some ⟨g i, 0, none⟩), .pointer (some ⟨m i, 0, none⟩), .pointer (some ⟨gq, 0, none⟩), .agg #[.int .u8 (K : Int), .int .i64 I, .int .i64 Z, .slice a nb c]] W fun e W' => e = .returned (.bool true) ∧ ∃ s' x F' G' H' J', Al w W' gl gp gq s' d n n g m (upd t i x) (upd t i x) (upd F i F') (upd G i G') v va H' J' ∧ s'.within (N + 1) ∧ Tst.like (t i) x ∧ Save (gq :: gp :: (H ++ J)) W W' := by
  have h := h0.canon
  have hHH := h0.lib.hof
  have hJJ := h0.mod.jof
  clear h0
  obtain ⟨Zt, hZ⟩ : ∃ Zt, Zt = gq :: gp :: (F i ++ G i) := ⟨_, rfl⟩
  have hzm : ∀ k, k ∈ Zt ↔ k = gq ∨ k = gp ∨ k ∈ F i ∨ k ∈ G i := by intro k; rw [hZ]; simp
  have hFH : ∀ k ∈ F i, k ∈ Hof gl v n F := fun k hk => (h.lib.fit i hi k hk).1
  have hGJ : ∀ k ∈ G i, k ∈ Jof va n G := fun k hk => (h.mod.fit i hi k hk).1
  have hzw : ∀ k ∈ Zt, w.heap.size ≤ k := by
    intro k hk
    rcases (hzm k).1 hk with rfl | rfl | h1 | h1
    · exact h.gqo
    · exact h.gpo
    · exact h.own k (hFH k h1)
    · exact h.mown k (hGJ k h1)
  have hT : Two Zt W W (g i) gp (m i) gq s (t i) (F i) s (t i) (G i) := by
    refine ⟨⟨h.lib.taps i hi, fun k hk => .inl ((hzm k).2 (.inr (.inr (.inl hk)))), .inl ((hzm gp).2 (.inr (.inl rfl))), Save.refl _ _⟩, h.mod.taps i hi, h.mpw, fun k hk => .inl ((hzm k).2 (.inr (.inr (.inr hk)))), .inl ((hzm gq).2 (.inl rfl)), fun hk => h.gqJ (hGJ _ hk), ?_, ?_⟩
    · simp only [List.mem_cons, not_or]
      exact ⟨fun e => h.gpq e.symm, fun hk => h.gqH (hFH _ hk)⟩
    · intro k hk
      simp only [List.mem_cons, not_or]
      exact ⟨fun e => h.gpJ (e ▸ hGJ _ hk), fun hf => h.cross k (hFH _ hf) (hGJ _ hk)⟩
  refine (step_any Zt W W (g i) gp (m i) gq s (t i) (F i) (G i) hT N hwi hN hroom hnw hnr K I Z a nb c b h2 h4 (fun h0 b o e hb => by have := hzb h0 b o e; have := hzw b hb; omega) hnb).mono ?_
  rintro e W' ⟨rfl, s', x, F', G', hT', hw', hlk⟩
  have hfp : gp ∉ F' := by
    obtain ⟨v, X, bW, bR, h⟩ := hT'.liv.tap
    exact h.fp
  have hs : Save Zt W W' := hT'.liv.bel
  have hF1 : ∀ k ∈ F', k ∈ F i ∨ k ∈ G i ∨ W.heap.size ≤ k := by
    intro k hk
    rcases hT'.liv.own k hk with h1 | h1
    · rcases (hzm k).1 h1 with rfl | rfl | h1 | h1
      · exact absurd hk (fun hk => hT'.gqF (by simp [hk]))
      · exact absurd hk hfp
      · exact .inl h1
      · exact .inr (.inl h1)
    · exact .inr (.inr h1)
  have hG1 : ∀ k ∈ G', k ∈ G i ∨ k ∈ F i ∨ W.heap.size ≤ k := by
    intro k hk
    rcases hT'.gown k hk with h1 | h1
    · rcases (hzm k).1 h1 with rfl | rfl | h1 | h1
      · exact absurd hk hT'.gqG
      · exact absurd (by simp) (hT'.dis _ hk)
      · exact .inr (.inl h1)
      · exact .inl h1
    · exact .inr (.inr h1)
  have hHp : ∀ k, k ∈ Hof gl v n (upd F i F') → k ∈ F' ∨ (k ∈ Hof gl v n F ∧ k ∉ F i) := by
    intro k hk
    rcases mem_Hof.1 hk with rfl | h1 | ⟨j, hj, h1⟩
    · exact .inr ⟨h.lib.fo, fun hx => (h.lib.fit i hi _ hx).2.1 rfl⟩
    · exact .inr ⟨(h.lib.fv k h1).1, fun hx => (h.lib.fit i hi _ hx).2.2 h1⟩
    · by_cases e : j = i
      · subst e
        rw [upd_same] at h1
        exact .inl h1
      · rw [upd_other _ _ e] at h1
        exact .inr ⟨(h.lib.fit j hj k h1).1, h.lib.dis j i hj hi e k h1⟩
  have hJp : ∀ k, k ∈ Jof va n (upd G i G') → k ∈ G' ∨ (k ∈ Jof va n G ∧ k ∉ G i) := by
    intro k hk
    rcases mem_Jof.1 hk with h1 | ⟨j, hj, h1⟩
    · exact .inr ⟨h.mod.fv k h1, fun hx => (h.mod.fit i hi _ hx).2 h1⟩
    · by_cases e : j = i
      · subst e
        rw [upd_same] at h1
        exact .inl h1
      · rw [upd_other _ _ e] at h1
        exact .inr ⟨(h.mod.fit j hj k h1).1, h.mod.dis j i hj hi e k h1⟩
  have hL := h.lib.tape hi hT'.liv.tap hs (fun k hk hH => by
      rcases (hzm k).1 hk with rfl | rfl | h1 | h1
      · exact absurd hH h.gqH
      · exact absurd hH h.lib.fp
      · exact h1
      · exact absurd (hGJ k h1) (h.cross k hH))
    (fun k hk => (hF1 k hk).imp id (fun h1 hH => h1.elim (fun h2 => h.cross k hH (hGJ k h2)) (fun h2 => by have := h.lib.lt k hH; omega)))
    (H' := Hof gl v n (upd F i F')) (fun k hk hn => by
      rcases mem_Hof.1 hk with rfl | h1 | ⟨j, hj, h1⟩
      · exact mem_Hof.2 (.inl rfl)
      · exact mem_Hof.2 (.inr (.inl h1))
      · exact mem_Hof.2 (.inr (.inr ⟨j, hj, by rw [upd_other _ _ (by rintro rfl; exact hn h1)]; exact h1⟩)))
    (fun k hk => mem_Hof.2 (.inr (.inr ⟨i, hi, by rw [upd_same]; exact hk⟩)))
    (fun k hk => (hHp k hk).elim .inr (fun h => .inl h.1))
  have hM := h.mod.tape hi hT'.mod hs (fun k hk hJ => by
      rcases (hzm k).1 hk with rfl | rfl | h1 | h1
      · exact absurd hJ h.gqJ
      · exact absurd hJ h.gpJ
      · exact absurd hJ (h.cross k (hFH k h1))
      · exact h1)
    (fun k hk => (hG1 k hk).imp id (fun h1 hJ => h1.elim (fun h2 => h.cross k (hFH k h2) hJ) (fun h2 => by have := h.mod.lt k hJ; omega)))
    (J' := Jof va n (upd G i G')) (fun k hk hn => by
      rcases mem_Jof.1 hk with h1 | ⟨j, hj, h1⟩
      · exact mem_Jof.2 (.inl h1)
      · exact mem_Jof.2 (.inr ⟨j, hj, by rw [upd_other _ _ (by rintro rfl; exact hn h1)]; exact h1⟩))
    (fun k hk => mem_Jof.2 (.inr ⟨i, hi, by rw [upd_same]; exact hk⟩))
    (fun k hk => (hJp k hk).elim .inr (fun h => .inl h.1))
  have hsz := h.bel.size
  refine ⟨rfl, s', x, F', G', _, _, ⟨hL, hM, hT'.mpw, ?_, ?_, ?_, ?_, h.gpq, ?_, ?_, h.gpo, h.gqo, h.bel.trans (hs.below hsz hzw)⟩, hw', hlk, hs.mono ?_⟩
  · intro k hk hj
    rcases hHp k hk with h1 | ⟨h1, h1n⟩
    · rcases hJp k hj with h2 | ⟨h2, h2n⟩
      · exact hT'.dis k h2 (by simp [h1])
      · rcases hF1 k h1 with h3 | h3 | h3
        · exact h.cross k (hFH k h3) h2
        · exact h2n h3
        · have := h.mod.lt k h2; omega
    · rcases hJp k hj with h2 | ⟨h2, h2n⟩
      · rcases hG1 k h2 with h3 | h3 | h3
        · exact h.cross k h1 (hGJ k h3)
        · exact h1n h3
        · have := h.lib.lt k h1; omega
      · exact h.cross k h1 h2
  · intro hk
    rcases hJp gp hk with h2 | ⟨h2, _⟩
    · exact hT'.dis gp h2 (by simp)
    · exact h.gpJ h2
  · intro hk
    rcases hHp gq hk with h2 | ⟨h2, _⟩
    · exact hT'.gqF (by simp [h2])
    · exact h.gqH h2
  · intro hk
    rcases hJp gq hk with h2 | ⟨h2, _⟩
    · exact hT'.gqG h2
    · exact h.gqJ h2
  · intro k hk
    rcases hHp k hk with h1 | ⟨h1, _⟩
    · rcases hF1 k h1 with h3 | h3 | h3
      · exact h.own k (hFH k h3)
      · exact h.mown k (hGJ k h3)
      · omega
    · exact h.own k h1
  · intro k hk
    rcases hJp k hk with h1 | ⟨h1, _⟩
    · rcases hG1 k h1 with h3 | h3 | h3
      · exact h.mown k (hGJ k h3)
      · exact h.own k (hFH k h3)
      · omega
    · exact h.mown k h1
  · intro k hk
    simp only [List.mem_cons, List.mem_append]
    rcases (hzm k).1 hk with h1 | h1 | h1 | h1
    · exact .inl h1
    · exact .inr (.inl h1)
    · exact .inr (.inr (.inl (hHH k (hFH k h1))))
    · exact .inr (.inr (.inr (hJJ k (hGJ k h1))))

/-- All that the calls so far left: j is how many there were. -/
def Inv (w W : World) (gl gp gq : Nat) (s : Pw) (d : Option Nat) (n : Nat) (va : Value) (j : Nat) : Prop :=
  ∃ g m t F G v H J, Al w W gl gp gq s d n n g m t t F G v va H J ∧ (∀ i, i < n → (t i).room ≤ 3000 ∧ (t i).nw.length ≤ 60 ∧ (t i).nr.length ≤ 60) ∧ s.within j

theorem Inv.later (h : Inv w W gl gp gq s d n va j) (hb : Below W.heap.size W W') : Inv w W' gl gp gq s d n va j := by
  obtain ⟨g, m, t, F, G, v, H, J, h1, h2⟩ := h
  exact ⟨g, m, t, F, G, v, H, J, h1.later hb, h2⟩

theorem Inv.drewN (h : Inv w W gl gp gq s d n va j) (k : Nat) : Inv w (W.drewN k) gl gp gq s d n va j := by
  obtain ⟨g, m, t, F, G, v, H, J, h1, h2⟩ := h
  exact ⟨g, m, t, F, G, v, H, J, h1.drewN k, h2⟩

theorem Inv.mono (h : Inv w W gl gp gq s d n va j) {j' : Nat} (hj : j ≤ j') : Inv w W gl gp gq s d n va j' := by
  obtain ⟨g, m, t, F, G, v, H, J, h1, h2, h3⟩ := h
  exact ⟨g, m, t, F, G, v, H, J, h1, h2, h3.mono hj⟩

theorem Inv.bel (h : Inv w W gl gp gq s d n va j) : Below w.heap.size w W := by
  obtain ⟨g, m, t, F, G, v, H, J, h1, _⟩ := h
  exact h1.bel

end

end Go.Proofs.Ytcofjhiienifmaa
