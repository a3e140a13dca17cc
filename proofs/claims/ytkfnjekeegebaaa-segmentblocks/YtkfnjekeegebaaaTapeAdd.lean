/- A tape's cut and add: its pieces from the position on dropped; a piece laid behind the last one. -/
import Derived.Test.YtkfnjekeegebaaaTapeCut
namespace Go.Proofs.Ytkfnjekeegebaaa
open Go.RowKit
set_option linter.unusedSimpArgs false

/-- The pieces up to the position. -/
def Tst.cut (t : Tst) : Tst := { t with P := t.P.take t.pos }

/-- A piece behind the last one. -/
def Tst.add (t : Tst) (l : List Nat) : Tst := { t with P := t.P ++ [l] }

theorem Tst.used_cut (t : Tst) : t.cut.used = t.used := by simp [Tst.cut, Tst.used, List.take_take]

theorem setCell5 {w : World} {gt gp room early bW bR pos : Nat} {v : Value} (h : w.heap[gt]? = some (tapObj gp room early bW bR v pos)) (v' : Value) : w.setCell ⟨gt, 5, none⟩ v' = put w gt (tapObj gp room early bW bR v' pos) := set_put _ h
theorem setCell6 {w : World} {gt gp room early bW bR pos : Nat} {v : Value} (h : w.heap[gt]? = some (tapObj gp room early bW bR v pos)) (p : Nat) : w.setCell ⟨gt, 6, none⟩ (.int .i64 (p : Int)) = put w gt (tapObj gp room early bW bR v p) := set_put _ h

theorem Tp.row_ne {w : World} {gt gp : Nat} {s : Pw} {t : Tst} {F : List Nat} {v : Value} {X : List PC} {bW bR : Nat} (h : Tp w gt gp s t F v X bW bR) : v.ownBlock ≠ some gt ∧ v.ownBlock ≠ some gp ∧ v.ownBlock ≠ some bW ∧ v.ownBlock ≠ some bR := by
  have key : ∀ g, v.ownBlock = some g → ∃ cur, w.heap[g]? = some (.cells cur 99 (0, 0)) := by
    intro g hg
    rcases h.row.2 with ⟨rfl, _⟩ | ⟨g', cap, cur, rfl, _, hg', _⟩
    · cases hg
    · injection hg with hg
      subst hg
      exact ⟨cur, hg'⟩
  refine ⟨fun e => ?_, fun e => ?_, fun e => ?_, fun e => ?_⟩
  · obtain ⟨cur, hc⟩ := key _ e
    rw [h.obj] at hc
    simp [tapObj] at hc
  · exact h.fp (h.fv _ e)
  · obtain ⟨cur, hc⟩ := key _ e
    obtain ⟨es, clock, hm⟩ := h.mw.map
    rw [hm] at hc
    cases hc
  · obtain ⟨cur, hc⟩ := key _ e
    obtain ⟨es, clock, hm⟩ := h.mr.map
    rw [hm] at hc
    cases hc

theorem Tp.set_ne {w : World} {gt gp : Nat} {s : Pw} {t : Tst} {F : List Nat} {v : Value} {X : List PC} {bW bR : Nat} (h : Tp w gt gp s t F v X bW bR) : bW ≠ gt ∧ bR ≠ gt ∧ gp ≠ gt := by
  refine ⟨?_, ?_, ?_⟩
  · rintro rfl
    obtain ⟨es, clock, hm⟩ := h.mw.map
    rw [h.obj] at hm
    cases hm
  · rintro rfl
    obtain ⟨es, clock, hm⟩ := h.mr.map
    rw [h.obj] at hm
    cases hm
  · rintro rfl
    exact h.fp h.ft

/-- Pieces dropped from the position on. -/
theorem Tp.cutRow {w w' : World} {gt gp : Nat} {s : Pw} {t : Tst} {F : List Nat} {v v' : Value} {X : List PC} {bW bR : Nat} (h : Tp w gt gp s t F v X bW bR)
    (hobj : w'.heap[gt]? = some (tapObj gp t.room t.early bW bR v' t.pos)) (hrow : w'.ownsRow 0 99 2 v' t.pos (cP (X.take t.pos))) (hob : v'.ownBlock = v.ownBlock) (hsz : w.heap.size ≤ w'.heap.size)
    (hk : ∀ k, k < w.heap.size → k ≠ gt → v.ownBlock ≠ some k → w'.heap[k]? = w.heap[k]?) : Tp w' gt gp s t.cut F v' (X.take t.pos) bW bR := by
  have hlen : (X.take t.pos).length = t.pos := by rw [List.length_take, h.len]; have := h.pos_le; omega
  have hrn := h.row_ne
  have hsn := h.set_ne
  refine ⟨hobj, (hk gp h.pow.lt hsn.2.2 hrn.2.1).trans h.pow, h.mw.kept (hk bW h.mw.lt hsn.1 hrn.2.2.1), h.mr.kept (hk bR h.mr.lt hsn.2.1 hrn.2.2.2), by rw [hlen]; exact hrow, ?_, ?_, ?_, ?_, ?_, h.roomle, h.earlyle, h.ft, h.fw, h.fr, fun g hg => h.fv g (hob ▸ hg), h.fp, fun k hk => Nat.lt_of_lt_of_le (h.fl k hk) hsz⟩
  · intro p hp
    obtain ⟨h1, h2, h3⟩ := h.pcs p (List.mem_of_mem_take hp)
    refine ⟨⟨h1.1, h1.2.1, fun hn => ?_⟩, h2, fun hn b o e => ⟨(h3 hn b o e).1, (h3 hn b o e).2.1, by rw [hob]; exact (h3 hn b o e).2.2⟩⟩
    obtain ⟨b, o, e, hc⟩ := h1.2.2 hn
    refine ⟨b, o, e, fun j hj => ?_⟩
    rw [← hc j hj]
    simp only [World.cell?, hk b (World.block_lt_of_cell? w _ (hc j hj)) (h3 hn b o e).2.1 (h3 hn b o e).2.2]
  · simp only [Tst.cut, List.map_take, h.lst]
  · intro i hi
    rw [hlen] at hi
    have e1 : (X.take t.pos).getD i PC.none = X.getD i PC.none := by
      have : i < X.length := by rw [h.len]; have := h.pos_le; omega
      simp [List.getD, hi, this]
    rw [e1, h.ends i (by rw [h.len]; have := h.pos_le; omega)]
    simp only [Tst.cut, List.take_take]
    rw [Nat.min_eq_left (by omega)]
  · simp only [Tst.cut, List.length_take]
    have := h.pos_le
    omega
  · exact Nat.le_trans (usedOf_take_le _ _) h.fits

/-- A piece behind the last one. -/
theorem Tp.addRow {w w' : World} {gt gp : Nat} {s : Pw} {t : Tst} {F : List Nat} {v v' : Value} {X : List PC} {bW bR : Nat} (h : Tp w gt gp s t F v X bW bR) (p : PC)
    (hobj : w'.heap[gt]? = some (tapObj gp t.room t.early bW bR v' t.pos)) (hrow : w'.ownsRow 0 99 2 v' (X.length + 1) (cP (X ++ [p])))
    (hob : v'.ownBlock = v.ownBlock ∨ ∃ g, v'.ownBlock = some g ∧ w.heap.size ≤ g) (hsz : w.heap.size ≤ w'.heap.size)
    (hk : ∀ k, k < w.heap.size → k ≠ gt → v.ownBlock ≠ some k → w'.heap[k]? = w.heap[k]?)
    (hp : Rd w' p.a p.l.length p.l) (hpc : p.l.length ≤ p.c) (hpa : ∀ b o, p.a = some ⟨b, o, none⟩ → w.heap.size ≤ b ∧ v'.ownBlock ≠ some b ∧ b < w'.heap.size) (hpe : p.e = usedOf t.P + (4 + p.l.length)) (hfit : usedOf t.P + (4 + p.l.length) ≤ t.room) :
    ∃ F', Tp w' gt gp s (t.add p.l) F' v' (X ++ [p]) bW bR ∧ ∀ k ∈ F', k ∈ F ∨ w.heap.size ≤ k := by
  have hrn := h.row_ne
  have hsn := h.set_ne
  have hgt := lt_of_block h.obj
  have hgp := h.pow.lt
  obtain ⟨Nw, hNw, hNv, hNp⟩ : ∃ Nw : List Nat, (∀ k ∈ Nw, w.heap.size ≤ k ∧ k < w'.heap.size) ∧ (∀ g, v'.ownBlock = some g → g ∈ F ∨ g ∈ Nw) ∧ (∀ b o, p.a = some ⟨b, o, none⟩ → b ∈ Nw) := by
    have hn1 : ∃ N1 : List Nat, (∀ k ∈ N1, w.heap.size ≤ k ∧ k < w'.heap.size) ∧ (∀ g, v'.ownBlock = some g → g ∈ F ∨ g ∈ N1) := by
      rcases hob with hob | ⟨g, hg, hge⟩
      · exact ⟨[], by simp, fun g hg => .inl (h.fv g (hob ▸ hg))⟩
      · exact ⟨[g], by simpa using ⟨hge, (hrow.lt g hg).2⟩, fun g' hg' => .inr (by rw [hg] at hg'; injection hg' with e; simp [e])⟩
    have hn2 : ∃ N2 : List Nat, (∀ k ∈ N2, w.heap.size ≤ k ∧ k < w'.heap.size) ∧ (∀ b o, p.a = some ⟨b, o, none⟩ → b ∈ N2) := by
      rcases hpa' : p.a with _ | ⟨b, o, sp⟩
      · exact ⟨[], by simp, fun b o e => by cases e⟩
      · cases sp with
        | none => exact ⟨[b], by simpa using ⟨(hpa b o hpa').1, (hpa b o hpa').2.2⟩, fun b' o' e => by injection e with e; injection e with e; simp [e]⟩
        | some sp => exact ⟨[], by simp, fun b' o' e => by injection e with e; injection e with _ _ e; cases e⟩
    obtain ⟨N1, a1, a2⟩ := hn1
    obtain ⟨N2, b1, b2⟩ := hn2
    refine ⟨N1 ++ N2, ?_, fun g hg => (a2 g hg).imp id (fun h => by simp [h]), fun b o e => by simp [b2 b o e]⟩
    intro k hk
    simp only [List.mem_append] at hk
    rcases hk with hk | hk
    · exact a1 k hk
    · exact b1 k hk
  have hold : ∀ b, b < w.heap.size → v.ownBlock ≠ some b → v'.ownBlock ≠ some b := by
    intro b hb hne e
    rcases hob with hob | ⟨g, hg, hge⟩
    · exact hne (hob ▸ e)
    · rw [hg] at e
      injection e with e
      omega
  refine ⟨F ++ Nw, ⟨hobj, (hk gp hgp hsn.2.2 hrn.2.1).trans h.pow, h.mw.kept (hk bW h.mw.lt hsn.1 hrn.2.2.1), h.mr.kept (hk bR h.mr.lt hsn.2.1 hrn.2.2.2), by simpa using hrow, ?_, ?_, ?_, ?_, ?_, h.roomle, h.earlyle, by simp [h.ft], by simp [h.fw], by simp [h.fr], fun g hg => by simpa using hNv g hg, ?_, ?_⟩, ?_⟩
  · intro q hq
    simp only [List.mem_append, List.mem_singleton] at hq
    rcases hq with hq | rfl
    · obtain ⟨h1, h2, h3⟩ := h.pcs q hq
      refine ⟨⟨h1.1, h1.2.1, fun hn => ?_⟩, h2, fun hn b' o' e' => ⟨by simp [(h3 hn b' o' e').1], (h3 hn b' o' e').2.1, ?_⟩⟩
      · obtain ⟨b, o, e, hc⟩ := h1.2.2 hn
        refine ⟨b, o, e, fun j hj => ?_⟩
        rw [← hc j hj]
        simp only [World.cell?, hk b (World.block_lt_of_cell? w _ (hc j hj)) (h3 hn b o e).2.1 (h3 hn b o e).2.2]
      · obtain ⟨b, o, e, hc⟩ := h1.2.2 hn
        have : b = b' := by rw [e] at e'; injection e' with e'; injection e' with e'
        subst this
        exact hold b (World.block_lt_of_cell? w _ (hc 0 hn)) (h3 hn b o e).2.2
    · refine ⟨hp, hpc, fun _ b o e => ⟨by simp [hNp b o e], by have := (hpa b o e).1; omega, (hpa b o e).2.1⟩⟩
  · simp only [Tst.add, List.map_append, h.lst, List.map_cons, List.map_nil]
  · intro i hi
    simp only [List.length_append, List.length_singleton] at hi
    have hXl := h.len
    by_cases hiX : i < X.length
    · have e1 : (X ++ [p]).getD i PC.none = X.getD i PC.none := by simp [List.getD, hiX, List.getElem?_append_left]
      rw [e1, h.ends i hiX]
      simp only [Tst.add]
      rw [List.take_append_of_le_length (by omega)]
    · have : i = X.length := by omega
      subst this
      have e1 : (X ++ [p]).getD X.length PC.none = p := by simp [List.getD]
      rw [e1, hpe]
      simp only [Tst.add]
      rw [List.take_of_length_le (by simp; omega), usedOf_snoc]
  · simp only [Tst.add, List.length_append]
    have := h.pos_le
    omega
  · simp only [Tst.add, usedOf_snoc]
    exact hfit
  · simp only [List.mem_append, not_or]
    exact ⟨h.fp, fun hx => by have := hNw gp hx; omega⟩
  · intro k hk
    simp only [List.mem_append] at hk
    rcases hk with hk | hk
    · exact Nat.lt_of_lt_of_le (h.fl k hk) hsz
    · exact (hNw k hk).2
  · intro k hk
    simp only [List.mem_append] at hk
    exact hk.imp id (fun h => (hNw k h).1)

end Go.Proofs.Ytkfnjekeegebaaa
