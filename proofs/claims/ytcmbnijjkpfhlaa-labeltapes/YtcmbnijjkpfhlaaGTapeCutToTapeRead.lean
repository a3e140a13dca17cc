/- A tape's pieces from the position on, dropped: slices.Delete, cut. -/
import Derived.Test.YtcmbnijjkpfhlaaTape
import Derived.BigRegion
import Derived.Laws.CopyOwn
import Derived.Lib.SliceRun
import Derived.Deep.RegionWith
import Derived.Deep.RegionLaw
namespace Go.Proofs.Ytcmbnijjkpfhlaa
open Go.RowKit
set_option linter.unusedSimpArgs false

theorem infoP : (Try.prog.info? 122).map (fun i => (i.zero, i.size, i.bytes)) = some (some (.agg #[.slice none 0 0, .int .i64 0]), 2, 32) := by kernel_rfl

theorem elemP : Try.prog.elem 70 = 122 := by kernel_rfl

theorem sliceP_to (a : Option Addr) (n c k : Nat) (q : IntKind) (hk : k ≤ c) (w : World) :
    (Instr.slice 70 (.slice a n c) none (some (.int q (k : Int))) none).run Try.prog w = .ok (.slice a k c) w := by
  obtain ⟨i0, hi0, hz0, hz1, hz2⟩ := info_parts infoP
  rw [run_slice_h w 70 a n c (by kernel_rfl) q k (by omega) (by omega)]
  simp [sizeOf, typeInfo, elemP, hi0, sliced]
  intro _
  cases a <;> simp [Addr.add]

theorem sliceP_all3 (a : Option Addr) (n c k : Nat) (hk : k ≤ n) (hc : n ≤ c) :
    ∃ V, ∀ w, (Instr.slice 70 (.slice a n c) (some (.int .i64 (k : Int))) (some (.int .i64 (n : Int))) (some (.int .i64 (n : Int)))).run Try.prog w = .ok V w := by
  obtain ⟨i0, hi0, hz0, hz1, hz2⟩ := info_parts infoP
  refine ⟨sliced a k n n 2, fun w => ?_⟩
  rw [run_slice_lhm w 70 a n c (by kernel_rfl) .i64 .i64 .i64 k n n (by omega) (by omega) (by omega) (by omega)]
  simp [sizeOf, typeInfo, elemP, hi0, hz1, sliced]

theorem sliceP_end (a : Option Addr) (n c : Nat) :
    ∃ A, ∀ w, (Instr.slice 70 (.slice a n c) (some (.int .i64 (n : Int))) none none).run Try.prog w = .ok (.slice A 0 (c - n)) w := by
  obtain ⟨i0, hi0, hz0, hz1, hz2⟩ := info_parts infoP
  refine ⟨if c = n then a else a.map (·.add (n * 2)), fun w => ?_⟩
  rw [run_slice_l w 70 a n c (by kernel_rfl) .i64 n (by omega) (by omega)]
  simp [sizeOf, typeInfo, elemP, hi0, hz1, sliced]

theorem sliceP_mid (g n c k : Nat) (hk : k < n) (hc : n ≤ c) (w : World) :
    (Instr.slice 70 (.slice (some ⟨g, 0, none⟩) k c) (some (.int .i64 (k : Int))) (some (.int .i64 (n : Int))) none).run Try.prog w = .ok (.slice (some ⟨g, k * 2, none⟩) (n - k) (c - k)) w := by
  obtain ⟨i0, hi0, hz0, hz1, hz2⟩ := info_parts infoP
  rw [run_slice_lh w 70 (some ⟨g, 0, none⟩) k c (by kernel_rfl) .i64 .i64 k n (by omega) (by omega) (by omega)]
  simp [sizeOf, typeInfo, elemP, hi0, hz1, sliced, add_plain]
  omega

theorem appendP_none (g n c m : Nat) (A : Option Addr) (hc : n ≤ c) (ty : TypeId) (w : World) :
    (Builtin.append_ #[70, 70] ty #[.slice (some ⟨g, 0, none⟩) n c, .slice A 0 m]).run Try.prog w = .ok (.slice (some ⟨g, 0, none⟩) n c) w := by
  obtain ⟨i0, hi0, hz0, hz1, hz2⟩ := info_parts infoP
  cases A <;> simp [Builtin.append_, run_underlying Try.underlying70, sizeOf, typeInfo, hi0, Builtin.lenOf, Builtin.firstCells, hc, storeCells, loadCells, loadCellsFrom]

theorem zeroP_one (m : Nat) : ∀ u ∈ (Builtin.zeroCells #[Value.slice none 0 0, .int .i64 0] m).toList, u.oneCell' = true := by
  intro u hu
  simp only [Builtin.zeroCells] at hu
  simp at hu
  obtain ⟨i, _, rfl⟩ := hu
  rcases Nat.mod_two_eq_zero_or_one i with h | h <;> simp [h] <;> rfl

theorem clearP (w : World) (ty : TypeId) (g n k d : Nat) (cur : Array Value) (hg : w.heap[g]? = some (.cells cur 122 (0, 0))) (hk : k < n) (hn : n * 2 ≤ cur.size) :
    ∃ cur' : Array Value, (Builtin.clear_ #[70] ty #[.slice (some ⟨g, k * 2, none⟩) (n - k) d]).run Try.prog w = .ok (.tuple #[]) (put w g (.cells cur' 122 (0, 0))) ∧ cur'.size = cur.size ∧ cur'.toList.take (k * 2) = cur.toList.take (k * 2) := by
  obtain ⟨i0, hi0, hz0, hz1, hz2⟩ := info_parts infoP
  have hzs : (Builtin.zeroCells #[Value.slice none 0 0, .int .i64 0] (n - k)).toList.length = (n - k) * 2 := by
    rw [Array.length_toList, size_zeroCells]; rfl
  have hst := run_storeCells_at Try.prog g (k * 2) 122 (Builtin.zeroCells #[Value.slice none 0 0, .int .i64 0] (n - k)).toList 0 cur w hg (by rw [hzs]; omega) (zeroP_one _)
  rw [Nat.add_zero] at hst
  obtain ⟨cur', hcur'⟩ : ∃ cur', cur' = (cur.toList.take (k * 2) ++ (Builtin.zeroCells #[Value.slice none 0 0, .int .i64 0] (n - k)).toList ++ cur.toList.drop (k * 2 + (Builtin.zeroCells #[Value.slice none 0 0, .int .i64 0] (n - k)).toList.length)).toArray := ⟨_, rfl⟩
  rw [← hcur'] at hst
  have hput : w.setRow g cur' = put w g (.cells cur' 122 (0, 0)) := by
    have hlt : g < w.heap.size := (Array.getElem?_eq_some_iff.1 hg).1
    have e : ∀ f : Obj → Obj, w.heap.modify g f = w.heap.setIfInBounds g (f (.cells cur 122 (0, 0))) := by
      intro f
      apply Array.ext_getElem?
      intro i
      rw [Array.getElem?_modify]
      by_cases hi : g = i
      · subst hi; rw [hg]; simp [hlt]
      · rw [if_neg hi, Array.getElem?_setIfInBounds_ne hi]
    simp only [World.setRow, e, put]
  rw [hput] at hst
  refine ⟨cur', ?_, ?_, ?_⟩
  · obtain ⟨m, hm⟩ : ∃ m, n - k = m + 1 := ⟨n - k - 1, by omega⟩
    rw [hm] at hst ⊢
    simp [Builtin.clear_, run_underlying Try.underlying70, zeroValue, typeInfo, hi0, hz0, Value.cells, hst]
  · rw [hcur']
    simp only [List.size_toArray, List.length_append, List.length_take, List.length_drop, Array.length_toList, hzs]
    omega
  · rw [hcur']
    have : (cur.toList.take (k * 2)).length = k * 2 := by rw [List.length_take, Array.length_toList]; omega
    rw [List.append_assoc, List.take_append_of_le_length (by omega), List.take_of_length_le (by omega)]

theorem delete_same (w : World) (a : Option Addr) (n c : Nat) (hc : n ≤ c) :
    Calls Try.prog 79 #[.slice a n c, .int .i64 (n : Int), .int .i64 (n : Int)] w fun e w' => e = .returned (.slice a n c) ∧ w' = w := by
  obtain ⟨V, hV⟩ := sliceP_all3 a n c n (Nat.le_refl _) hc
  go_enter Try.func79, Try.ntmps79
  go_wp2
  go_ret
  exact ⟨rfl, rfl⟩

theorem delete_tail (w : World) (g n c k : Nat) (cur : Array Value) (hg : w.heap[g]? = some (.cells cur 122 (0, 0))) (hk : k < n) (hc : n ≤ c) (hs : n * 2 ≤ cur.size) :
    Calls Try.prog 79 #[.slice (some ⟨g, 0, none⟩) n c, .int .i64 (k : Int), .int .i64 (n : Int)] w fun e w' => e = .returned (.slice (some ⟨g, 0, none⟩) k c) ∧ ∃ m cur', w' = put (w.drewN m) g (.cells cur' 122 (0, 0)) ∧ cur'.size = cur.size ∧ cur'.toList.take (k * 2) = cur.toList.take (k * 2) := by
  obtain ⟨V, hV⟩ := sliceP_all3 (some ⟨g, 0, none⟩) n c k (by omega) hc
  obtain ⟨A, hA⟩ := sliceP_end (some ⟨g, 0, none⟩) n c
  have h2 := sliceP_to (some ⟨g, 0, none⟩) n c k .i64 (by omega)
  have hkc : k ≤ c := by omega
  have h4 := sliceP_mid g n c k hk hc
  have HC : Hid (∀ ty, _) := Lib.hid fun ty => clearP w.drew ty g n k (c - k) cur hg hk hs
  have hne : ((k : Int) == (n : Int)) = false := by simp; omega
  obtain ⟨D, hD⟩ : ∃ D, D = c - n := ⟨_, rfl⟩
  obtain ⟨E, hE⟩ : ∃ E, E = n - k := ⟨_, rfl⟩
  obtain ⟨J, hJ⟩ : ∃ J, J = c - k := ⟨_, rfl⟩
  rw [← hD] at hA
  rw [← hE, ← hJ] at h4 HC
  clear hg hD hE hJ hs
  go_enter Try.func79, Try.ntmps79
  go_upto_region 5 with fail
  rcases A with _ | A
  · go_region
    obtain ⟨cur', hcl, hz, ht⟩ := HC.out 0
    go_wp2
    go_ret
    exact ⟨rfl, 1, cur', rfl, hz, ht⟩
  · go_region
    obtain ⟨cur', hcl, hz, ht⟩ := HC.out 0
    go_wp2
    go_ret
    exact ⟨rfl, 1, cur', rfl, hz, ht⟩

end Go.Proofs.Ytcmbnijjkpfhlaa

/- A tape's cut and add: its pieces from the position on dropped; a piece laid behind the last one. -/
namespace Go.Proofs.Ytcmbnijjkpfhlaa
open Go.RowKit
set_option linter.unusedSimpArgs false

/-- The pieces up to the position. -/
def Tst.cut (t : Tst) : Tst := { t with P := t.P.take t.pos }

/-- A piece behind the last one. -/
def Tst.add (t : Tst) (l : List Nat) : Tst := { t with P := t.P ++ [l] }

theorem Tst.used_cut (t : Tst) : t.cut.used = t.used := by simp [Tst.cut, Tst.used, List.take_take]

theorem setCell5 {w : World} {gt gp room early bW bR pos : Nat} {v : Value} (h : w.heap[gt]? = some (tapObj gp room early bW bR v pos)) (v' : Value) : w.setCell ⟨gt, 5, none⟩ v' = put w gt (tapObj gp room early bW bR v' pos) := set_put _ h
theorem setCell6 {w : World} {gt gp room early bW bR pos : Nat} {v : Value} (h : w.heap[gt]? = some (tapObj gp room early bW bR v pos)) (p : Nat) : w.setCell ⟨gt, 6, none⟩ (.int .i64 (p : Int)) = put w gt (tapObj gp room early bW bR v p) := set_put _ h

theorem Tp.row_ne {w : World} {gt gp : Nat} {s : Pw} {t : Tst} {F : List Nat} {v : Value} {X : List PC} {bW bR : Nat} (h : Tp w gt gp s t F v X bW bR) : v.ownBlock ≠ some gt ∧ v.ownBlock ≠ some gp ∧ v.ownBlock ≠ some bW ∧ v.ownBlock ≠ some bR := by
  have key : ∀ g, v.ownBlock = some g → ∃ cur, w.heap[g]? = some (.cells cur 122 (0, 0)) := by
    intro g hg
    rcases h.row.2 with ⟨rfl, _⟩ | ⟨g', cap, cur, rfl, _, hg', _⟩
    · cases hg
    · injection hg with hg
      subst hg
      exact ⟨cur, hg'⟩
  refine ⟨fun e => ?_, fun e => ?_, fun e => ?_, fun e => ?_⟩
  · obtain ⟨cur, hc⟩ := key _ e
    rw [h.obj] at hc
    simp [tapObj] at hc
  · exact h.fp (h.fv _ e)
  · obtain ⟨cur, hc⟩ := key _ e
    obtain ⟨es, clock, hm⟩ := h.mw.map
    rw [hm] at hc
    cases hc
  · obtain ⟨cur, hc⟩ := key _ e
    obtain ⟨es, clock, hm⟩ := h.mr.map
    rw [hm] at hc
    cases hc

theorem Tp.set_ne {w : World} {gt gp : Nat} {s : Pw} {t : Tst} {F : List Nat} {v : Value} {X : List PC} {bW bR : Nat} (h : Tp w gt gp s t F v X bW bR) : bW ≠ gt ∧ bR ≠ gt ∧ gp ≠ gt := by
  refine ⟨?_, ?_, ?_⟩
  · rintro rfl
    obtain ⟨es, clock, hm⟩ := h.mw.map
    rw [h.obj] at hm
    cases hm
  · rintro rfl
    obtain ⟨es, clock, hm⟩ := h.mr.map
    rw [h.obj] at hm
    cases hm
  · rintro rfl
    exact h.fp h.ft

/-- Pieces dropped from the position on. -/
theorem Tp.cutRow {w w' : World} {gt gp : Nat} {s : Pw} {t : Tst} {F : List Nat} {v v' : Value} {X : List PC} {bW bR : Nat} (h : Tp w gt gp s t F v X bW bR)
    (hobj : w'.heap[gt]? = some (tapObj gp t.room t.early bW bR v' t.pos)) (hrow : w'.ownsRow 0 122 2 v' t.pos (cP (X.take t.pos))) (hob : v'.ownBlock = v.ownBlock) (hsz : w.heap.size ≤ w'.heap.size)
    (hk : ∀ k, k < w.heap.size → k ≠ gt → v.ownBlock ≠ some k → w'.heap[k]? = w.heap[k]?) : Tp w' gt gp s t.cut F v' (X.take t.pos) bW bR := by
  have hlen : (X.take t.pos).length = t.pos := by rw [List.length_take, h.len]; have := h.pos_le; omega
  have hrn := h.row_ne
  have hsn := h.set_ne
  refine ⟨hobj, (hk gp h.pow.lt hsn.2.2 hrn.2.1).trans h.pow, h.mw.kept (hk bW h.mw.lt hsn.1 hrn.2.2.1), h.mr.kept (hk bR h.mr.lt hsn.2.1 hrn.2.2.2), by rw [hlen]; exact hrow, ?_, ?_, ?_, ?_, ?_, h.roomle, h.earlyle, h.ft, h.fw, h.fr, fun g hg => h.fv g (hob ▸ hg), h.fp, fun k hk => Nat.lt_of_lt_of_le (h.fl k hk) hsz⟩
  · intro p hp
    obtain ⟨h1, h2, h3⟩ := h.pcs p (List.mem_of_mem_take hp)
    refine ⟨⟨h1.1, h1.2.1, fun hn => ?_⟩, h2, fun hn b o e => ⟨(h3 hn b o e).1, (h3 hn b o e).2.1, by rw [hob]; exact (h3 hn b o e).2.2⟩⟩
    obtain ⟨b, o, e, hc⟩ := h1.2.2 hn
    refine ⟨b, o, e, fun j hj => ?_⟩
    rw [← hc j hj]
    simp only [World.cell?, hk b (World.block_lt_of_cell? w _ (hc j hj)) (h3 hn b o e).2.1 (h3 hn b o e).2.2]
  · simp only [Tst.cut, List.map_take, h.lst]
  · intro i hi
    rw [hlen] at hi
    have e1 : (X.take t.pos).getD i PC.none = X.getD i PC.none := by
      have : i < X.length := by rw [h.len]; have := h.pos_le; omega
      simp [List.getD, hi, this]
    rw [e1, h.ends i (by rw [h.len]; have := h.pos_le; omega)]
    simp only [Tst.cut, List.take_take]
    rw [Nat.min_eq_left (by omega)]
  · simp only [Tst.cut, List.length_take]
    have := h.pos_le
    omega
  · exact Nat.le_trans (usedOf_take_le _ _) h.fits

/-- A piece behind the last one. -/
theorem Tp.addRow {w w' : World} {gt gp : Nat} {s : Pw} {t : Tst} {F : List Nat} {v v' : Value} {X : List PC} {bW bR : Nat} (h : Tp w gt gp s t F v X bW bR) (p : PC)
    (hobj : w'.heap[gt]? = some (tapObj gp t.room t.early bW bR v' t.pos)) (hrow : w'.ownsRow 0 122 2 v' (X.length + 1) (cP (X ++ [p])))
    (hob : v'.ownBlock = v.ownBlock ∨ ∃ g, v'.ownBlock = some g ∧ w.heap.size ≤ g) (hsz : w.heap.size ≤ w'.heap.size)
    (hk : ∀ k, k < w.heap.size → k ≠ gt → v.ownBlock ≠ some k → w'.heap[k]? = w.heap[k]?)
    (hp : Rd w' p.a p.l.length p.l) (hpc : p.l.length ≤ p.c) (hpa : ∀ b o, p.a = some ⟨b, o, none⟩ → w.heap.size ≤ b ∧ v'.ownBlock ≠ some b ∧ b < w'.heap.size) (hpe : p.e = usedOf t.P + (4 + p.l.length)) (hfit : usedOf t.P + (4 + p.l.length) ≤ t.room) :
    ∃ F', Tp w' gt gp s (t.add p.l) F' v' (X ++ [p]) bW bR ∧ ∀ k ∈ F', k ∈ F ∨ w.heap.size ≤ k := by
  have hrn := h.row_ne
  have hsn := h.set_ne
  have hgt := lt_of_block h.obj
  have hgp := h.pow.lt
  obtain ⟨Nw, hNw, hNv, hNp⟩ : ∃ Nw : List Nat, (∀ k ∈ Nw, w.heap.size ≤ k ∧ k < w'.heap.size) ∧ (∀ g, v'.ownBlock = some g → g ∈ F ∨ g ∈ Nw) ∧ (∀ b o, p.a = some ⟨b, o, none⟩ → b ∈ Nw) := by
    have hn1 : ∃ N1 : List Nat, (∀ k ∈ N1, w.heap.size ≤ k ∧ k < w'.heap.size) ∧ (∀ g, v'.ownBlock = some g → g ∈ F ∨ g ∈ N1) := by
      rcases hob with hob | ⟨g, hg, hge⟩
      · exact ⟨[], by simp, fun g hg => .inl (h.fv g (hob ▸ hg))⟩
      · exact ⟨[g], by simpa using ⟨hge, (hrow.lt g hg).2⟩, fun g' hg' => .inr (by rw [hg] at hg'; injection hg' with e; simp [e])⟩
    have hn2 : ∃ N2 : List Nat, (∀ k ∈ N2, w.heap.size ≤ k ∧ k < w'.heap.size) ∧ (∀ b o, p.a = some ⟨b, o, none⟩ → b ∈ N2) := by
      rcases hpa' : p.a with _ | ⟨b, o, sp⟩
      · exact ⟨[], by simp, fun b o e => by cases e⟩
      · cases sp with
        | none => exact ⟨[b], by simpa using ⟨(hpa b o hpa').1, (hpa b o hpa').2.2⟩, fun b' o' e => by injection e with e; injection e with e; simp [e]⟩
        | some sp => exact ⟨[], by simp, fun b' o' e => by injection e with e; injection e with _ _ e; cases e⟩
    obtain ⟨N1, a1, a2⟩ := hn1
    obtain ⟨N2, b1, b2⟩ := hn2
    refine ⟨N1 ++ N2, ?_, fun g hg => (a2 g hg).imp id (fun h => by simp [h]), fun b o e => by simp [b2 b o e]⟩
    intro k hk
    simp only [List.mem_append] at hk
    rcases hk with hk | hk
    · exact a1 k hk
    · exact b1 k hk
  have hold : ∀ b, b < w.heap.size → v.ownBlock ≠ some b → v'.ownBlock ≠ some b := by
    intro b hb hne e
    rcases hob with hob | ⟨g, hg, hge⟩
    · exact hne (hob ▸ e)
    · rw [hg] at e
      injection e with e
      omega
  refine ⟨F ++ Nw, ⟨hobj, (hk gp hgp hsn.2.2 hrn.2.1).trans h.pow, h.mw.kept (hk bW h.mw.lt hsn.1 hrn.2.2.1), h.mr.kept (hk bR h.mr.lt hsn.2.1 hrn.2.2.2), by simpa using hrow, ?_, ?_, ?_, ?_, ?_, h.roomle, h.earlyle, by simp [h.ft], by simp [h.fw], by simp [h.fr], fun g hg => by simpa using hNv g hg, ?_, ?_⟩, ?_⟩
  · intro q hq
    simp only [List.mem_append, List.mem_singleton] at hq
    rcases hq with hq | rfl
    · obtain ⟨h1, h2, h3⟩ := h.pcs q hq
      refine ⟨⟨h1.1, h1.2.1, fun hn => ?_⟩, h2, fun hn b' o' e' => ⟨by simp [(h3 hn b' o' e').1], (h3 hn b' o' e').2.1, ?_⟩⟩
      · obtain ⟨b, o, e, hc⟩ := h1.2.2 hn
        refine ⟨b, o, e, fun j hj => ?_⟩
        rw [← hc j hj]
        simp only [World.cell?, hk b (World.block_lt_of_cell? w _ (hc j hj)) (h3 hn b o e).2.1 (h3 hn b o e).2.2]
      · obtain ⟨b, o, e, hc⟩ := h1.2.2 hn
        have : b = b' := by rw [e] at e'; injection e' with e'; injection e' with e'
        subst this
        exact hold b (World.block_lt_of_cell? w _ (hc 0 hn)) (h3 hn b o e).2.2
    · refine ⟨hp, hpc, fun _ b o e => ⟨by simp [hNp b o e], by have := (hpa b o e).1; omega, (hpa b o e).2.1⟩⟩
  · simp only [Tst.add, List.map_append, h.lst, List.map_cons, List.map_nil]
  · intro i hi
    simp only [List.length_append, List.length_singleton] at hi
    have hXl := h.len
    by_cases hiX : i < X.length
    · have e1 : (X ++ [p]).getD i PC.none = X.getD i PC.none := by simp [List.getD, hiX, List.getElem?_append_left]
      rw [e1, h.ends i hiX]
      simp only [Tst.add]
      rw [List.take_append_of_le_length (by omega)]
    · have : i = X.length := by omega
      subst this
      have e1 : (X ++ [p]).getD X.length PC.none = p := by simp [List.getD]
      rw [e1, hpe]
      simp only [Tst.add]
      rw [List.take_of_length_le (by simp; omega), usedOf_snoc]
  · simp only [Tst.add, List.length_append]
    have := h.pos_le
    omega
  · simp only [Tst.add, usedOf_snoc]
    exact hfit
  · simp only [List.mem_append, not_or]
    exact ⟨h.fp, fun hx => by have := hNw gp hx; omega⟩
  · intro k hk
    simp only [List.mem_append] at hk
    rcases hk with hk | hk
    · exact Nat.lt_of_lt_of_le (h.fl k hk) hsz
    · exact (hNw k hk).2
  · intro k hk
    simp only [List.mem_append] at hk
    exact hk.imp id (fun h => (hNw k h).1)

end Go.Proofs.Ytcmbnijjkpfhlaa

/- The contracts of a tape's cut and add. -/
namespace Go.Proofs.Ytcmbnijjkpfhlaa
open Go.RowKit
set_option linter.unusedSimpArgs false

theorem Tst.cut_self {t : Tst} (h : t.pos = t.P.length) : t.cut = t := by
  obtain ⟨r, y, a, b, P, p⟩ := t
  simp only at h
  simp [Tst.cut, h]

/-- What a tape's cells are, as long as its block is as it was. -/
theorem tap_keep {W : World} {gt gp room early bW bR pos : Nat} {v : Value} (h : W.heap[gt]? = some (tapObj gp room early bW bR v pos)) :
    W.cell? ⟨gt, 5, none⟩ = some v ∧ W.cell? ⟨gt, 6, none⟩ = some (.int .i64 (pos : Int)) ∧ W.frozen? ⟨gt, 5, none⟩ = false := by
  refine ⟨?_, ?_, ?_⟩
  · rw [cell_of_row W gt _ _ 72 (0, 0) h]; rfl
  · rw [cell_of_row W gt _ _ 72 (0, 0) h]; rfl
  · simp [World.frozen?, h, tapObj]

set_option maxHeartbeats 4000000 in
theorem cut_any (w : World) (gt gp : Nat) (s : Pw) (t : Tst) (F : List Nat) (h : Tap w gt gp s t F) :
    Calls Try.prog 74 #[.pointer (some ⟨gt, 0, none⟩)] w fun e w' => e = .returned (.tuple #[]) ∧ Tap w' gt gp s t.cut F ∧ Save F w w' := by
  obtain ⟨v, X, bW, bR, h⟩ := h
  have HH := Lib.hid h
  obtain ⟨d5, d6, f5⟩ := tap_keep h.obj
  obtain ⟨a, c, rfl, hc, hsh⟩ := h.shape
  have hpl := h.pos_le
  have hrn := h.row_ne
  by_cases hp : t.pos = t.P.length
  · have HD : Hid (∀ W : World, _) := Lib.hid fun W => delete_same W a t.P.length c hc
    rw [hp] at d6
    obtain ⟨n, hn⟩ : ∃ n, n = t.P.length := ⟨_, rfl⟩
    rw [← hn] at d5 d6 HD
    have HN := Lib.hid (And.intro hn hp)
    clear h hsh hpl hrn hp hn
    go_enter Try.func74, Try.ntmps74
    go_upto_region 0 with fail
    go_region_with (first
        | (go_at_call 79; refine (HD.out _).mono ?_; rintro e w1 ⟨rfl, rfl⟩))
    all_goals
      go_wp2
      go_end0
      have e : (w.setCell ⟨gt, 5, none⟩ (.slice a n c)).drew = w.drew := by
        change w.drew.setCell ⟨gt, 5, none⟩ (.slice a n c) = w.drew
        rw [HN.out.1, setCell5 (w := w.drew) HH.out.obj, put_self (w := w.drew) HH.out.obj]
      refine ⟨rfl, ?_, ?_⟩
      · rw [e, Tst.cut_self HN.out.2]
        exact ⟨_, X, bW, bR, HH.out.kept (Nat.le_refl _) (fun _ _ _ => rfl) HH.out.pow⟩
      · rw [e]
        exact (Save.refl _ _).drew
  · have hlt0 : t.pos < t.P.length := Nat.lt_of_le_of_ne hpl hp
    have hpos0 : 0 < t.P.length := Nat.lt_of_le_of_lt (Nat.zero_le _) hlt0
    obtain ⟨g, cur, rfl, hg, hm, hs, ht⟩ := hsh hpos0
    obtain ⟨n, hn⟩ : ∃ n, n = t.P.length := ⟨_, rfl⟩
    obtain ⟨p, hpp⟩ : ∃ p, p = t.pos := ⟨_, rfl⟩
    have hng : gt ≠ g := by
      rintro rfl
      exact hrn.1 rfl
    rw [← hn] at d5
    rw [← hpp] at d6
    have hpn : p < n := by rw [hn, hpp]; exact hlt0
    have hnc : n ≤ c := by rw [hn]; exact hc
    have hsz : n * 2 ≤ cur.size := by rw [hs]; exact Nat.mul_le_mul_right _ hnc
    have HD : Hid (∀ W : World, W.heap[g]? = some (.cells cur 122 (0, 0)) → W.heap[gt]? = w.heap[gt]? → Calls Try.prog 79 #[.slice (some ⟨g, 0, none⟩) n c, .int .i64 (p : Int), .int .i64 (n : Int)] W fun e w' => e = .returned (.slice (some ⟨g, 0, none⟩) p c) ∧ w'.cell? ⟨gt, 5, none⟩ = some (.slice (some ⟨g, 0, none⟩) n c) ∧ w'.frozen? ⟨gt, 5, none⟩ = false ∧ Hid (∃ m cur', w' = put (W.drewN m) g (.cells cur' 122 (0, 0)) ∧ cur'.size = cur.size ∧ cur'.toList.take (p * 2) = cur.toList.take (p * 2))) := by
      refine Lib.hid fun W hW hWt => ?_
      refine (delete_tail W g n c p cur hW hpn hnc hsz).mono ?_
      rintro e w1 ⟨rfl, m, cur', hw1, hz, hcut⟩
      have ho1 : w1.heap[gt]? = some (tapObj gp t.room t.early bW bR (.slice (some ⟨g, 0, none⟩) t.P.length c) t.pos) := by
        rw [hw1]
        exact (put_other hng).trans (hWt.trans h.obj)
      obtain ⟨k5, k6, k7⟩ := tap_keep ho1
      rw [← hn] at k5
      exact ⟨rfl, k5, k7, Lib.hid ⟨m, cur', hw1, hz, hcut⟩⟩
    have HN := Lib.hid (And.intro hn (And.intro hpp (And.intro hg (And.intro hm (And.intro hs (And.intro ht (And.intro hc (And.intro hpl hng))))))))
    clear h hsh hpl hrn hp hn hpp hg hm hs ht hc hng hpn hnc hsz hlt0 hpos0
    go_enter Try.func74, Try.ntmps74
    go_upto_region 0 with fail
    go_region_with (first
        | (go_at_call 79; refine (HD.out _ ?_ ?_).mono ?_; exact HN.out.2.2.1; rfl; rintro e w1 ⟨rfl, g5, g7, HR⟩))
    all_goals
      go_wp2
      go_end0
      obtain ⟨hn, hpp, hg, hm, hs, ht, hc, hpl, hng⟩ := HN.out
      obtain ⟨m, cur', rfl, hz, hcut⟩ := HR.out
      have ho1 : (put ((w.drew).drewN m) g (.cells cur' 122 (0, 0))).heap[gt]? = some (tapObj gp t.room t.early bW bR (.slice (some ⟨g, 0, none⟩) t.P.length c) t.pos) := (put_other hng).trans HH.out.obj
      refine ⟨rfl, ⟨.slice (some ⟨g, 0, none⟩) p c, X.take t.pos, bW, bR, HH.out.cutRow ?_ ?_ rfl ?_ ?_⟩, ?_⟩
      · rw [setCell5 ho1]
        exact put_same ho1
      · rw [setCell5 ho1]
        refine ⟨?_, .inr ⟨g, c, cur', by rw [hpp], Nat.zero_le _, (put_other (Ne.symm hng)).trans (put_same (w := (w.drew).drewN m) hg), by omega, hm, by rw [hz]; exact hs, ?_⟩⟩
        · rw [cP_length, List.length_take, HH.out.len]
          omega
        · rw [← hpp, hcut, ← cP_take, ← ht, List.take_take, Nat.min_eq_left (by omega)]
      · rw [setCell5 ho1, put_size, put_size]
        exact Nat.le_refl _
      · intro k _ h1 h2
        rw [setCell5 ho1]
        exact (put_other h1).trans (put_other (fun e => h2 (by rw [e]; rfl)))
      · rw [setCell5 ho1]
        exact (((Save.refl F w).drew.drewN m).put (g := g) (HH.out.fv g rfl) _).put HH.out.ft _

end Go.Proofs.Ytcmbnijjkpfhlaa

/- The contract of a tape's add. -/
namespace Go.Proofs.Ytcmbnijjkpfhlaa
open Go.RowKit
set_option linter.unusedSimpArgs false

/-- bytes.Clone, and where the bytes lie. -/
theorem clone_at (a : Option Addr) (n c : Nat) (l : List Nat) (w : World) (h : Rd w a n l) (hn : n ≤ 1000000) :
    Calls Try.prog 53 #[.slice a n c] w fun e w' => ∃ a' c', e = .returned (.slice a' n c') ∧ Rd w' a' n l ∧ n ≤ c' ∧ (∀ b o, a' = some ⟨b, o, none⟩ → w.heap.size ≤ b ∧ b < w'.heap.size) ∧ Below w.heap.size w w' := by
  refine (clone_any a n c l w h hn).mono ?_
  rintro e w' ⟨v, rfl, ho, hb⟩
  obtain ⟨a', c', rfl, hr, hc⟩ := ho.sl
  have hl := h.1
  refine ⟨a', c', by rw [hl], by rw [hl] at hr; exact hr, by omega, ?_, hb⟩
  rintro b o rfl
  exact ho.2.lt b rfl

/-- The piece is laid: what the tape is then. -/
theorem add_end {w WZ w7 : World} {gt gp : Nat} {s : Pw} {t : Tst} {F : List Nat} {v : Value} {X : List PC} {bW bR : Nat} (h : Tp w gt gp s t F v X bW bR) {a' : Option Addr} {n c' E gg cap : Nat} {l : List Nat} {o : Obj}
    (hW : Below w.heap.size w WZ) (hrd : Rd WZ a' n l) (hc : n ≤ c') (hloc : ∀ b o, a' = some ⟨b, o, none⟩ → w.heap.size ≤ b ∧ b < WZ.heap.size)
    (hown : w7.ownsRow 0 122 2 (.slice (some ⟨gg, 0, none⟩) (X.length + 1) cap) (X.length + 1) (cP X ++ [.slice a' n c', .int .i64 (E : Int)])) (hg : (WZ.alloc o).grownBy w7 v.ownBlock)
    (hat : v.ownBlock = some gg ∨ gg = (WZ.alloc o).heap.size) (hn : l.length = n) (hE : E = usedOf t.P + 4 + n) (hfit : usedOf t.P + (4 + n) ≤ t.room) :
    ∃ F', Tap (w7.setCell ⟨gt, 5, none⟩ (.slice (some ⟨gg, 0, none⟩) (X.length + 1) cap)) gt gp s (t.add l) F' ∧ Save F w (w7.setCell ⟨gt, 5, none⟩ (.slice (some ⟨gg, 0, none⟩) (X.length + 1) cap)) ∧ ∀ k ∈ F', k ∈ F ∨ w.heap.size ≤ k := by
  have hgt := lt_of_block h.obj
  have hrn := h.row_ne
  have hsz : w.heap.size ≤ WZ.heap.size := hW.size
  have hsa : (WZ.alloc o).heap.size = WZ.heap.size + 1 := by simp
  have hold : ∀ k, k < WZ.heap.size → v.ownBlock ≠ some k → w7.heap[k]? = WZ.heap[k]? := fun k hk hne =>
    (hg.block k (by omega) (fun e => hne e.symm)).trans (heap_alloc_old WZ o hk)
  have ho7 : w7.heap[gt]? = some (tapObj gp t.room t.early bW bR v t.pos) := (hold gt (by omega) hrn.1).trans ((hW.block gt hgt).trans h.obj)
  have hgg : gg ≠ gt := by
    rintro rfl
    rcases hat with hat | hat
    · exact hrn.1 hat
    · omega
  rw [setCell5 ho7]
  have hk : ∀ k, k < w.heap.size → k ≠ gt → v.ownBlock ≠ some k → (put w7 gt (tapObj gp t.room t.early bW bR (.slice (some ⟨gg, 0, none⟩) (X.length + 1) cap) t.pos)).heap[k]? = w.heap[k]? := fun k hk h1 h2 =>
    (put_other h1).trans ((hold k (by omega) h2).trans (hW.block k hk))
  have hrow : (put w7 gt (tapObj gp t.room t.early bW bR (.slice (some ⟨gg, 0, none⟩) (X.length + 1) cap) t.pos)).ownsRow 0 122 2 (.slice (some ⟨gg, 0, none⟩) (X.length + 1) cap) (X.length + 1) (cP (X ++ [⟨a', c', l, E⟩])) := by
    have e : cP (X ++ [⟨a', c', l, E⟩]) = cP X ++ [.slice a' n c', .int .i64 (E : Int)] := by
      rw [cP_append, ← hn]; rfl
    rw [e]
    refine ⟨hown.1, ?_⟩
    rcases hown.2 with ⟨hv, _⟩ | ⟨g', cap', cur, hv, h0, hgo, rest⟩
    · cases hv
    · have e1 := hv
      injection e1 with e1
      injection e1 with e1
      injection e1 with e1
      subst e1
      exact .inr ⟨gg, cap', cur, hv, h0, (put_other hgg).trans hgo, rest⟩
  have hs70 : WZ.heap.size ≤ w7.heap.size := Nat.le_trans (by omega) hg.size
  have hlocn : ∀ b o, a' = some ⟨b, o, none⟩ → w.heap.size ≤ b ∧ (some gg : Option Nat) ≠ some b ∧ b < (put w7 gt (tapObj gp t.room t.early bW bR (.slice (some ⟨gg, 0, none⟩) (X.length + 1) cap) t.pos)).heap.size := by
    intro b o' e
    obtain ⟨h1, h2⟩ := hloc b o' e
    refine ⟨h1, fun e => ?_, by rw [put_size]; omega⟩
    injection e with e
    subst e
    rcases hat with hat | hat
    · have := (h.row.lt _ hat).2
      omega
    · omega
  obtain ⟨F', hT, hF⟩ := h.addRow (w' := put w7 gt (tapObj gp t.room t.early bW bR (.slice (some ⟨gg, 0, none⟩) (X.length + 1) cap) t.pos)) (v' := .slice (some ⟨gg, 0, none⟩) (X.length + 1) cap) ⟨a', c', l, E⟩ (put_same ho7) hrow
    (by
      rcases hat with hat | hat
      · exact .inl hat.symm
      · exact .inr ⟨gg, rfl, by omega⟩) (by rw [put_size]; omega) hk (by
      simp only [hn]
      refine ⟨hrd.1, hrd.2.1, fun h0 => ?_⟩
      obtain ⟨b, o', e, hcl⟩ := hrd.2.2 h0
      refine ⟨b, o', e, fun j hj => ?_⟩
      obtain ⟨h1, h2⟩ := hloc b o' e
      rw [← hcl j hj]
      have hne : v.ownBlock ≠ some b := fun e => by
        have := (h.row.lt _ e).2
        omega
      simp only [World.cell?, (put_other (show b ≠ gt by omega) : (put w7 gt _).heap[b]? = _), hold b h2 hne]) (by simp only [hn]; exact hc) hlocn (by simp only [hn]; omega) (by simp only [hn]; exact hfit)
  refine ⟨F', ⟨_, _, _, _, hT⟩, ?_, hF⟩
  have hs7 : Save F w w7 := by
    refine ⟨hg.os.trans hW.os, hg.tape.trans hW.tape, hg.output.trans hW.output, Nat.le_trans hsz (Nat.le_trans (by omega) hg.size), fun k hk hx => ?_⟩
    exact (hold k (by omega) (fun e => hx (h.fv k e))).trans (hW.block k hk)
  exact hs7.put h.ft _

set_option maxHeartbeats 4000000 in
theorem add_any (w : World) (gt gp : Nat) (s : Pw) (t : Tst) (F : List Nat) (h : Tap w gt gp s t F) (hp : t.pos = t.P.length) (a : Option Addr) (n c : Nat) (l : List Nat) (hr : Rd w a n l) (hfit : usedOf t.P + (4 + n) ≤ t.room) (hn2 : n ≤ 200) :
    Calls Try.prog 75 #[.pointer (some ⟨gt, 0, none⟩), .slice a n c] w fun e w' => e = .returned (.tuple #[]) ∧ ∃ F', Tap w' gt gp s (t.add l) F' ∧ Save F w w' ∧ ∀ k ∈ F', k ∈ F ∨ w.heap.size ≤ k := by
  obtain ⟨i0, hi0, hz0, hz1, hz2⟩ := info_parts infoP
  have HU0 : ∀ W, Below w.heap.size w W → _ := fun W hW => used_any W gt gp s t F (h.later hW)
  obtain ⟨v, X, bW, bR, h⟩ := h
  have HH := Lib.hid h
  have hroom := h.roomle
  have huu : t.used = usedOf t.P := by unfold Tst.used; rw [hp, List.take_length]
  rw [huu] at HU0
  have hX := h.len
  have hsm := usedOf_len t.P
  obtain ⟨u, hu⟩ : ∃ u, u = usedOf t.P := ⟨_, rfl⟩
  rw [← hu] at HU0 hfit hsm
  have hw1 : IntKind.i64.wrap ((u : Int) + 4) = ((u + 4 : Nat) : Int) := by rw [IntKind.wrap_i64] <;> omega
  have hw2 : IntKind.i64.wrap (((u + 4 : Nat) : Int) + (n : Int)) = ((u + 4 + n : Nat) : Int) := by rw [IntKind.wrap_i64] <;> omega
  obtain ⟨u4, hu4⟩ : ∃ u4, u4 = u + 4 := ⟨_, rfl⟩
  obtain ⟨E, hE⟩ : ∃ E, E = u + 4 + n := ⟨_, rfl⟩
  rw [← hE] at hw2
  rw [← hu4] at hw1 hw2
  obtain ⟨Y, hY⟩ : ∃ Y : List Nat, Y = v.ownBlock.toList := ⟨_, rfl⟩
  have hYF : ∀ k ∈ Y, k ∈ F := by
    intro k hk
    rw [hY] at hk
    simp only [Option.mem_toList] at hk
    exact h.fv k hk
  have hgtY : gt ∉ Y := by
    rw [hY]
    simp only [Option.mem_toList]
    exact h.row_ne.1
  have HU : Hid (∀ W, Below w.heap.size w W → Calls Try.prog 72 #[.pointer (some ⟨gt, 0, none⟩)] W fun e w' => e = .returned (.int .i64 (u : Int)) ∧ w'.cell? ⟨gt, 5, none⟩ = some v ∧ (∀ o, (w'.alloc o).cell? ⟨gt, 5, none⟩ = some v) ∧ Hid (Below w.heap.size w w' ∧ ∀ b, b < W.heap.size → b < w'.heap.size ∧ w'.heap[b]? = W.heap[b]?)) := by
    refine Lib.hid fun W hW => (HU0 W hW).mono ?_
    rintro e w' ⟨rfl, m, rfl⟩
    have hc : (W.drewN m).cell? ⟨gt, 5, none⟩ = some v := (h.later hW).cells.2.2.2.2.2.1
    exact ⟨rfl, hc, fun o => Lib.cell?_alloc_some _ hc, Lib.hid ⟨⟨hW.os, hW.tape, hW.output, hW.size, hW.block⟩, fun b hb => ⟨hb, rfl⟩⟩⟩
  have HC : Hid (∀ W, Below w.heap.size w W → Calls Try.prog 53 #[.slice a n c] W fun e w' => ∃ a' c', e = .returned (.slice a' n c') ∧ w'.cell? ⟨gt, 5, none⟩ = some v ∧ (∀ o, (w'.alloc o).cell? ⟨gt, 5, none⟩ = some v) ∧ Hid (Below w.heap.size w w' ∧ Rd w' a' n l ∧ n ≤ c' ∧ ∀ b o, a' = some ⟨b, o, none⟩ → w.heap.size ≤ b ∧ b < w'.heap.size)) := by
    refine Lib.hid fun W hW => (clone_at a n c l W (hr.later hW) (by omega)).mono ?_
    rintro e w' ⟨a', c', rfl, h1, h2, h3, h4⟩
    have hb := hW.trans (h4.mono hW.size)
    have hc := (h.later hb).cells.2.2.2.2.2.1
    refine ⟨a', c', rfl, hc, fun o => Lib.cell?_alloc_some _ hc, Lib.hid ⟨hb, h1, h2, fun b o e => ⟨Nat.le_trans hW.size (h3 b o e).1, (h3 b o e).2⟩⟩⟩
  have d5 := h.cells.2.2.2.2.2.1
  have HROW : Hid (∀ W, Below w.heap.size w W → W.ownsRow 0 122 2 v X.length (cP X)) := Lib.hid fun W hW => (h.later hW).row
  have HG : Hid (∀ W w7, Below w.heap.size w W → W.grownBy w7 v.ownBlock → w7.heap[gt]? = w.heap[gt]? ∧ w7.cell? ⟨gt, 5, none⟩ = some v ∧ w7.frozen? ⟨gt, 5, none⟩ = false) := by
    refine Lib.hid fun W w7 hW hg => ?_
    have hlt := lt_of_block h.obj
    have e : w7.heap[gt]? = w.heap[gt]? := (hg.block gt (Nat.lt_of_lt_of_le hlt hW.size) (fun e => h.row_ne.1 e.symm)).trans (hW.block gt hlt)
    have e2 := e.trans h.obj
    refine ⟨e, ?_, ?_⟩
    · rw [cell_of_row w7 gt _ _ 72 (0, 0) e2]; rfl
    · simp [World.frozen?, e2, tapObj]
  have hmx : X.length + 1 ≤ maxLen := by unfold maxLen; omega
  have hby : (X.length + 1) * 32 ≤ 140737488355328 := by omega
  have HN := Lib.hid (And.intro hu (And.intro hu4 (And.intro hE (And.intro hr.1 hfit))))
  clear h hroom huu hX hsm hu hu4 hE HU0 hr hfit hp hY hYF hgtY
  go_enter Try.func75, Try.ntmps75
  go_upto_region 0 with fail
  go_region_law (first
    | (go_simp; go_at_call 53; refine (HC.out _ ?_).mono ?_; (first | exact HBU.out.1 | exact (Below.refl _ _).drew); rintro e wA ⟨a', c', rfl, kA, kA2, HBA⟩; dsimp only)
    | (go_simp; go_at_call 72; refine (HU.out _ ?_).mono ?_; (first | exact HBA.out.1 | exact (Below.refl _ _).drew); rintro e wU ⟨rfl, kU, kU2, HBU⟩; dsimp only)
    | (refine step_append_lies _ (by rfl) _ _ _ (by rfl) 0 122 i0 _ 2 32 Try.underlying70 hi0 hz0 hz1 hz2 rfl (by omega) v X.length (cP X) (by rfl) (HROW.out _ (HBU.out.1.alloc HBU.out.1.size _))
        ⟨wU.heap.size, 0, none⟩ 1 1 [.slice a' n c', .int .i64 (E : Int)] (by rfl) (by rfl) (World.news_of_block (cs := #[.slice a' n c', .int .i64 (E : Int)]) (t := 122) (fr := (0, 0)) (heap_alloc_new wU _)) (by simp [Value.oneCell'])
        (by omega) hmx hby (Nat.zero_le _) _ rfl ?_; intro gg cap w7 hown1 hgrow hat hlt; obtain ⟨k1, k2, k3⟩ := HG.out _ _ (HBU.out.1.alloc HBU.out.1.size _) hgrow; have HR7 := Lib.hid (And.intro hown1 (And.intro hgrow (And.intro hat (And.intro hlt k1)))); clear hown1 hgrow hat hlt k1)
    | (refine step_append_lies _ (by rfl) _ _ _ (by rfl) 0 122 i0 _ 2 32 Try.underlying70 hi0 hz0 hz1 hz2 rfl (by omega) v X.length (cP X) (by rfl) (HROW.out _ (HBA.out.1.alloc HBA.out.1.size _))
        ⟨wA.heap.size, 0, none⟩ 1 1 [.slice a' n c', .int .i64 (E : Int)] (by rfl) (by rfl) (World.news_of_block (cs := #[.slice a' n c', .int .i64 (E : Int)]) (t := 122) (fr := (0, 0)) (heap_alloc_new wA _)) (by simp [Value.oneCell'])
        (by omega) hmx hby (Nat.zero_le _) _ rfl ?_; intro gg cap w7 hown1 hgrow hat hlt; obtain ⟨k1, k2, k3⟩ := HG.out _ _ (HBA.out.1.alloc HBA.out.1.size _) hgrow; have HR7 := Lib.hid (And.intro hown1 (And.intro hgrow (And.intro hat (And.intro hlt k1)))); clear hown1 hgrow hat hlt k1))
  all_goals
    go_wp2
    go_end0
    refine ⟨rfl, ?_⟩
    obtain ⟨hown1, hgrow, hat, hlt, k1⟩ := HR7.out
    obtain ⟨hu, hu4, hE, hln, hfit⟩ := HN.out
    first
      | exact add_end HH.out HBA.out.1 HBA.out.2.1 HBA.out.2.2.1 HBA.out.2.2.2 hown1 hgrow hat hln (by omega) (by omega)
      | (refine add_end HH.out HBU.out.1 ?_ HBA.out.2.2.1 (fun b o e => ⟨(HBA.out.2.2.2 b o e).1, (HBU.out.2 b (HBA.out.2.2.2 b o e).2).1⟩) hown1 hgrow hat hln (by omega) (by omega)
         refine ⟨HBA.out.2.1.1, HBA.out.2.1.2.1, fun h0 => ?_⟩
         obtain ⟨b, o, e, hc⟩ := HBA.out.2.1.2.2 h0
         refine ⟨b, o, e, fun j hj => ?_⟩
         rw [← hc j hj]
         simp only [World.cell?, (HBU.out.2 b (HBA.out.2.2.2 b o e).2).2])

end Go.Proofs.Ytcmbnijjkpfhlaa

/- The contract of a tape's writePiece. -/
namespace Go.Proofs.Ytcmbnijjkpfhlaa
open Go.RowKit
set_option linter.unusedSimpArgs false

/-- A piece written: power behind it, the tape, the error. -/
def Tst.write (s : Pw) (t : Tst) (l : List Nat) : Pw × Tst × Nat :=
  if s.on = false then (s, t, 11) else
  if t.room < t.used + (4 + l.length) then (s, t, 9) else
  if (s.write ((4 + l.length : Nat) : Int)).2.2 = 0 then
    if (t.pos : Int) ∈ t.nw then ((s.write ((4 + l.length : Nat) : Int)).1, t.cut, 8)
    else ((s.write ((4 + l.length : Nat) : Int)).1, { t.cut.add l with pos := t.pos + 1 }, 0)
  else if 4 < (s.write ((4 + l.length : Nat) : Int)).2.1 then ((s.write ((4 + l.length : Nat) : Int)).1, t.cut.add (l.take ((s.write ((4 + l.length : Nat) : Int)).2.1.toNat - 4)), 11)
  else ((s.write ((4 + l.length : Nat) : Int)).1, t.cut, 11)

theorem write_cases {s : Pw} (ho : s.on = true) (m : Nat) : ((s.write (m : Int)).2.2 = 0 ∧ (s.write (m : Int)).2.1 = (m : Int)) ∨ ∃ k : Nat, k ≤ m ∧ (s.write (m : Int)).2.1 = (k : Int) ∧ (s.write (m : Int)).2.2 = 11 := by
  unfold Pw.write
  rw [if_neg (by omega), if_neg (by simp [ho])]
  split
  · exact .inl ⟨rfl, rfl⟩
  · rename_i t _
    exact .inr ⟨(min (max t 0) (m : Int)).toNat, by omega, by simp only; omega, rfl⟩
  · exact .inl ⟨rfl, rfl⟩

theorem Rd.off {w w' : World} {X : List Nat} {a : Option Addr} {n : Nat} {l : List Nat} (h : Rd w a n l) (hs : Save X w w') (hX : 0 < n → ∀ b o, a = some ⟨b, o, none⟩ → b ∉ X) : Rd w' a n l := by
  by_cases hn : 0 < n
  · exact h.save hs (hX hn)
  · exact ⟨h.1, h.2.1, fun h0 => absurd h0 hn⟩

theorem Tp.setPos {w : World} {gt gp : Nat} {s : Pw} {t : Tst} {F : List Nat} {v : Value} {X : List PC} {bW bR : Nat} (h : Tp w gt gp s t F v X bW bR) (p : Nat) (hp : p ≤ t.P.length) : Tp (w.setCell ⟨gt, 6, none⟩ (.int .i64 (p : Int))) gt gp s { t with pos := p } F v X bW bR := by
  rw [setCell6 h.obj]
  have hrn := h.row_ne
  have hsn := h.set_ne
  refine ⟨put_same h.obj, (put_other hsn.2.2).trans h.pow, h.mw.kept (put_other hsn.1), h.mr.kept (put_other hsn.2.1), ?_, ?_, h.lst, h.ends, hp, h.fits, h.roomle, h.earlyle, h.ft, h.fw, h.fr, h.fv, h.fp, by rw [put_size]; exact h.fl⟩
  · refine ⟨h.row.1, h.row.2.imp id ?_⟩
    rintro ⟨g, cap, cur, hv, h0, hg, rest⟩
    exact ⟨g, cap, cur, hv, h0, (put_other (fun e => hrn.1 (by rw [hv, ← e]; rfl))).trans hg, rest⟩
  · intro q hq
    obtain ⟨h1, h2, h3⟩ := h.pcs q hq
    refine ⟨⟨h1.1, h1.2.1, fun hn => ?_⟩, h2, h3⟩
    obtain ⟨b, o, e, hc⟩ := h1.2.2 hn
    refine ⟨b, o, e, fun j hj => ?_⟩
    rw [← hc j hj]
    simp only [World.cell?, (put_other (h3 hn b o e).2.1 : (put w gt _).heap[b]? = _)]

theorem Tst.cut_pos {t : Tst} (h : t.pos ≤ t.P.length) : t.cut.pos = t.cut.P.length := by
  simp only [Tst.cut, List.length_take]
  omega

theorem wpiece_off (w : World) (gt gp : Nat) (s : Pw) (t : Tst) (F : List Nat) (h : Tap w gt gp s t F) (a : Option Addr) (n c : Nat) (ho : s.on = false) :
    Calls Try.prog 66 #[.pointer (some ⟨gt, 0, none⟩), .slice a n c] w fun e w' => e = .returned (.int .i64 11) ∧ w' = w := by
  obtain ⟨v, X, bW, bR, h⟩ := h
  have HO := Lib.hid (on_any w gp s h.pow)
  rw [ho] at HO
  have c0 := h.cells.1
  clear h
  go_enter Try.func66, Try.ntmps66
  go_wp2_with fail
  refine HO.out.mono ?_
  rintro e w1 ⟨rfl, rfl⟩
  go_wp2
  go_ret
  exact ⟨rfl, rfl⟩

theorem wpiece_end (w : World) (gt gp : Nat) (s : Pw) (t : Tst) (F : List Nat) (h : Tap w gt gp s t F) (a : Option Addr) (n c : Nat) (ho : s.on = true) (hn : n ≤ 200) (hfull : t.room < t.used + (4 + n)) :
    Calls Try.prog 66 #[.pointer (some ⟨gt, 0, none⟩), .slice a n c] w fun e w' => e = .returned (.int .i64 9) ∧ ∃ m, w' = w.drewN m := by
  have HU : Hid (∀ m, _) := Lib.hid fun m => used_any (w.drewN m) gt gp s t F (h.drewN m)
  obtain ⟨v, X, bW, bR, h⟩ := h
  have HO := Lib.hid (on_any w gp s h.pow)
  rw [ho] at HO
  have c0 := h.cells.1
  have c1 := h.cells.2.1
  have hr := h.roomle
  have hu := h.used_le
  obtain ⟨u, hu0⟩ : ∃ u, u = t.used := ⟨_, rfl⟩
  obtain ⟨r, hr0⟩ : ∃ r, r = t.room := ⟨_, rfl⟩
  rw [← hu0] at HU hfull hu
  rw [← hr0] at c1 hfull hr hu
  obtain ⟨z, hz⟩ : ∃ z, z = 4 + n := ⟨_, rfl⟩
  have hw1 : IntKind.i64.wrap (4 + (n : Int)) = (z : Int) := by rw [IntKind.wrap_i64] <;> omega
  obtain ⟨q, hq⟩ : ∃ q, q = u + z := ⟨_, rfl⟩
  have hw2 : IntKind.i64.wrap ((u : Int) + (z : Int)) = (q : Int) := by rw [IntKind.wrap_i64] <;> omega
  have hgt : r < q := by omega
  clear h hr hu hu0 hr0 hfull hz hq ho
  go_enter Try.func66, Try.ntmps66
  go_wp2_with fail
  refine HO.out.mono ?_
  rintro e w1 ⟨rfl, rfl⟩
  go_upto_region 4 with fail
  go_quiet ((go_at_call 72; exact Calls.quiet_of (HU.out _)))
  go_wp2
  go_ret
  exact ⟨rfl, _, rfl⟩

/-- What comes behind a piece that has room: the write of power, and the cut. -/
theorem wpiece_room (w : World) (gt gp : Nat) (s : Pw) (t : Tst) (F : List Nat) (h : Tap w gt gp s t F) (a : Option Addr) (n c : Nat) (l : List Nat) (hrd : Rd w a n l) (hoff : 0 < n → ∀ b o, a = some ⟨b, o, none⟩ → b ∉ gp :: F) (hnc : n ≤ c) (ho : s.on = true) (hok : s.ok) (hn : n ≤ 200) (hfit : t.used + (4 + n) ≤ t.room) :
    Calls Try.prog 66 #[.pointer (some ⟨gt, 0, none⟩), .slice a n c] w fun e w' => e = .returned (.int .i64 ((Tst.write s t l).2.2 : Int)) ∧ ∃ F', Tap w' gt gp (Tst.write s t l).1 (Tst.write s t l).2.1 F' ∧ Save (gp :: F) w w' ∧ ∀ k ∈ F', k ∈ F ∨ w.heap.size ≤ k := by
  have hln := hrd.1
  have hW0 : Tst.write s t l = if (s.write ((4 + n : Nat) : Int)).2.2 = 0 then
      if (t.pos : Int) ∈ t.nw then ((s.write ((4 + n : Nat) : Int)).1, t.cut, 8)
      else ((s.write ((4 + n : Nat) : Int)).1, { t.cut.add l with pos := t.pos + 1 }, 0)
    else if 4 < (s.write ((4 + n : Nat) : Int)).2.1 then ((s.write ((4 + n : Nat) : Int)).1, t.cut.add (l.take ((s.write ((4 + n : Nat) : Int)).2.1.toNat - 4)), 11)
    else ((s.write ((4 + n : Nat) : Int)).1, t.cut, 11) := by
    unfold Tst.write
    rw [hln, if_neg (by simp [ho]), if_neg (by omega)]
  have HU : Hid (∀ m, _) := Lib.hid fun m => used_any (w.drewN m) gt gp s t F (h.drewN m)
  have HT := Lib.hid h
  obtain ⟨v, X, bW, bR, h⟩ := h
  have HO := Lib.hid (on_any w gp s h.pow)
  rw [ho] at HO
  have c0 := h.cells.1
  have c1 := h.cells.2.1
  have hr := h.roomle
  have hu := h.used_le
  have hpl := h.pos_le
  have hps := h.pos_small
  have hgpF := h.fp
  have HFT := Lib.hid h.ft
  obtain ⟨u, hu0⟩ : ∃ u, u = t.used := ⟨_, rfl⟩
  obtain ⟨r, hr0⟩ : ∃ r, r = t.room := ⟨_, rfl⟩
  rw [← hu0] at HU hfit hu
  rw [← hr0] at c1 hfit hr hu
  obtain ⟨z, hz⟩ : ∃ z, z = 4 + n := ⟨_, rfl⟩
  have hw1 : IntKind.i64.wrap (4 + (n : Int)) = (z : Int) := by rw [IntKind.wrap_i64] <;> omega
  obtain ⟨q, hq⟩ : ∃ q, q = u + z := ⟨_, rfl⟩
  have hw2 : IntKind.i64.wrap ((u : Int) + (z : Int)) = (q : Int) := by rw [IntKind.wrap_i64] <;> omega
  have hd : decide (r < q) = false := by simp; omega
  have hle : q ≤ r := by omega
  rw [← hz] at hW0
  have HWR : Hid (∀ W, Pow W gp s → _) := Lib.hid fun W hW => write_any W gp s (z : Int) hW hok
  have hwc := write_cases ho z
  obtain ⟨s', hs'⟩ : ∃ s', s' = (s.write (z : Int)).1 := ⟨_, rfl⟩
  rw [← hs'] at HWR hW0
  have HCUT : Hid (∀ m, Calls Try.prog 74 #[.pointer (some ⟨gt, 0, none⟩)] (put (w.drewN m) gp (powObj s')) fun e w' => e = .returned (.tuple #[]) ∧ Hid (Tap w' gt gp s' t.cut F ∧ Save (gp :: F) w w')) := by
    refine Lib.hid fun m => ?_
    have hT2 : Tap (put (w.drewN m) gp (powObj s')) gt gp s' t F := by
      obtain ⟨v, X, bW, bR, h⟩ := HT.out.drewN m
      exact ⟨v, X, bW, bR, h.setPow s'⟩
    refine (cut_any _ gt gp s' t F hT2).mono ?_
    rintro e w' ⟨rfl, h1, h2⟩
    refine ⟨rfl, Lib.hid ⟨h1, ?_⟩⟩
    exact (((Save.refl (gp :: F) w).drewN m).put (by simp) _).trans (h2.mono (fun k hk => by simp [hk]))
  have hcp := Tst.cut_pos hpl
  have hcu : usedOf t.cut.P = u := by rw [hu0]; rfl
  have HN := Lib.hid (And.intro hu0 (And.intro hr0 (And.intro hz (And.intro hq (And.intro hfit (And.intro hcp (And.intro hcu (And.intro hgpF hpl))))))))
  have HRD := Lib.hid (And.intro hrd hoff)
  clear h hr hu hu0 hr0 hq ho hok hcp hcu hgpF hfit hoff hrd hs'
  rcases hwc with ⟨hE, hM⟩ | ⟨k, hk, hK, hE⟩
  · rw [if_pos hE] at hW0
    rw [hE, hM] at HWR
    obtain ⟨p, hp⟩ : ∃ p, p = t.pos := ⟨_, rfl⟩
    have hwf : (Lit.int .i64 (p : Int)).wf = true := WalkArith.wf_i64 (by omega)
    rw [← hp] at hW0
    have HHAS : Hid (∀ W b, SetM W b t.nw → _) := Lib.hid fun W b hb => has_any W b t.nw (p : Int) hwf hb
    have HP := Lib.hid hp
    by_cases hin : (p : Int) ∈ t.nw
    · rw [if_pos hin] at hW0
      rw [decide_eq_true hin] at HHAS
      rw [hW0]
      clear hW0 hM hE hln hz hn hps hpl hnc hp hwf hin
      go_enter Try.func66, Try.ntmps66
      go_wp2_with fail
      refine HO.out.mono ?_
      rintro e w1 ⟨rfl, rfl⟩
      go_upto_region 4 with fail
      go_quiet ((go_at_call 72; exact Calls.quiet_of (HU.out _)))
      go_wp2_with fail
      refine (HWR.out _ ?_).mono ?_
      · exact (HT.out.drewN nq).elim fun _ h => h.elim fun _ h => h.elim fun _ h => h.elim fun _ h => h.pow
      rintro e w2 ⟨rfl, rfl⟩
      go_wp2_with fail
      refine (HCUT.out nq).mono ?_
      rintro e w3 ⟨rfl, H3⟩
      obtain ⟨v3, X3, b3, r3, h3⟩ := H3.out.1
      obtain ⟨_, _, _, e3, _, _, e6⟩ := h3.cells
      have e6' : w3.cell? ⟨gt, 6, none⟩ = some (.int .i64 (p : Int)) := by rw [HP.out]; exact e6
      have H33 := Lib.hid h3
      clear e6 h3 c0 c1
      go_upto_region 12 with fail
      go_region_held3 (fun W => W.cell? ⟨gt, 3, none⟩ = some (.map (some b3)) ∧ W.cell? ⟨gt, 6, none⟩ = some (.int .i64 (p : Int)))
        (first | exact ⟨e3, e6'⟩ | exact ⟨Lib.cell?_alloc_some _ e3, Lib.cell?_alloc_some _ e6'⟩ | go_keep)
        (first
          | (go_at_call 67; refine (HHAS.out _ _ ?_).mono ?_; exact H33.out.mw; rintro e w4 ⟨rfl, rfl⟩))
      go_wp2
      go_ret
      refine ⟨rfl, F, H3.out.1.later ?_, H3.out.2.trans (Save.of_below ?_ _), fun k hk => .inl hk⟩
      · exact (Below.refl _ _).drew.alloc (Nat.le_refl _) _
      · exact (Below.refl _ _).drew.alloc (Nat.le_refl _) _
    · rw [if_neg hin] at hW0
      rw [decide_eq_false hin] at HHAS
      rw [hW0]
      have HADD : Hid (∀ W, Tap W gt gp s' t.cut F → Save (gp :: F) w W → Calls Try.prog 75 #[.pointer (some ⟨gt, 0, none⟩), .slice a n c] W fun e w' => e = .returned (.tuple #[]) ∧ ∃ v X bW bR, w'.cell? ⟨gt, 6, none⟩ = some (.int .i64 (p : Int)) ∧ w'.frozen? ⟨gt, 6, none⟩ = false ∧ Hid (∃ F', Tp w' gt gp s' (t.cut.add l) F' v X bW bR ∧ Save (gp :: F) w w' ∧ ∀ k ∈ F', k ∈ F ∨ w.heap.size ≤ k)) := by
        refine Lib.hid fun W hT hS => ?_
        obtain ⟨hu0, hr0, hz, hq, hfit, hcp, hcu, hgpF, hpl⟩ := HN.out
        have hroom : t.cut.room = r := by rw [hr0]; rfl
        refine (add_any W gt gp s' t.cut F hT hcp a n c l (HRD.out.1.off hS HRD.out.2) (by rw [hcu, hroom]; omega) (by omega)).mono ?_
        rintro e w' ⟨rfl, F', ⟨v, X, bW, bR, h1⟩, h2, h3⟩
        refine ⟨rfl, v, X, bW, bR, ?_, h1.soft 6, Lib.hid ⟨F', h1, hS.trans (h2.mono (fun k hk => by simp [hk])), fun k hk => (h3 k hk).imp id (fun h => Nat.le_trans hS.size h)⟩⟩
        rw [HP.out]
        exact h1.cells.2.2.2.2.2.2
      have hw5 : IntKind.i64.wrap ((p : Int) + 1) = ((p + 1 : Nat) : Int) := by rw [IntKind.wrap_i64] <;> omega
      obtain ⟨p1, hp1⟩ : ∃ p1, p1 = p + 1 := ⟨_, rfl⟩
      rw [← hp1] at hw5 ⊢
      have HP1 := Lib.hid hp1
      clear hW0 hM hE hln hz hn hps hpl hnc hp hwf hin hp1
      go_enter Try.func66, Try.ntmps66
      go_wp2_with fail
      refine HO.out.mono ?_
      rintro e w1 ⟨rfl, rfl⟩
      go_upto_region 4 with fail
      go_quiet ((go_at_call 72; exact Calls.quiet_of (HU.out _)))
      go_wp2_with fail
      refine (HWR.out _ ?_).mono ?_
      · exact (HT.out.drewN nq).elim fun _ h => h.elim fun _ h => h.elim fun _ h => h.elim fun _ h => h.pow
      rintro e w2 ⟨rfl, rfl⟩
      go_wp2_with fail
      refine (HCUT.out nq).mono ?_
      rintro e w3 ⟨rfl, H3⟩
      obtain ⟨v3, X3, b3, r3, h3⟩ := H3.out.1
      obtain ⟨_, _, _, e3, _, _, e6⟩ := h3.cells
      have e6' : w3.cell? ⟨gt, 6, none⟩ = some (.int .i64 (p : Int)) := by rw [HP.out]; exact e6
      have H33 := Lib.hid h3
      clear e6 h3 c0 c1
      go_upto_region 12 with fail
      go_region_held3 (fun W => W.cell? ⟨gt, 3, none⟩ = some (.map (some b3)) ∧ W.cell? ⟨gt, 6, none⟩ = some (.int .i64 (p : Int)))
        (first | exact ⟨e3, e6'⟩ | exact ⟨Lib.cell?_alloc_some _ e3, Lib.cell?_alloc_some _ e6'⟩ | go_keep)
        (first
          | (go_at_call 67; refine (HHAS.out _ _ ?_).mono ?_; exact H33.out.mw; rintro e w4 ⟨rfl, rfl⟩))
      go_wp2_with fail
      refine (HADD.out _ ?_ ?_).mono ?_
      · exact H3.out.1.later ((Below.refl _ _).drew.alloc (Nat.le_refl _) _)
      · exact H3.out.2.trans (Save.of_below ((Below.refl _ _).drew.alloc (Nat.le_refl _) _) _)
      rintro e w5 ⟨rfl, v5, X5, b5, r5, k6, f6, H5⟩
      clear e3 e6'
      go_wp2
      go_ret
      refine ⟨rfl, ?_⟩
      obtain ⟨F', h1, h2, h3⟩ := H5.out
      refine ⟨F', ⟨v5, X5, b5, r5, ?_⟩, h2.trans ?_, h3⟩
      · exact h1.setPos p1 (by
          have h6 := HN.out.2.2.2.2.2.1
          have h7 : t.cut.pos = t.pos := rfl
          simp only [Tst.add, List.length_append, List.length_singleton]
          rw [HP1.out, HP.out]
          omega)
      · exact (Save.set w5 gt 6 _).mono (fun k hk => by simp only [List.mem_singleton] at hk; rw [hk]; simp [HFT.out])
  · rw [if_neg (by rw [hE]; decide), hK] at hW0
    rw [hE, hK] at HWR
    by_cases hk4 : 4 < k
    · rw [if_pos (by omega)] at hW0
      rw [hW0]
      obtain ⟨j, hj⟩ : ∃ j, j = k - 4 := ⟨_, rfl⟩
      have hw3 : IntKind.i64.wrap ((k : Int) - 4) = (j : Int) := by rw [IntKind.wrap_i64] <;> omega
      have hsl := slice_to a n c j .i64 (by omega)
      have e0 : ((k : Int).toNat - 4) = j := by omega
      rw [e0]
      have hd4 : decide ((4 : Int) < (k : Int)) = true := by simp; omega
      have hk44 : 4 < k := hk4
      have HADD : Hid (∀ W, Tap W gt gp s' t.cut F → Save (gp :: F) w W → Calls Try.prog 75 #[.pointer (some ⟨gt, 0, none⟩), .slice a j c] W fun e w' => e = .returned (.tuple #[]) ∧ Hid (∃ F', Tap w' gt gp s' (t.cut.add (l.take j)) F' ∧ Save (gp :: F) w w' ∧ ∀ k ∈ F', k ∈ F ∨ w.heap.size ≤ k)) := by
        have hj2 : j ≤ n := by omega
        refine Lib.hid fun W hT hS => ?_
        obtain ⟨hu0, hr0, hz, hq, hfit, hcp, hcu, hgpF, hpl⟩ := HN.out
        have hroom : t.cut.room = r := by rw [hr0]; rfl
        refine (add_any W gt gp s' t.cut F hT hcp a j c (l.take j) ((HRD.out.1.off hS HRD.out.2).first hj2) (by rw [hcu, hroom]; omega) (by omega)).mono ?_
        rintro e w' ⟨rfl, F', h1, h2, h3⟩
        refine ⟨rfl, Lib.hid ⟨F', h1, hS.trans (h2.mono (fun k hk => by simp [hk])), fun k hk => (h3 k hk).imp id (fun h => Nat.le_trans hS.size h)⟩⟩
      clear hW0 hk hK hE hln hz hn hps hpl hj e0 hk4 hnc
      go_enter Try.func66, Try.ntmps66
      go_wp2_with fail
      refine HO.out.mono ?_
      rintro e w1 ⟨rfl, rfl⟩
      go_upto_region 4 with fail
      go_quiet ((go_at_call 72; exact Calls.quiet_of (HU.out _)))
      go_wp2_with fail
      refine (HWR.out _ ?_).mono ?_
      · exact (HT.out.drewN nq).elim fun _ h => h.elim fun _ h => h.elim fun _ h => h.elim fun _ h => h.pow
      rintro e w2 ⟨rfl, rfl⟩
      go_wp2_with fail
      refine (HCUT.out nq).mono ?_
      rintro e w3 ⟨rfl, H3⟩
      go_wp2_with fail
      refine (HADD.out _ H3.out.1 H3.out.2).mono ?_
      rintro e w4 ⟨rfl, H4⟩
      go_wp2
      go_ret
      exact ⟨rfl, H4.out⟩
    · rw [if_neg (by omega)] at hW0
      rw [hW0]
      have hk44 : k ≤ 4 := by omega
      clear hW0 hk hK hE hln hz hn hps hpl hk4 hnc
      go_enter Try.func66, Try.ntmps66
      go_wp2_with fail
      refine HO.out.mono ?_
      rintro e w1 ⟨rfl, rfl⟩
      go_upto_region 4 with fail
      go_quiet ((go_at_call 72; exact Calls.quiet_of (HU.out _)))
      go_wp2_with fail
      refine (HWR.out _ ?_).mono ?_
      · exact (HT.out.drewN nq).elim fun _ h => h.elim fun _ h => h.elim fun _ h => h.elim fun _ h => h.pow
      rintro e w2 ⟨rfl, rfl⟩
      go_wp2_with fail
      refine (HCUT.out nq).mono ?_
      rintro e w3 ⟨rfl, H3⟩
      go_wp2
      go_ret
      exact ⟨rfl, F, H3.out.1, H3.out.2, fun k hk => .inl hk⟩

end Go.Proofs.Ytcmbnijjkpfhlaa

/- The contracts of a tape's Put, Mark, Get, Seek, Skip. -/
namespace Go.Proofs.Ytcmbnijjkpfhlaa
open Go.RowKit
set_option linter.unusedSimpArgs false

theorem wpiece_any (w : World) (gt gp : Nat) (s : Pw) (t : Tst) (F : List Nat) (h : Tap w gt gp s t F) (a : Option Addr) (n c : Nat) (l : List Nat) (hrd : Rd w a n l) (hoff : 0 < n → ∀ b o, a = some ⟨b, o, none⟩ → b ∉ gp :: F) (hnc : n ≤ c) (hok : s.ok) (hn : n ≤ 200) :
    Calls Try.prog 66 #[.pointer (some ⟨gt, 0, none⟩), .slice a n c] w fun e w' => e = .returned (.int .i64 ((Tst.write s t l).2.2 : Int)) ∧ ∃ F', Tap w' gt gp (Tst.write s t l).1 (Tst.write s t l).2.1 F' ∧ Save (gp :: F) w w' ∧ ∀ k ∈ F', k ∈ F ∨ w.heap.size ≤ k := by
  have hln := hrd.1
  by_cases ho : s.on = true
  · by_cases hf : t.room < t.used + (4 + n)
    · have e : Tst.write s t l = (s, t, 9) := by unfold Tst.write; rw [if_neg (by simp [ho]), hln, if_pos hf]
      rw [e]
      refine (wpiece_end w gt gp s t F h a n c ho hn hf).mono ?_
      rintro e w' ⟨rfl, m, rfl⟩
      exact ⟨rfl, F, h.drewN m, (Save.refl _ _).drewN m, fun k hk => .inl hk⟩
    · exact wpiece_room w gt gp s t F h a n c l hrd hoff hnc ho hok hn (by omega)
  · have e : Tst.write s t l = (s, t, 11) := by unfold Tst.write; rw [if_pos (by simpa using ho)]
    rw [e]
    refine (wpiece_off w gt gp s t F h a n c (by simpa using ho)).mono ?_
    rintro e w' ⟨rfl, rfl⟩
    exact ⟨rfl, F, h, Save.refl _ _, fun k hk => .inl hk⟩

/-- Put, whatever the bytes. -/
def Tst.put (s : Pw) (t : Tst) (l : List Nat) : Pw × Tst × Nat := if l.length = 0 then (s, t, 1) else if 200 < l.length then (s, t, 5) else Tst.write s t l

theorem tput_any (w : World) (gt gp : Nat) (s : Pw) (t : Tst) (F : List Nat) (h : Tap w gt gp s t F) (a : Option Addr) (n c : Nat) (l : List Nat) (hrd : Rd w a n l) (hoff : 0 < n → ∀ b o, a = some ⟨b, o, none⟩ → b ∉ gp :: F) (hnc : n ≤ c) (hok : s.ok) :
    Calls Try.prog 42 #[.pointer (some ⟨gt, 0, none⟩), .slice a n c] w fun e w' => e = .returned (.int .i64 ((Tst.put s t l).2.2 : Int)) ∧ ∃ F', Tap w' gt gp (Tst.put s t l).1 (Tst.put s t l).2.1 F' ∧ Save (gp :: F) w w' ∧ ∀ k ∈ F', k ∈ F ∨ w.heap.size ≤ k := by
  have hln := hrd.1
  have HH := Lib.hid h
  by_cases h0 : n = 0
  · have e : Tst.put s t l = (s, t, 1) := by unfold Tst.put; rw [if_pos (by omega)]
    rw [e]
    subst h0
    clear h hrd hoff hnc hok hln e
    go_enter Try.func42, Try.ntmps42
    go_wp2
    go_ret
    exact ⟨rfl, F, HH.out, Save.refl _ _, fun k hk => .inl hk⟩
  · have hne : ((n : Int) == 0) = false := by simp; omega
    by_cases h2 : 200 < n
    · have e : Tst.put s t l = (s, t, 5) := by unfold Tst.put; rw [if_neg (by omega), if_pos (by omega)]
      rw [e]
      clear h hrd hoff hnc hok hln e h0
      go_enter Try.func42, Try.ntmps42
      go_wp2
      go_ret
      exact ⟨rfl, F, HH.out, Save.refl _ _, fun k hk => .inl hk⟩
    · have e : Tst.put s t l = Tst.write s t l := by unfold Tst.put; rw [if_neg (by omega), if_neg (by omega)]
      have hle : n ≤ 200 := by omega
      have HW := Lib.hid (wpiece_any w gt gp s t F h a n c l hrd hoff hnc hok hle)
      rw [e]
      clear h hrd hoff hnc hok hln e h0 h2 HH
      go_enter Try.func42, Try.ntmps42
      go_wp2_with fail
      refine HW.out.mono ?_
      rintro e w1 ⟨rfl, H1⟩
      have H11 := Lib.hid H1
      clear H1 HW
      go_wp2
      go_ret
      exact ⟨rfl, H11.out⟩

theorem mark_any (w : World) (gt gp : Nat) (s : Pw) (t : Tst) (F : List Nat) (h : Tap w gt gp s t F) (hok : s.ok) :
    Calls Try.prog 43 #[.pointer (some ⟨gt, 0, none⟩)] w fun e w' => e = .returned (.int .i64 ((Tst.write s t []).2.2 : Int)) ∧ ∃ F', Tap w' gt gp (Tst.write s t []).1 (Tst.write s t []).2.1 F' ∧ Save (gp :: F) w w' ∧ ∀ k ∈ F', k ∈ F ∨ w.heap.size ≤ k := by
  have HW := Lib.hid (wpiece_any w gt gp s t F h none 0 0 [] ⟨rfl, by simp, by simp⟩ (by simp) (by omega) hok (by omega))
  clear h hok
  go_enter Try.func43, Try.ntmps43
  go_wp2_with fail
  refine HW.out.mono ?_
  rintro e w1 ⟨rfl, H1⟩
  have H11 := Lib.hid H1
  clear H1 HW
  go_wp2
  go_ret
  exact ⟨rfl, H11.out⟩

theorem put_nil (w : World) (a : Option Addr) (n c : Nat) : Calls Try.prog 42 #[.pointer none, .slice a n c] w fun e w' => e = .returned (.int .i64 1) ∧ w' = w := by
  go_enter Try.func42, Try.ntmps42
  go_wp2
  go_ret
  exact ⟨rfl, rfl⟩

theorem mark_nil (w : World) : Calls Try.prog 43 #[.pointer none] w fun e w' => e = .returned (.int .i64 1) ∧ w' = w := by
  go_enter Try.func43, Try.ntmps43
  go_wp2
  go_ret
  exact ⟨rfl, rfl⟩

theorem get_nil (w : World) : Calls Try.prog 44 #[.pointer none] w fun e w' => e = .returned (.tuple #[.slice none 0 0, .int .i64 1]) ∧ w' = w := by
  go_enter Try.func44, Try.ntmps44
  go_wp2
  go_ret2
  exact ⟨rfl, rfl⟩

theorem seek_nil (w : World) (z : Int) : Calls Try.prog 41 #[.pointer none, .int .i64 z] w fun e w' => e = .returned (.int .i64 1) ∧ w' = w := by
  go_enter Try.func41, Try.ntmps41
  go_wp2
  go_ret
  exact ⟨rfl, rfl⟩

theorem skip_nil (w : World) (z : Int) : Calls Try.prog 46 #[.pointer none, .int .i64 z] w fun e w' => e = .returned (.int .i64 1) ∧ w' = w := by
  go_enter Try.func46, Try.ntmps46
  go_wp2
  go_ret
  exact ⟨rfl, rfl⟩

/-- Seek, whatever the place. -/
def Tst.seek (s : Pw) (t : Tst) (z : Int) : Tst × Nat := if z < 0 ∨ (t.P.length : Int) < z then (t, 1) else if s.on = false then (t, 11) else ({ t with pos := z.toNat }, 0)

theorem seek_any (w : World) (gt gp : Nat) (s : Pw) (t : Tst) (F : List Nat) (h : Tap w gt gp s t F) (z : Int) :
    Calls Try.prog 41 #[.pointer (some ⟨gt, 0, none⟩), .int .i64 z] w fun e w' => e = .returned (.int .i64 ((Tst.seek s t z).2 : Int)) ∧ Tap w' gt gp s (Tst.seek s t z).1 F ∧ Save F w w' := by
  have HT := Lib.hid h
  obtain ⟨v, X, bW, bR, h⟩ := h
  have HH := Lib.hid h
  have HO := Lib.hid (on_any w gp s h.pow)
  obtain ⟨c0, _, _, _, _, c5, c6⟩ := h.cells
  have f6 := h.soft 6
  have hps := h.pos_small
  obtain ⟨a, c, rfl, _⟩ := h.shape
  obtain ⟨n, hn⟩ : ∃ n, n = t.P.length := ⟨_, rfl⟩
  rw [← hn] at c5 hps
  by_cases h0 : z < 0
  · have e : Tst.seek s t z = (t, 1) := by unfold Tst.seek; rw [if_pos (.inl h0)]
    rw [e]
    clear h e hn HH HO
    go_enter Try.func41, Try.ntmps41
    go_wp2
    go_ret
    exact ⟨rfl, HT.out, Save.refl _ _⟩
  · have h0' : 0 ≤ z := by omega
    by_cases h1 : (n : Int) < z
    · have e : Tst.seek s t z = (t, 1) := by unfold Tst.seek; rw [if_pos (.inr (by rw [← hn]; exact h1))]
      rw [e]
      clear h e hn HH HO h0
      go_enter Try.func41, Try.ntmps41
      go_wp2
      go_ret
      exact ⟨rfl, HT.out, Save.refl _ _⟩
    · obtain ⟨j, rfl⟩ : ∃ j : Nat, z = (j : Int) := ⟨z.toNat, by omega⟩
      have hj : j ≤ n := by omega
      by_cases ho : s.on = true
      · have e : Tst.seek s t (j : Int) = ({ t with pos := j }, 0) := by unfold Tst.seek; rw [if_neg (by rw [← hn]; omega), if_neg (by simp [ho])]; simp
        rw [e]
        rw [ho] at HO
        have HJ := Lib.hid (show j ≤ t.P.length by omega)
        clear h e hn h0 h1 h0' ho
        go_enter Try.func41, Try.ntmps41
        go_wp2_with fail
        refine HO.out.mono ?_
        rintro e w1 ⟨rfl, rfl⟩
        go_wp2
        go_ret
        exact ⟨rfl, ⟨_, X, bW, bR, HH.out.setPos j HJ.out⟩, (Save.set w1 gt 6 _).mono (fun k hk => by simp only [List.mem_singleton] at hk; rw [hk]; exact HH.out.ft)⟩
      · have e : Tst.seek s t (j : Int) = (t, 11) := by unfold Tst.seek; rw [if_neg (by rw [← hn]; omega), if_pos (by simpa using ho)]
        rw [e]
        have ho' : s.on = false := by simpa using ho
        rw [ho'] at HO
        clear h e hn h0 h1 h0' ho ho' HH
        go_enter Try.func41, Try.ntmps41
        go_wp2_with fail
        refine HO.out.mono ?_
        rintro e w1 ⟨rfl, rfl⟩
        go_wp2
        go_ret
        exact ⟨rfl, HT.out, Save.refl _ _⟩

end Go.Proofs.Ytcmbnijjkpfhlaa
