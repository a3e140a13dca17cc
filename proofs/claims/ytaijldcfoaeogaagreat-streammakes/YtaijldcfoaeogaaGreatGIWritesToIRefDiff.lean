/- Rows of writes of the call's own: append. -/
import Derived.Test.YtaijldcfoaeogaaGreatGILikeToReady
import Derived.Test.YtaijldcfoaeogaaGreatGEInToEInAny
import Derived.Laws.OwnMore
import Derived.Laws.StructEq
import Derived.BigQuiet
import Derived.Test.YtaijldcfoaeogaaGreatGOwnVarToIBlk
import Derived.Deep.DeepCutAuto
import Derived.Test.YtaijldcfoaeogaaGreatGIDelToIDiff
import Derived.Test.YtaijldcfoaeogaaGreatGIEqToISame
import Derived.StillTailTactics
namespace Go.Proofs.YtaijldcfoaeogaaGreat
open Go.RowKit
set_option maxRecDepth 100000
set_option linter.unusedSimpArgs false

/-- The cells of writes. -/
def cW (L : List Wr) : List Value := L.flatMap fun r => [.int .i64 r.i, .bool r.clr, .slice r.a r.m r.c]

theorem cW_append (A B : List Wr) : cW (A ++ B) = cW A ++ cW B := by simp [cW]

theorem cW_length (L : List Wr) : (cW L).length = L.length * 3 := by
  induction L with
  | nil => rfl
  | cons r L ih =>
    have e : cW (r :: L) = [.int .i64 r.i, .bool r.clr, .slice r.a r.m r.c] ++ cW L := by simp [cW]
    rw [e, List.length_append, ih]
    simp
    omega

theorem cW_one (L : List Wr) : ∀ u ∈ cW L, u.oneCell' = true := by
  intro u hu
  simp only [cW, List.mem_flatMap] at hu
  obtain ⟨x, _, hx⟩ := hu
  simp only [List.mem_cons, List.not_mem_nil, or_false] at hx
  rcases hx with rfl | rfl | rfl <;> rfl

theorem cW_get (L : List Wr) : ∀ (j : Nat), j < L.length → (cW L)[j * 3]? = some (.int .i64 (L.getD j default).i) ∧ (cW L)[j * 3 + 1]? = some (.bool (L.getD j default).clr) ∧ (cW L)[j * 3 + 2]? = some (.slice (L.getD j default).a (L.getD j default).m (L.getD j default).c) := by
  induction L with
  | nil => intro j h; simp at h
  | cons r L ih =>
    intro j hj
    have e : cW (r :: L) = [.int .i64 r.i, .bool r.clr, .slice r.a r.m r.c] ++ cW L := by simp [cW]
    rw [e]
    cases j with
    | zero => simp
    | succ j =>
      have := ih j (by simpa using hj)
      have g : ∀ t, ([.int .i64 r.i, .bool r.clr, .slice r.a r.m r.c] ++ cW L)[(j + 1) * 3 + t]? = (cW L)[j * 3 + t]? := fun t => by
        rw [List.getElem?_append_right (by simp; omega)]
        congr 1
        simp
        omega
      have g0 := g 0
      simp only [Nat.add_zero] at g0
      rw [g0, g 1, g 2]
      simpa using this

/-- The other way: each cell of the row. -/
theorem RdW.news {w : World} {b o n : Nat} {L : List Wr} (h : RdW w (some ⟨b, o, none⟩) n L) : ∀ j u, (cW L)[j]? = some u → w.cell? ((⟨b, o, none⟩ : Addr).add j) = some u := by
  intro j u hu
  have hj : j < L.length * 3 := by
    rw [← cW_length]
    exact (List.getElem?_eq_some_iff.1 hu).1
  have hn : 0 < n := by have := h.len; omega
  obtain ⟨b', o', he, hc⟩ := h.cells hn
  injection he with he
  injection he with e1 e2
  subst e1
  subst e2
  have hd : j / 3 < L.length := by omega
  obtain ⟨c0, c1, c2⟩ := hc (j / 3) (by rw [← h.len]; exact hd)
  obtain ⟨d0, d1, d2⟩ := cW_get L (j / 3) hd
  rw [add_plain]
  have hm : j = j / 3 * 3 + j % 3 := by omega
  have h3 : j % 3 < 3 := Nat.mod_lt _ (by omega)
  generalize j / 3 = q at *
  generalize j % 3 = t at *
  subst hm
  rcases (show t = 0 ∨ t = 1 ∨ t = 2 by omega) with rfl | rfl | rfl
  · rw [Nat.add_zero] at hu ⊢
    rw [c0, ← hu, d0]
  · rw [← Nat.add_assoc, c1, ← hu, d1]
  · rw [← Nat.add_assoc, c2, ← hu, d2]

def OwnW (w : World) (base : Nat) (v : Value) (L : List Wr) : Prop := w.ownsRow base 62 3 v L.length (cW L)

/-- What each write's bytes read as. -/
def EachW (w : World) (L : List Wr) : Prop := ∀ r ∈ L, (Lit.int .i64 r.i).wf = true ∧ r.m ≤ r.c ∧ Rd w r.a r.m r.x

theorem EachW.later {w w' : World} {L : List Wr} (h : EachW w L) (hb : Below w.heap.size w w') : EachW w' L := fun r hr => ⟨(h r hr).1, (h r hr).2.1, (h r hr).2.2.later hb⟩

theorem OwnW.rd {w : World} {base : Nat} {v : Value} {L : List Wr} (h : OwnW w base v L) (he : EachW w L) : ∃ a c, v = .slice a L.length c ∧ RdW w a L.length L := by
  have h0 := h
  rcases h.2 with ⟨rfl, h1⟩ | ⟨g, cap, cur, rfl, _⟩
  · have : L = [] := List.eq_nil_of_length_eq_zero h1
    subst this
    exact ⟨none, 0, rfl, rfl, he, by simp⟩
  · refine ⟨_, _, rfl, rfl, he, fun _ => ⟨g, 0, rfl, fun j hj => ?_⟩⟩
    have hc := World.ownsRow.cells h0 (g := g) rfl
    obtain ⟨d0, d1, d2⟩ := cW_get L j hj
    have a0 := hc _ _ d0
    have a1 := hc _ _ d1
    have a2 := hc _ _ d2
    rw [add_plain] at a0 a1 a2
    simp only [Nat.add_assoc] at a0 a1 a2 ⊢
    exact ⟨a0, a1, a2⟩

theorem info_wr : (Tryz.prog.info? 62).map (fun i => (i.zero, i.size, i.bytes)) = some (some (.agg #[.int .i64 0, .bool false, .slice none 0 0]), 3, 40) := by kernel_rfl

theorem run_append_w (w : World) (base : Nat) (v : Value) (L0 : List Wr) (ho : OwnW w base v L0) (hbase : base ≤ w.heap.size) (A : Option Addr) (n c : Nat) (L : List Wr) (hr : RdW w A n L) (hn : L0.length + n ≤ 3000) (ty : TypeId) :
    ∃ v' w', (Builtin.append_ #[22, 22] ty #[v, .slice A n c]).run Tryz.prog w = .ok v' w' ∧ OwnW w' base v' (L0 ++ L) ∧ Below base w w' := by
  obtain ⟨i0, hi0, hz0, hz1, hz2⟩ := info_parts info_wr
  rcases A with _ | ad
  · have h0 : n = 0 := by
      rcases Nat.eq_zero_or_pos n with h | h
      · exact h
      · obtain ⟨b, o, h, _⟩ := hr.cells h; cases h
    subst h0
    have : L = [] := List.eq_nil_of_length_eq_zero hr.len
    subst this
    refine ⟨v, w, ?_, by simpa using ho, Below.refl _ _⟩
    rcases ho.2 with ⟨rfl, _⟩ | ⟨g, cap, cur, rfl, _, _, hnc, _⟩
    · simp [Builtin.append_, run_underlying Tryz.underlying22, sizeOf, typeInfo, hi0, Builtin.lenOf, Builtin.firstCells]
    · simp [Builtin.append_, run_underlying Tryz.underlying22, sizeOf, typeInfo, hi0, Builtin.lenOf, Builtin.firstCells, hnc, storeCells]
  · have hnews : ∀ j u, (cW L)[j]? = some u → w.cell? (ad.add j) = some u := by
      rcases Nat.eq_zero_or_pos n with h | h
      · have : L = [] := List.eq_nil_of_length_eq_zero (by rw [hr.len]; exact h)
        subst this
        intro j u hu
        simp [cW] at hu
      · obtain ⟨b, o, e, _⟩ := hr.cells h
        injection e with e
        subst e
        exact hr.news
    obtain ⟨v', w', hrun, h1, h2, h3, h4⟩ := run_append_own_at (P := Tryz.prog) w base 22 ty 62 i0 _ 3 40 Tryz.underlying22 hi0 hz0 hz1 hz2 rfl (by omega) v L0.length (cW L0) ho ad n c (cW L) (by rw [cW_length, hr.len]) hnews (cW_one L) (by unfold maxLen; omega) (by omega) hbase
    refine ⟨v', w', hrun, ?_, (Below.refl _ _).grown h2 hbase (fun k hk => (World.ownsRow.lt ho k hk).1)⟩
    unfold OwnW
    rw [cW_append, List.length_append, hr.len]
    exact h1

theorem wpList_append_w {w : World} {ops : Array Oper} {rest : List Oper} {o : Oper} {a : Act} {Q : Exit → Act → World → Prop} (hgd : o.guard = none) (s x : Operand)
    (hop : o.op = .call { callee := .builtin .append, args := #[s, x], argTypes := #[22, 22] }) (v : Value) (hs : a.eval s = v) (A : Option Addr) (n c : Nat) (hx : a.eval x = .slice A n c)
    (base : Nat) (L0 : List Wr) (ho : OwnW w base v L0) (hbase : base ≤ w.heap.size) (L : List Wr) (hr : RdW w A n L) (hn : L0.length + n ≤ 3000)
    (h : ∀ v' w', OwnW w' base v' (L0 ++ L) → Below base w w' → wpList Tryz.prog ops Q rest (a.put o.dst v') w') :
    wpList Tryz.prog ops Q (o :: rest) a w := by
  refine wpList_plain hgd fun K hK => ?_
  obtain ⟨v', w', hrun, h1, h2⟩ := run_append_w w base v L0 ho hbase A n c L hr hn o.type
  unfold Oper.wp execOp
  simp only [hop, resolve, invoke, builtin, Sem.run_bind, Sem.run_pure, Result.andThen_ok, List.map_toArray, List.map_cons, List.map_nil, hs, hx, hrun]
  exact hK _ _ (h v' w' h1 h2)

/-- An empty row that was just made. -/
theorem ownW_new (w : World) : OwnW (w.alloc (.cells #[] 62)) w.heap.size (.slice (some ⟨w.heap.size, 0, none⟩) 0 0) [] :=
  ⟨rfl, .inr ⟨w.heap.size, 0, #[], rfl, Nat.le_refl _, heap_alloc_last _ _, Nat.le_refl _, by unfold maxLen; omega, rfl, rfl⟩⟩

end Go.Proofs.YtaijldcfoaeogaaGreat

/- The contract of the document's Runs at 256 truths, over any world. -/
namespace Go.Proofs.YtaijldcfoaeogaaGreat
open Go.RowKit
set_option maxRecDepth 100000

theorem info_ref0 : (Tryz.prog.info? 82).map (fun i => (i.zero, i.size, i.bytes)) = some (some (.agg #[.int .i64 0, .int .i64 0]), 2, 16) := by kernel_rfl

theorem OwnR.setLast {w : World} {base T g q c : Nat} {L0 : List Rn} {f t t' : Int} (hq : L0.length = q) (h : OwnR w base T (.slice (some ⟨g, 0, none⟩) (q + 1) c) (L0 ++ [⟨f, t⟩])) :
    OwnR (w.setCell ⟨g, q * 2 + 1, none⟩ (.int .i64 t')) base T (.slice (some ⟨g, 0, none⟩) (q + 1) c) (L0 ++ [⟨f, t'⟩]) := by
  unfold OwnR at h ⊢
  have hl : (L0 ++ [(⟨f, t⟩ : Rn)]).length = q + 1 := by simp [hq]
  have hl' : (L0 ++ [(⟨f, t'⟩ : Rn)]).length = q + 1 := by simp [hq]
  rw [hl] at h
  rw [hl']
  have h1 := (World.ownsRow.stored h (q * 2 + 1) (.int .i64 t')).1
  have e : (cR (L0 ++ [⟨f, t⟩])).set (q * 2 + 1) (.int .i64 t') = cR (L0 ++ [⟨f, t'⟩]) := by
    rw [cR_append, cR_append, List.set_append_right _ _ (by rw [cR_length, hq]; omega), cR_length, hq, show q * 2 + 1 - q * 2 = 1 by omega]
    rfl
  rw [e] at h1
  exact h1

theorem last_or {L : List Rn} (h : 0 < L.length) : ∃ L0 r, L = L0 ++ [r] := ⟨L.dropLast, L.getLast (by rintro rfl; simp at h), (List.dropLast_concat_getLast _).symm⟩

set_option maxHeartbeats 2000000 in
set_option maxRecDepth 100000 in
theorem refRuns256_any (g : Nat) (Q : Nat → Bool) (w : World) (h : Bl w g 256 Q) :
    Calls Tryz.prog 47 #[.slice (some ⟨g, 0, none⟩) 256 256, .int .i64 0] w fun e w' => ∃ v R, e = .returned v ∧ OwnR w' w.heap.size 82 v R ∧ Up 0 Q 256 R ∧ Below w.heap.size w w' := by
  obtain ⟨i0, hi0, hz0, hz1, hz2⟩ := info_parts info_ref0
  have HBl := Lib.hid h
  clear h
  go_enter Tryz.func47, Tryz.ntmps47
  go_wp2
  go_loopg [5, 6] 256 (fun k s i wr => ∃ (j : Nat) (sv : Value) (R : List Rn), sv = s ∧ k = 256 - j ∧ j ≤ 256 ∧ i = .int .i64 (j : Int) ∧ Hid (OwnR wr w.heap.size 82 sv R) ∧ Hid (Up 0 Q j R) ∧ Hid (R.length ≤ j) ∧ Hid (Below w.heap.size w wr))
  case atStart => exact ⟨0, _, [], rfl, rfl, Nat.zero_le _, rfl, Lib.hid (OwnR.nil _ _ _), Lib.hid (up_start _ _), Lib.hid (by simp), Lib.hid (Below.refl _ _)⟩
  case round =>
    obtain ⟨j, sv, R, rfl, hk, hj, rfl, HO, HU, HL, HB⟩ := hrel
    have HK := Lib.hid hk
    clear hk
    by_cases hlt : j < 256
    · have hbl := HBl.out.later HB.out
      have hc := hbl.at_ hlt
      have hbr : w.heap.size ≤ wr.heap.size := HB.out.size
      obtain ⟨P, hP⟩ : ∃ P, P = Q j := ⟨_, rfl⟩
      rw [← hP] at hc
      have HP := Lib.hid hP
      have hrl : R.length ≤ 256 := by have := HL.out; omega
      cases P with
      | false =>
        have HU2 := Lib.hid (HU.out.skip hP.symm)
        have HL2 : Hid (R.length ≤ j + 1) := Lib.hid (by have := HL.out; omega)
        clear hbl hP
        go_wp2
        go_roundg (256 - (j + 1))
        case measure => have := HK.out; omega
        case rel => exact ⟨j + 1, sv, R, rfl, rfl, by omega, by go_num, HO, HU2, HL2, HB⟩
      | true =>
        by_cases hprev : 0 < j ∧ Q (j - 1) = true
        · obtain ⟨hj0, hq1⟩ := hprev
          obtain ⟨i, rfl⟩ : ∃ i, j = i + 1 := ⟨j - 1, by omega⟩
          rw [Nat.add_sub_cancel] at hq1
          have hc1 := hbl.at_ (j := i) (by omega)
          rw [hq1] at hc1
          obtain ⟨L0, ⟨f, t⟩, hR, ht⟩ := HU.out.last hj0 (by rw [Nat.add_sub_cancel]; exact hq1)
          simp only at ht
          subst hR
          have HU2 := Lib.hid (HU.out.grow hP.symm ht)
          obtain ⟨q, hq⟩ : ∃ q, q = L0.length := ⟨_, rfl⟩
          have ho := HO.out
          obtain ⟨g', c', hv⟩ : ∃ g' c', sv = .slice (some ⟨g', 0, none⟩) (q + 1) c' := by
            rcases ho.2 with ⟨_, hl⟩ | ⟨g', cap, cur, hv, _⟩
            · simp at hl
            · refine ⟨g', cap, ?_⟩
              rw [hv, hq]; simp
          subst hv
          have hcl := ho
          obtain ⟨a3, c3, hv3, hr3, _, hlo3⟩ := hcl.rd
          have hgb : w.heap.size ≤ g' := HO.out.base g' rfl
          have hfr : wr.frozen? ⟨g', q * 2 + 1, none⟩ = false := by
            rcases ho.2 with ⟨hv, _⟩ | ⟨g2, cap, cur, hv, _, hgo, _⟩
            · cases hv
            · injection hv with e1 _ _
              injection e1 with e1
              injection e1 with e1 _
              subst e1
              simp [World.frozen?, hgo]
          have hct : wr.cell? ⟨g', q * 2 + 1, none⟩ = some (.int .i64 t) := by
            injection hv3 with e1 e2 e3
            subst e1
            obtain ⟨b, o, he, hcc⟩ := hr3.2 (by simp)
            injection he with he
            injection he with e4 e5
            subst e4
            subst e5
            have := (hcc q (by simp; omega)).2
            rw [Nat.zero_add] at this
            rw [this]
            simp [List.getD, hq]
          have HO2 : Hid (OwnR (wr.setCell ⟨g', q * 2 + 1, none⟩ (.int .i64 ((i : Int) + 1 + 1))) w.heap.size 82 (.slice (some ⟨g', 0, none⟩) (q + 1) c') (L0 ++ [⟨f, (i : Int) + 1 + 1⟩])) := Lib.hid (OwnR.setLast hq.symm ho)
          have HB2 : Hid (Below w.heap.size w (wr.setCell ⟨g', q * 2 + 1, none⟩ (.int .i64 ((i : Int) + 1 + 1)))) := Lib.hid (HB.out.trans (below_set hgb _ _))
          have HUv : Hid (Up 0 Q (i + 1 + 1) (L0 ++ [⟨f, (i : Int) + 1 + 1⟩])) := Lib.hid (by have := HU2.out; rw [show (0 : Int) + ((i + 1 : Nat) : Int) + 1 = (i : Int) + 1 + 1 by omega] at this; exact this)
          have HLv : Hid ((L0 ++ [(⟨f, (i : Int) + 1 + 1⟩ : Rn)]).length ≤ i + 1 + 1) := Lib.hid (by have := HL.out; simp at this ⊢; omega)
          have hql : q ≤ 256 := by have := HL.out; simp at this; omega
          have HQ := Lib.hid hq
          clear hbl hP hr3 hlo3 ho hcl hq1 hq ht hv3 HU2 HU
          go_wp2
          go_roundg (256 - (i + 1 + 1))
          case measure => have := HK.out; omega
          case rel => exact ⟨i + 1 + 1, _, _, rfl, rfl, by omega, by go_num, HO2, HUv, HLv, HB2⟩
        · have hap : j = 0 ∨ Q (j - 1) = false := by
            rcases Nat.eq_zero_or_pos j with h | h
            · exact .inl h
            · refine .inr ?_
              cases hq : Q (j - 1) with
              | false => rfl
              | true => exact absurd ⟨h, hq⟩ hprev
          have HU2 : Hid (Up 0 Q (j + 1) (R ++ [⟨(j : Int), (j : Int) + 1⟩])) := Lib.hid (by have := HU.out.fresh hP.symm hap; rw [Int.zero_add] at this; exact this)
          have HLv : Hid ((R ++ [(⟨(j : Int), (j : Int) + 1⟩ : Rn)]).length ≤ j + 1) := Lib.hid (by have := HL.out; simp; omega)
          have hcase : ((j : Int) ≤ 0 ∧ j = 0) ∨ ((0 : Int) < (j : Int) ∧ ∃ i, j = i + 1 ∧ wr.cell? ⟨g, i, none⟩ = some (.bool false)) := by
            rcases hap with h | h
            · exact .inl ⟨by omega, h⟩
            · rcases Nat.eq_zero_or_pos j with h0 | h0
              · exact .inl ⟨by omega, h0⟩
              · refine .inr ⟨by omega, j - 1, by omega, ?_⟩
                rw [hbl.at_ (by omega), h]
          clear hbl hP hap hprev
          rcases hcase with ⟨hj0, rfl⟩ | ⟨hj0, i, rfl, hci⟩
          · clear hj0
            go_wp2_with (at_builtin; have _t := hlt; refine wpList_append_own_at _ rfl (.tmp 37) (.tmp 46) 79 rfl w.heap.size 82 i0 _ 2 16 Tryz.underlying79 hi0 hz0 hz1 hz2 rfl (by omega) sv R.length (cR R) rfl (HO.out.kept (Below.alloc0 _ _)) ⟨wr.heap.size, 0, none⟩ 1 1 (cR [⟨0, 1⟩]) rfl ?hlen (World.news_of_block (cs := #[.int .i64 0, .int .i64 1]) (t := 82) (fr := (0, 0)) (heap_alloc_new wr _)) ?one ?h63 ?hby ?hbase ?next)
            case hlen => rfl
            case one => exact cR_one _
            case h63 => unfold maxLen; omega
            case hby => omega
            case hbase => simp; omega
            case next =>
              intro v' w' hown hg _ _
              have HO3 : Hid (OwnR w' w.heap.size 82 v' (R ++ [⟨0, 1⟩])) := Lib.hid (OwnR.of_append rfl hown)
              have HB3 : Hid (Below w.heap.size w w') := Lib.hid ((HB.out.alloc hbr _).grown hg (by simp; omega) (fun k hk => (World.ownsRow.lt HO.out k hk).1))
              clear hown hg
              go_wp2
              go_roundg (256 - (0 + 1))
              case measure => have := HK.out; omega
              case rel => exact ⟨0 + 1, v', _, rfl, rfl, by omega, by go_num, HO3, HU2, HLv, HB3⟩
          · have HU3 : Hid (Up 0 Q (i + 1 + 1) (R ++ [⟨(i : Int) + 1, (i : Int) + 1 + 1⟩])) := Lib.hid (by have := HU2.out; rw [show ((i + 1 : Nat) : Int) = (i : Int) + 1 by omega] at this; exact this)
            have HL3 : Hid ((R ++ [(⟨(i : Int) + 1, (i : Int) + 1 + 1⟩ : Rn)]).length ≤ i + 1 + 1) := Lib.hid (by have := HL.out; simp; omega)
            clear HU2 HLv
            go_wp2_with (at_builtin; have _t := hlt; refine wpList_append_own_at _ rfl (.tmp 37) (.tmp 46) 79 rfl w.heap.size 82 i0 _ 2 16 Tryz.underlying79 hi0 hz0 hz1 hz2 rfl (by omega) sv R.length (cR R) rfl (HO.out.kept (Below.alloc0 _ _)) ⟨wr.heap.size, 0, none⟩ 1 1 (cR [⟨(i : Int) + 1, (i : Int) + 1 + 1⟩]) rfl ?hlen2 (World.news_of_block (cs := #[.int .i64 ((i : Int) + 1), .int .i64 ((i : Int) + 1 + 1)]) (t := 82) (fr := (0, 0)) (heap_alloc_new wr _)) ?one2 ?h632 ?hby2 ?hbase2 ?next2)
            case hlen2 => rfl
            case one2 => exact cR_one _
            case h632 => unfold maxLen; omega
            case hby2 => omega
            case hbase2 => simp; omega
            case next2 =>
              intro v' w' hown hg _ _
              have HO3 : Hid (OwnR w' w.heap.size 82 v' (R ++ [⟨(i : Int) + 1, (i : Int) + 1 + 1⟩])) := Lib.hid (OwnR.of_append rfl hown)
              have HB3 : Hid (Below w.heap.size w w') := Lib.hid ((HB.out.alloc hbr _).grown hg (by simp; omega) (fun k hk => (World.ownsRow.lt HO.out k hk).1))
              clear hown hg
              go_wp2
              go_roundg (256 - (i + 1 + 1))
              case measure => have := HK.out; omega
              case rel => exact ⟨i + 1 + 1, v', _, rfl, rfl, by omega, by go_num, HO3, HU3, HL3, HB3⟩
    · obtain rfl : j = 256 := by omega
      go_wp2
      go_ret
      exact ⟨_, R, rfl, HO.out, HU.out, HB.out⟩

end Go.Proofs.YtaijldcfoaeogaaGreat

/- The contracts of the statement's own runs, and of the document's Blocks, over any world. -/
namespace Go.Proofs.YtaijldcfoaeogaaGreat
open Go.RowKit
set_option maxRecDepth 100000
set_option linter.unusedSimpArgs false

theorem run_mk256 (w : World) : (Instr.makeSlice 118 (.int .i64 256) (.int .i64 256)).run Tryz.prog w = .ok (.slice (some ⟨w.heap.size, 0, none⟩) 256 256) (w.alloc (.cells (bcells 256 fun _ => false) 4)) := by
  obtain ⟨i0, hi0, hz0, hz1, hz2⟩ := info_parts info_bool
  have h := run_make (P := Tryz.prog) w 118 4 i0 _ Tryz.underlying118 hi0 hz0 .i64 .i64 256 256 (by omega) (by omega) (by rw [hz2]; omega) (by omega)
  have e : madeCells #[Value.bool false] 256 = bcells 256 fun _ => false := by kernel_rfl
  simpa [hz1, Value.cells, e] using h

/-- Whether a text is empty. -/
theorem strB_neq (l : List Nat) : ((strB l).toList == ([] : List UInt8)) = !decide (l ≠ []) := by
  by_cases h : l = []
  · subst h
    have : (strB []).toList = [] := by rw [ByteArray.toList_eq]; rfl
    simp [this]
  · have := strB_ne h
    simp [h, this]

/-- The truths up to i are those of Q, the others false. -/
def upB (Q : Nat → Bool) (i : Nat) : Nat → Bool := fun j => decide (j < i) && Q j

theorem upB_succ (Q : Nat → Bool) (i : Nat) : ∀ j, j < 256 → updB (upB Q i) i (Q i) j = upB Q (i + 1) j := by
  intro j _
  unfold updB upB
  by_cases h : j = i
  · subst h; simp
  · rw [if_neg h]
    by_cases h2 : j < i
    · simp [h2, show j < i + 1 by omega]
    · simp [h2, show ¬ j < i + 1 by omega]

end Go.Proofs.YtaijldcfoaeogaaGreat

/- The contract of the document's Diff of images, over any world. -/
namespace Go.Proofs.YtaijldcfoaeogaaGreat
open Go.RowKit
set_option maxRecDepth 100000
set_option linter.unusedSimpArgs false

theorem getD_memD {F : List (List Nat)} {k : Nat} (h : k < F.length) : F.getD k [] ∈ F := by
  simp [List.getD, h]

theorem hasF_diff {F G : List (List Nat)} {k : Nat} (hk : k < 256) : hasF (diffF F G) k = (decide (F.getD k [] ≠ []) && !decide (F.getD k [] = G.getD k [])) := by
  have e : (diffF F G).getD k [] = if G.getD k [] = F.getD k [] then [] else F.getD k [] := by
    simp only [diffF, List.getD, List.getElem?_map, List.getElem?_range hk, Option.map_some, Option.getD_some]
  unfold hasF
  rw [e]
  by_cases h : G.getD k [] = F.getD k []
  · rw [if_pos h]; simp only [List.getD] at h ⊢; simp [h]
  · rw [if_neg h]
    have h2 : ¬ F.getD k [] = G.getD k [] := fun e => h e.symm
    simp only [List.getD] at h2 ⊢
    simp [h2]

theorem hasF_gone {F G : List (List Nat)} {k : Nat} (hk : k < 256) : hasF (goneF F G) k = (!decide (F.getD k [] ≠ []) && decide (G.getD k [] ≠ [])) := by
  have e : (goneF F G).getD k [] = if F.getD k [] = [] then G.getD k [] else [] := by
    simp only [goneF, List.getD, List.getElem?_map, List.getElem?_range hk, Option.map_some, Option.getD_some]
  unfold hasF
  rw [e]
  by_cases h : F.getD k [] = []
  · rw [if_pos h]; simp only [List.getD] at h ⊢; simp [h]
  · rw [if_neg h]; simp only [List.getD] at h ⊢; simp [h]

theorem Bl.other' {W : World} {g g' i : Nat} {n : Nat} {Q : Nat → Bool} {v : Value} (h : Bl W g n Q) (hne : g ≠ g') : Bl (W.setCell ⟨g', i, none⟩ v) g n Q := (Below.heap_setCell W _ v g hne).trans h

/-- What the loop of Diff keeps. -/
structure DiffI (w : World) (F G : List (List Nat)) (g3 k : Nat) (wr : World) : Prop where
  fst : wr.heap[g3]? = some (arrObj F)
  snd : wr.heap[g3 + 1]? = some (arrObj G)
  put : Bl wr (g3 + 2) 256 (upB (hasF (diffF F G)) k)
  gone : Bl wr (g3 + 3) 256 (upB (hasF (goneF F G)) k)
  size : wr.heap.size = g3 + 4
  low : Below g3 w wr

theorem DiffI.step {w wr : World} {F G : List (List Nat)} {g3 k : Nat} (h : DiffI w F G g3 k wr) {A B : Bool} (hA : A = hasF (diffF F G) k) (hB : B = hasF (goneF F G) k) :
    DiffI w F G g3 (k + 1) ((wr.setCell ⟨g3 + 2, k, none⟩ (.bool A)).setCell ⟨g3 + 3, k, none⟩ (.bool B)) := by
  have h1 : Below g3 w ((wr.setCell ⟨g3 + 2, k, none⟩ (.bool A)).setCell ⟨g3 + 3, k, none⟩ (.bool B)) := Below.trans (Below.trans h.low (below_set (show g3 ≤ g3 + 2 by omega) _ _)) (below_set (show g3 ≤ g3 + 3 by omega) _ _)
  refine ⟨?_, ?_, ?_, ?_, ?_, h1⟩
  · exact (Below.heap_setCell _ _ _ g3 (by simp)).trans ((Below.heap_setCell _ _ _ g3 (by simp)).trans h.fst)
  · exact (Below.heap_setCell _ _ _ (g3 + 1) (by simp)).trans ((Below.heap_setCell _ _ _ (g3 + 1) (by simp)).trans h.snd)
  · exact ((h.put.set k A).other' (by omega)).same (by rw [hA]; exact upB_succ _ _)
  · exact ((h.gone.other' (g' := g3 + 2) (by omega)).set k B).same (by rw [hB]; exact upB_succ _ _)
  · have := h.size
    simpa using this

theorem DiffI.drew {w wr : World} {F G : List (List Nat)} {g3 k : Nat} (h : DiffI w F G g3 k wr) : DiffI w F G g3 k wr.drew :=
  ⟨h.fst, h.snd, h.put, h.gone, h.size, h.low.drew⟩

set_option maxHeartbeats 4000000 in
set_option maxRecDepth 100000 in
theorem refDiff_any (w : World) (F G : List (List Nat)) (hF : okF F) (hG : okF G) :
    Calls Tryz.prog 25 #[.agg (cS F).toArray, .agg (cS G).toArray] w fun e w' => ∃ v u M N, e = .returned (.tuple #[v, u]) ∧ OwnR w' w.heap.size 82 v M ∧ SetF (diffF F G) M ∧ OwnR w' w.heap.size 82 u N ∧ SetF (goneF F G) N ∧ Below w.heap.size w w' := by
  have HOk := Lib.hid (And.intro hF hG)
  obtain ⟨g3, hg3⟩ : ∃ g3, g3 = w.heap.size := ⟨_, rfl⟩
  clear hF hG
  go_enter Tryz.func25, Tryz.ntmps25
  go_upto_region 1 with fail
  change Code.wp _ _ _ _ ((w.alloc (arrObj F)).alloc (arrObj G))
  obtain ⟨w2, h2⟩ : ∃ w2, w2 = (w.alloc (arrObj F)).alloc (arrObj G) := ⟨_, rfl⟩
  rw [← h2, ← hg3]
  have HB2 : Hid (Below g3 w w2) := Lib.hid (by rw [h2, hg3]; exact (Below.alloc0 _ _).alloc (by simp) _)
  have HS2 : Hid (w2.heap.size = g3 + 2) := Lib.hid (by rw [h2, hg3]; simp)
  have HA2 : Hid (w2.heap[g3]? = some (arrObj F)) := Lib.hid (by rw [h2, hg3]; exact (heap_alloc_old _ _ (by simp)).trans (heap_alloc_last _ _))
  have HC2 : Hid (w2.heap[g3 + 1]? = some (arrObj G)) := Lib.hid (by
    rw [h2, hg3]
    exact heap_alloc2 w _ _)
  have HG := Lib.hid hg3
  clear h2 hg3
  have hmk := run_mk256 w2
  have hs2 := HS2.out
  rw [hs2] at hmk
  clear hs2
  obtain ⟨w4, h4⟩ : ∃ w4, w4 = w2.alloc (.cells (bcells 256 fun _ => false) 4) := ⟨_, rfl⟩
  rw [← h4] at hmk
  have HS4 : Hid (w4.heap.size = g3 + 3) := Lib.hid (by rw [h4]; simp [HS2.out])
  have hmk2 := run_mk256 w4
  have hs4 := HS4.out
  rw [hs4] at hmk2
  clear hs4
  obtain ⟨w5, h5⟩ : ∃ w5, w5 = w4.alloc (.cells (bcells 256 fun _ => false) 4) := ⟨_, rfl⟩
  rw [← h5] at hmk2
  have HB4 : Hid (Below w2.heap.size w2 w4) := Lib.hid (by rw [h4]; exact Below.alloc0 w2 _)
  have HB5 : Hid (Below w4.heap.size w4 w5) := Lib.hid (by rw [h5]; exact Below.alloc0 w4 _)
  have HI5 : Hid (DiffI w F G g3 0 w5) := Lib.hid (by
    refine ⟨?_, ?_, ?_, ?_, ?_, ?_⟩
    · exact (HB5.out.block g3 (by rw [HS4.out]; omega)).trans ((HB4.out.block g3 (by rw [HS2.out]; omega)).trans HA2.out)
    · exact (HB5.out.block (g3 + 1) (by rw [HS4.out]; omega)).trans ((HB4.out.block (g3 + 1) (by rw [HS2.out]; omega)).trans HC2.out)
    · have := bl_new w2 256 (fun _ => false)
      rw [← h4, HS2.out] at this
      exact (this.later HB5.out).same fun j _ => by simp [upB]
    · have := bl_new w4 256 (fun _ => false)
      rw [← h5, HS4.out] at this
      exact this.same fun j _ => by simp [upB]
    · rw [h5]; simp [HS4.out]
    · exact (HB2.out.trans (HB4.out.mono (by rw [HS2.out]; omega))).trans (HB5.out.mono (by rw [HS4.out]; omega)))
  clear h4 h5
  go_wp2
  clear hmk hmk2
  go_loopg [8] 256 (fun gk i wr => ∃ k : Nat, gk = 256 - k ∧ k ≤ 256 ∧ i = .int .i64 (k : Int) ∧ Hid (DiffI w F G g3 k wr))
  case atStart => exact ⟨0, rfl, by omega, rfl, HI5⟩
  case round =>
    obtain ⟨k, hgk, hk, rfl, HI⟩ := hrel
    have HGK := Lib.hid hgk
    clear hgk
    by_cases hlt : k < 256
    · have hlt' : (k : Int) < 256 := by omega
      obtain ⟨A, hA⟩ : ∃ A, A = hasF (diffF F G) k := ⟨_, rfl⟩
      obtain ⟨B, hB⟩ : ∃ B, B = hasF (goneF F G) k := ⟨_, rfl⟩
      have HStep := Lib.hid (fun W (h : DiffI w F G g3 k W) => h.step hA hB)
      have hA2 : A = (decide (F.getD k [] ≠ []) && !decide (F.getD k [] = G.getD k [])) := hA.trans (hasF_diff hlt)
      have hB2 : B = (!decide (F.getD k [] ≠ []) && decide (G.getD k [] ≠ [])) := hB.trans (hasF_gone hlt)
      have hbF : ∀ x ∈ F.getD k [], x < 256 := HOk.out.1.byte _ (getD_memD (by rw [HOk.out.1.1]; exact hlt))
      have hbG : ∀ x ∈ G.getD k [], x < 256 := HOk.out.2.byte _ (getD_memD (by rw [HOk.out.2.1]; exact hlt))
      have hc1 := arr_cell (w := wr) (j := k) HI.out.fst (by rw [HOk.out.1.1]; exact hlt)
      have hc2 := arr_cell (w := wr) (j := k) HI.out.snd (by rw [HOk.out.2.1]; exact hlt)
      have hq1 := HI.out.put.at_ hlt
      have hf1 := HI.out.put.frozen k
      have hq2 := HI.out.gone.at_ hlt
      have hf2 := HI.out.gone.frozen k
      clear hA hB
      obtain ⟨lF, hlF⟩ : ∃ l, l = F.getD k [] := ⟨_, rfl⟩
      obtain ⟨lG, hlG⟩ : ∃ l, l = G.getD k [] := ⟨_, rfl⟩
      rw [← hlF] at hc1 hA2 hB2 hbF
      rw [← hlG] at hc2 hA2 hB2 hbG
      have hn1 := strB_neq lF
      have hn2 := strB_neq lG
      have hn3 := strB_same hbF hbG
      obtain ⟨P, hP⟩ : ∃ P, P = decide (lF ≠ []) := ⟨_, rfl⟩
      rw [← hP] at hn1 hA2 hB2
      generalize decide (lG ≠ []) = U at hn2 hB2
      generalize decide (lF = lG) = V at hn3 hA2
      generalize strB lF = sF at hc1 hn1 hn3
      generalize strB lG = sG at hc2 hn2 hn3
      clear hlF hlG hbF hbG hP
      cases P with
      | false =>
        simp only [Bool.false_and, Bool.not_false, Bool.true_and] at hA2 hB2 hn1
        subst hA2
        subst hB2
        go_upto_region 6 with fail
        go_region
        all_goals
          go_wp2
          go_roundg (256 - (k + 1))
          case measure => have := HGK.out; omega
          case rel => exact ⟨k + 1, rfl, by omega, by go_num, Lib.hid (HStep.out _ HI.out).drew⟩
      | true =>
        simp only [Bool.true_and, Bool.not_true, Bool.false_and] at hA2 hB2 hn1
        subst hA2
        subst hB2
        go_upto_region 6 with fail
        go_region
        all_goals
          go_wp2
          go_roundg (256 - (k + 1))
          case measure => have := HGK.out; omega
          case rel => exact ⟨k + 1, rfl, by omega, by go_num, Lib.hid (HStep.out _ HI.out).drew⟩
    · obtain rfl : k = 256 := by omega
      have HP : Hid (Bl wr (g3 + 2) 256 (hasF (diffF F G))) := Lib.hid (HI.out.put.same fun j hj => by simp [upB, hj])
      have HQ : Hid (Bl wr (g3 + 3) 256 (hasF (goneF F G))) := Lib.hid (HI.out.gone.same fun j hj => by simp [upB, hj])
      go_wp2_with fail
      refine (refRuns256_any _ _ _ HP.out).mono ?_
      rintro e w6 ⟨v, M, rfl, ho, hu, hb⟩
      have HO := Lib.hid ho
      have HU := Lib.hid (SetF.of_up (diffF_len F G) hu)
      have HB6 := Lib.hid hb
      clear ho hu hb
      go_wp2_with fail
      refine (refRuns256_any _ _ _ (HQ.out.later HB6.out)).mono ?_
      rintro e w7 ⟨v7, N, rfl, ho, hu, hb⟩
      have HO7 := Lib.hid ho
      have HU7 := Lib.hid (SetF.of_up (goneF_len F G) hu)
      have HB7 := Lib.hid hb
      clear ho hu hb
      go_wp2
      go_ret2
      have hs := HI.out.size
      have hb67 := HB6.out.trans (HB7.out.mono HB6.out.size)
      refine ⟨_, _, M, N, rfl, (HO.out.kept HB7.out).mono (by rw [hs, HG.out]; omega), HU.out, HO7.out.mono (by have := HB6.out.size; rw [hs, HG.out] at this; omega), HU7.out, ?_⟩
      rw [← HG.out]
      exact HI.out.low.trans (hb67.mono (by rw [hs]; omega))

end Go.Proofs.YtaijldcfoaeogaaGreat
