/- The contract of the document's Same of runs, over any world. -/
import Derived.Test.YtlmieegemckodaaEInAll
import Derived.Laws.StructEq
import Derived.BigQuiet
import Derived.Laws.OwnMore
import Derived.Test.YtlmieegemckodaaISetOf
import Derived.Test.YtlmieegemckodaaILike
import Derived.Deep.DeepCutAuto
namespace Go.Proofs.Ytlmieegemckodaa
open Go.RowKit

theorem neq_ref (x y x' y' : Int) (w : World) : (binOp .neq 94 (.agg #[.int .i64 x, .int .i64 y]) (.agg #[.int .i64 x', .int .i64 y'])).run Try.prog w = .ok (.bool !(decide (x = x') && decide (y = y'))) w := by
  have u3 := Try.underlying3
  have a3 := Try.isAgg3
  have z3 := Try.sizeOf3
  have hS : Try.prog.underlying 94 = some (.struct (Try.prog.fieldsOf 94)) := by kernel_rfl
  have hp : Try.prog.stoodInHeld 94 = false := by kernel_rfl
  rw [run_neq_struct, show (10000 : Nat) = 9999 + 1 from rfl, run_equalIn_agg w 9999 94 _ _ hS hp]
  simp only [Program.fieldsOf, Try.underlying94]
  go_simp
  by_cases h1 : x = x' <;> by_cases h2 : y = y' <;> simp [h1, h2]

set_option maxHeartbeats 1000000 in
theorem refSame_any (a b : Option Addr) (n ca cb : Nat) (R : List Rn) (w : World) (ha : RdR w a n R) (hb : RdR w b n R) (hn : n ≤ 1000000) :
    Calls Try.prog 18 #[.slice a n ca, .slice b n cb] w fun e w' => e = .returned (.bool true) ∧ Below w.heap.size w w' := by
  have HA := Lib.hid ha
  have HC := Lib.hid hb
  clear ha hb
  go_enter Try.func18, Try.ntmps18
  go_wp2
  go_loopg [5] n (fun k i wr => ∃ j : Nat, k = n - j ∧ j ≤ n ∧ i = .int .i64 (j : Int) ∧ Hid (Below w.heap.size w wr))
  case atStart => exact ⟨0, rfl, Nat.zero_le _, rfl, Lib.hid (Below.refl _ _)⟩
  case round =>
    obtain ⟨j, hk, hj, rfl, HB⟩ := hrel
    have HK := Lib.hid hk
    clear hk
    by_cases hlt : j < n
    · obtain ⟨b1, o1, r1, he1, hre1, _, f0, f1⟩ := HA.out.at_ HB.out hlt
      obtain ⟨b2, o2, r2, he2, hre2, _, g0, g1⟩ := HC.out.at_ HB.out hlt
      have hrr : r2 = r1 := by rw [hre1, hre2]
      subst hrr
      subst he1
      subst he2
      obtain ⟨x, y⟩ := r2
      simp only at f0 f1 g0 g1
      have hne : ∀ W : World, (binOp .neq 94 (.agg #[.int .i64 x, .int .i64 y]) (.agg #[.int .i64 x, .int .i64 y])).run Try.prog W = .ok (.bool false) W := fun W => by
        rw [neq_ref]; simp
      clear hre1 hre2
      go_wp2_with fail
      go_quiet (fail)
      go_wp2
      go_roundg (n - (j + 1))
      case measure => have := HK.out; omega
      case rel => exact ⟨j + 1, rfl, by omega, by go_num, Lib.hid (HB.out.trans ⟨rfl, rfl, rfl, Nat.le_refl _, fun _ _ => rfl⟩)⟩
    · go_wp2
      go_ret
      exact ⟨rfl, HB.out⟩

end Go.Proofs.Ytlmieegemckodaa

/- The contract of the document's Runs at 256 truths, over any world. -/
namespace Go.Proofs.Ytlmieegemckodaa
open Go.RowKit

theorem info_ref0 : (Try.prog.info? 94).map (fun i => (i.zero, i.size, i.bytes)) = some (some (.agg #[.int .i64 0, .int .i64 0]), 2, 16) := by kernel_rfl

theorem OwnR.setLast {w : World} {base T g q c : Nat} {L0 : List Rn} {f t t' : Int} (hq : L0.length = q) (h : OwnR w base T (.slice (some ⟨g, 0, none⟩) (q + 1) c) (L0 ++ [⟨f, t⟩])) :
    OwnR (w.setCell ⟨g, q * 2 + 1, none⟩ (.int .i64 t')) base T (.slice (some ⟨g, 0, none⟩) (q + 1) c) (L0 ++ [⟨f, t'⟩]) := by
  unfold OwnR at h ⊢
  have hl : (L0 ++ [(⟨f, t⟩ : Rn)]).length = q + 1 := by simp [hq]
  have hl' : (L0 ++ [(⟨f, t'⟩ : Rn)]).length = q + 1 := by simp [hq]
  rw [hl] at h
  rw [hl']
  have h1 := (World.ownsRow.stored h (q * 2 + 1) (.int .i64 t')).1
  have e : (cR (L0 ++ [⟨f, t⟩])).set (q * 2 + 1) (.int .i64 t') = cR (L0 ++ [⟨f, t'⟩]) := by
    rw [cR_append, cR_append, List.set_append_right _ _ (by rw [cR_length, hq]; omega), cR_length, hq, show q * 2 + 1 - q * 2 = 1 by omega]
    rfl
  rw [e] at h1
  exact h1

theorem last_or {L : List Rn} (h : 0 < L.length) : ∃ L0 r, L = L0 ++ [r] := ⟨L.dropLast, L.getLast (by rintro rfl; simp at h), (List.dropLast_concat_getLast _).symm⟩

set_option maxHeartbeats 2000000 in
set_option maxRecDepth 100000 in
theorem refRuns256_any (g : Nat) (Q : Nat → Bool) (w : World) (h : Bl w g 256 Q) :
    Calls Try.prog 42 #[.slice (some ⟨g, 0, none⟩) 256 256, .int .i64 0] w fun e w' => ∃ v R, e = .returned v ∧ OwnR w' w.heap.size 94 v R ∧ Up 0 Q 256 R ∧ Below w.heap.size w w' := by
  obtain ⟨i0, hi0, hz0, hz1, hz2⟩ := info_parts info_ref0
  have HBl := Lib.hid h
  clear h
  go_enter Try.func42, Try.ntmps42
  go_wp2
  go_loopg [5, 6] 256 (fun k s i wr => ∃ (j : Nat) (sv : Value) (R : List Rn), sv = s ∧ k = 256 - j ∧ j ≤ 256 ∧ i = .int .i64 (j : Int) ∧ Hid (OwnR wr w.heap.size 94 sv R) ∧ Hid (Up 0 Q j R) ∧ Hid (R.length ≤ j) ∧ Hid (Below w.heap.size w wr))
  case atStart => exact ⟨0, _, [], rfl, rfl, Nat.zero_le _, rfl, Lib.hid (OwnR.nil _ _ _), Lib.hid (up_start _ _), Lib.hid (by simp), Lib.hid (Below.refl _ _)⟩
  case round =>
    obtain ⟨j, sv, R, rfl, hk, hj, rfl, HO, HU, HL, HB⟩ := hrel
    have HK := Lib.hid hk
    clear hk
    by_cases hlt : j < 256
    · have hbl := HBl.out.later HB.out
      have hc := hbl.at_ hlt
      have hbr : w.heap.size ≤ wr.heap.size := HB.out.size
      obtain ⟨P, hP⟩ : ∃ P, P = Q j := ⟨_, rfl⟩
      rw [← hP] at hc
      have HP := Lib.hid hP
      have hrl : R.length ≤ 256 := by have := HL.out; omega
      cases P with
      | false =>
        have HU2 := Lib.hid (HU.out.skip hP.symm)
        have HL2 : Hid (R.length ≤ j + 1) := Lib.hid (by have := HL.out; omega)
        clear hbl hP
        go_wp2
        go_roundg (256 - (j + 1))
        case measure => have := HK.out; omega
        case rel => exact ⟨j + 1, sv, R, rfl, rfl, by omega, by go_num, HO, HU2, HL2, HB⟩
      | true =>
        by_cases hprev : 0 < j ∧ Q (j - 1) = true
        · obtain ⟨hj0, hq1⟩ := hprev
          obtain ⟨i, rfl⟩ : ∃ i, j = i + 1 := ⟨j - 1, by omega⟩
          rw [Nat.add_sub_cancel] at hq1
          have hc1 := hbl.at_ (j := i) (by omega)
          rw [hq1] at hc1
          obtain ⟨L0, ⟨f, t⟩, hR, ht⟩ := HU.out.last hj0 (by rw [Nat.add_sub_cancel]; exact hq1)
          simp only at ht
          subst hR
          have HU2 := Lib.hid (HU.out.grow hP.symm ht)
          obtain ⟨q, hq⟩ : ∃ q, q = L0.length := ⟨_, rfl⟩
          have ho := HO.out
          obtain ⟨g', c', hv⟩ : ∃ g' c', sv = .slice (some ⟨g', 0, none⟩) (q + 1) c' := by
            rcases ho.2 with ⟨_, hl⟩ | ⟨g', cap, cur, hv, _⟩
            · simp at hl
            · refine ⟨g', cap, ?_⟩
              rw [hv, hq]; simp
          subst hv
          have hcl := ho
          obtain ⟨a3, c3, hv3, hr3, _, hlo3⟩ := hcl.rd
          have hgb : w.heap.size ≤ g' := HO.out.base g' rfl
          have hfr : wr.frozen? ⟨g', q * 2 + 1, none⟩ = false := by
            rcases ho.2 with ⟨hv, _⟩ | ⟨g2, cap, cur, hv, _, hgo, _⟩
            · cases hv
            · injection hv with e1 _ _
              injection e1 with e1
              injection e1 with e1 _
              subst e1
              simp [World.frozen?, hgo]
          have hct : wr.cell? ⟨g', q * 2 + 1, none⟩ = some (.int .i64 t) := by
            injection hv3 with e1 e2 e3
            subst e1
            obtain ⟨b, o, he, hcc⟩ := hr3.2 (by simp)
            injection he with he
            injection he with e4 e5
            subst e4
            subst e5
            have := (hcc q (by simp; omega)).2
            rw [Nat.zero_add] at this
            rw [this]
            simp [List.getD, hq]
          have HO2 : Hid (OwnR (wr.setCell ⟨g', q * 2 + 1, none⟩ (.int .i64 ((i : Int) + 1 + 1))) w.heap.size 94 (.slice (some ⟨g', 0, none⟩) (q + 1) c') (L0 ++ [⟨f, (i : Int) + 1 + 1⟩])) := Lib.hid (OwnR.setLast hq.symm ho)
          have HB2 : Hid (Below w.heap.size w (wr.setCell ⟨g', q * 2 + 1, none⟩ (.int .i64 ((i : Int) + 1 + 1)))) := Lib.hid (HB.out.trans (below_set hgb _ _))
          have HUv : Hid (Up 0 Q (i + 1 + 1) (L0 ++ [⟨f, (i : Int) + 1 + 1⟩])) := Lib.hid (by have := HU2.out; rw [show (0 : Int) + ((i + 1 : Nat) : Int) + 1 = (i : Int) + 1 + 1 by omega] at this; exact this)
          have HLv : Hid ((L0 ++ [(⟨f, (i : Int) + 1 + 1⟩ : Rn)]).length ≤ i + 1 + 1) := Lib.hid (by have := HL.out; simp at this ⊢; omega)
          have hql : q ≤ 256 := by have := HL.out; simp at this; omega
          have HQ := Lib.hid hq
          clear hbl hP hr3 hlo3 ho hcl hq1 hq ht hv3 HU2 HU
          go_wp2
          go_roundg (256 - (i + 1 + 1))
          case measure => have := HK.out; omega
          case rel => exact ⟨i + 1 + 1, _, _, rfl, rfl, by omega, by go_num, HO2, HUv, HLv, HB2⟩
        · have hap : j = 0 ∨ Q (j - 1) = false := by
            rcases Nat.eq_zero_or_pos j with h | h
            · exact .inl h
            · refine .inr ?_
              cases hq : Q (j - 1) with
              | false => rfl
              | true => exact absurd ⟨h, hq⟩ hprev
          have HU2 : Hid (Up 0 Q (j + 1) (R ++ [⟨(j : Int), (j : Int) + 1⟩])) := Lib.hid (by have := HU.out.fresh hP.symm hap; rw [Int.zero_add] at this; exact this)
          have HLv : Hid ((R ++ [(⟨(j : Int), (j : Int) + 1⟩ : Rn)]).length ≤ j + 1) := Lib.hid (by have := HL.out; simp; omega)
          have hcase : ((j : Int) ≤ 0 ∧ j = 0) ∨ ((0 : Int) < (j : Int) ∧ ∃ i, j = i + 1 ∧ wr.cell? ⟨g, i, none⟩ = some (.bool false)) := by
            rcases hap with h | h
            · exact .inl ⟨by omega, h⟩
            · rcases Nat.eq_zero_or_pos j with h0 | h0
              · exact .inl ⟨by omega, h0⟩
              · refine .inr ⟨by omega, j - 1, by omega, ?_⟩
                rw [hbl.at_ (by omega), h]
          clear hbl hP hap hprev
          rcases hcase with ⟨hj0, rfl⟩ | ⟨hj0, i, rfl, hci⟩
          · clear hj0
            go_wp2_with (at_builtin; have _t := hlt; refine wpList_append_own_at _ rfl (.tmp 37) (.tmp 46) 49 rfl w.heap.size 94 i0 _ 2 16 Try.underlying49 hi0 hz0 hz1 hz2 rfl (by omega) sv R.length (cR R) rfl (HO.out.kept (Below.alloc0 _ _)) ⟨wr.heap.size, 0, none⟩ 1 1 (cR [⟨0, 1⟩]) rfl ?hlen (World.news_of_block (cs := #[.int .i64 0, .int .i64 1]) (t := 94) (fr := (0, 0)) (heap_alloc_new wr _)) ?one ?h63 ?hby ?hbase ?next)
            case hlen => rfl
            case one => exact cR_one _
            case h63 => unfold maxLen; omega
            case hby => omega
            case hbase => simp; omega
            case next =>
              intro v' w' hown hg _ _
              have HO3 : Hid (OwnR w' w.heap.size 94 v' (R ++ [⟨0, 1⟩])) := Lib.hid (OwnR.of_append rfl hown)
              have HB3 : Hid (Below w.heap.size w w') := Lib.hid ((HB.out.alloc hbr _).grown hg (by simp; omega) (fun k hk => (World.ownsRow.lt HO.out k hk).1))
              clear hown hg
              go_wp2
              go_roundg (256 - (0 + 1))
              case measure => have := HK.out; omega
              case rel => exact ⟨0 + 1, v', _, rfl, rfl, by omega, by go_num, HO3, HU2, HLv, HB3⟩
          · have HU3 : Hid (Up 0 Q (i + 1 + 1) (R ++ [⟨(i : Int) + 1, (i : Int) + 1 + 1⟩])) := Lib.hid (by have := HU2.out; rw [show ((i + 1 : Nat) : Int) = (i : Int) + 1 by omega] at this; exact this)
            have HL3 : Hid ((R ++ [(⟨(i : Int) + 1, (i : Int) + 1 + 1⟩ : Rn)]).length ≤ i + 1 + 1) := Lib.hid (by have := HL.out; simp; omega)
            clear HU2 HLv
            go_wp2_with (at_builtin; have _t := hlt; refine wpList_append_own_at _ rfl (.tmp 37) (.tmp 46) 49 rfl w.heap.size 94 i0 _ 2 16 Try.underlying49 hi0 hz0 hz1 hz2 rfl (by omega) sv R.length (cR R) rfl (HO.out.kept (Below.alloc0 _ _)) ⟨wr.heap.size, 0, none⟩ 1 1 (cR [⟨(i : Int) + 1, (i : Int) + 1 + 1⟩]) rfl ?hlen2 (World.news_of_block (cs := #[.int .i64 ((i : Int) + 1), .int .i64 ((i : Int) + 1 + 1)]) (t := 94) (fr := (0, 0)) (heap_alloc_new wr _)) ?one2 ?h632 ?hby2 ?hbase2 ?next2)
            case hlen2 => rfl
            case one2 => exact cR_one _
            case h632 => unfold maxLen; omega
            case hby2 => omega
            case hbase2 => simp; omega
            case next2 =>
              intro v' w' hown hg _ _
              have HO3 : Hid (OwnR w' w.heap.size 94 v' (R ++ [⟨(i : Int) + 1, (i : Int) + 1 + 1⟩])) := Lib.hid (OwnR.of_append rfl hown)
              have HB3 : Hid (Below w.heap.size w w') := Lib.hid ((HB.out.alloc hbr _).grown hg (by simp; omega) (fun k hk => (World.ownsRow.lt HO.out k hk).1))
              clear hown hg
              go_wp2
              go_roundg (256 - (i + 1 + 1))
              case measure => have := HK.out; omega
              case rel => exact ⟨i + 1 + 1, v', _, rfl, rfl, by omega, by go_num, HO3, HU3, HL3, HB3⟩
    · obtain rfl : j = 256 := by omega
      go_wp2
      go_ret
      exact ⟨_, R, rfl, HO.out, HU.out, HB.out⟩

end Go.Proofs.Ytlmieegemckodaa

/- The contracts of the statement's own runs, and of the document's Blocks, over any world. -/
namespace Go.Proofs.Ytlmieegemckodaa
open Go.RowKit
set_option linter.unusedSimpArgs false

set_option maxHeartbeats 1000000 in
set_option maxRecDepth 100000 in
theorem lawRuns_any (a : Option Addr) (n c : Nat) (L : List Rn) (w : World) (h : RdR w a n L) (hn : n ≤ 1000) :
    Calls Try.prog 19 #[.slice a n c] w fun e w' => ∃ v, e = .returned v ∧ OwnR w' w.heap.size 94 v L ∧ Below w.heap.size w w' := by
  obtain ⟨i0, hi0, hz0, hz1, hz2⟩ := info_parts info_ref0
  have HR := Lib.hid h
  clear h
  go_enter Try.func19, Try.ntmps19
  go_wp2
  go_loopg [3, 8] n (fun k s i wr => ∃ (j : Nat) (sv : Value), sv = s ∧ k = n - j ∧ j ≤ n ∧ i = .int .i64 (j : Int) ∧ Hid (OwnR wr w.heap.size 94 sv (L.take j)) ∧ Hid (Below w.heap.size w wr))
  case atStart => exact ⟨0, _, rfl, rfl, Nat.zero_le _, rfl, Lib.hid (by simpa using OwnR.nil _ _ _), Lib.hid (Below.refl _ _)⟩
  case round =>
    obtain ⟨j, sv, rfl, hk, hj, rfl, HO, HB⟩ := hrel
    have HK := Lib.hid hk
    clear hk
    by_cases hlt : j < n
    · obtain ⟨b, o, r, rfl, hre, hbl, e0, e1⟩ := HR.out.at_ HB.out hlt
      have hjl : j < L.length := by have := HR.out.1; omega
      have hst := takeR_succ hjl hre
      obtain ⟨x, y⟩ := r
      simp only at e0 e1
      have HST : Hid (L.take (j + 1) = L.take j ++ [⟨x, y⟩]) := Lib.hid hst
      obtain ⟨A, hA⟩ : ∃ A, A = L.take j := ⟨_, rfl⟩
      rw [← hA] at HO HST
      have hAl : A.length ≤ 1000 := by rw [hA, List.length_take]; omega
      have hbr : w.heap.size ≤ wr.heap.size := HB.out.size
      clear hst hre hjl hA
      go_wp2_with (at_builtin; have _t := hlt; refine wpList_append_own_at _ rfl (.tmp 12) (.tmp 18) 49 rfl w.heap.size 94 i0 _ 2 16 Try.underlying49 hi0 hz0 hz1 hz2 rfl (by omega) sv A.length (cR A) rfl (HO.out.kept ((Below.alloc0 _ _).alloc (by simp) _)) ⟨wr.heap.size + 1, 0, none⟩ 1 1 (cR [⟨x, y⟩]) rfl ?hlen (World.news_of_block (cs := #[.int .i64 x, .int .i64 y]) (t := 94) (fr := (0, 0)) (heap_alloc2 wr _ _)) ?one ?h63 ?hby ?hbase ?next)
      case hlen => rfl
      case one => exact cR_one _
      case h63 => unfold maxLen; omega
      case hby => omega
      case hbase => simp; omega
      case next =>
        intro v' w' hown hg _ _
        have HO3 : Hid (OwnR w' w.heap.size 94 v' (A ++ [⟨x, y⟩])) := Lib.hid (OwnR.of_append rfl hown)
        have HB3 : Hid (Below w.heap.size w w') := Lib.hid (((HB.out.alloc hbr _).alloc (by simp; omega) _).grown hg (by simp; omega) (fun k hk => (World.ownsRow.lt HO.out k hk).1))
        clear hown hg
        go_wp2
        go_roundg (n - (j + 1))
        case measure => have := HK.out; omega
        case rel => exact ⟨j + 1, v', rfl, rfl, by omega, by go_num, Lib.hid (by rw [HST.out]; exact HO3.out), HB3⟩
    · obtain rfl : j = n := by omega
      have h1 := HO.out
      rw [List.take_of_length_le (by have := HR.out.1; omega)] at h1
      have HR2 := Lib.hid h1
      clear h1
      go_wp2
      go_ret
      exact ⟨_, rfl, HR2.out, HB.out⟩

theorem run_mk256 (w : World) : (Instr.makeSlice 97 (.int .i64 256) (.int .i64 256)).run Try.prog w = .ok (.slice (some ⟨w.heap.size, 0, none⟩) 256 256) (w.alloc (.cells (bcells 256 fun _ => false) 4)) := by
  obtain ⟨i0, hi0, hz0, hz1, hz2⟩ := info_parts info_bool
  have h := run_make (P := Try.prog) w 97 4 i0 _ Try.underlying97 hi0 hz0 .i64 .i64 256 256 (by omega) (by omega) (by rw [hz2]; omega) (by omega)
  have e : madeCells #[Value.bool false] 256 = bcells 256 fun _ => false := by kernel_rfl
  simpa [hz1, Value.cells, e] using h

/-- Whether a text is empty. -/
theorem strB_neq (l : List Nat) : ((strB l).toList == ([] : List UInt8)) = !decide (l ≠ []) := by
  by_cases h : l = []
  · subst h
    have : (strB []).toList = [] := by rw [ByteArray.toList_eq]; rfl
    simp [this]
  · have := strB_ne h
    simp [h, this]

/-- The truths up to i are those of Q, the others false. -/
def upB (Q : Nat → Bool) (i : Nat) : Nat → Bool := fun j => decide (j < i) && Q j

theorem upB_succ (Q : Nat → Bool) (i : Nat) : ∀ j, j < 256 → updB (upB Q i) i (Q i) j = upB Q (i + 1) j := by
  intro j _
  unfold updB upB
  by_cases h : j = i
  · subst h; simp
  · rw [if_neg h]
    by_cases h2 : j < i
    · simp [h2, show j < i + 1 by omega]
    · simp [h2, show ¬ j < i + 1 by omega]

set_option maxHeartbeats 1000000 in
set_option maxRecDepth 100000 in
theorem refBlocks_any (w : World) (F : List (List Nat)) (hF : okF F) :
    Calls Try.prog 21 #[.agg (cS F).toArray] w fun e w' => ∃ v M, e = .returned v ∧ OwnR w' w.heap.size 94 v M ∧ SetF F M ∧ Below w.heap.size w w' := by
  have HF := Lib.hid hF
  obtain ⟨g3, hg3⟩ : ∃ g3, g3 = w.heap.size := ⟨_, rfl⟩
  clear hF
  go_enter Try.func21, Try.ntmps21
  go_upto_region 1 with fail
  change Code.wp _ _ _ _ (w.alloc (arrObj F))
  obtain ⟨w2, h2⟩ : ∃ w2, w2 = w.alloc (arrObj F) := ⟨_, rfl⟩
  rw [← h2, ← hg3]
  have HB2 : Hid (Below g3 w w2) := Lib.hid (by rw [h2, hg3]; exact Below.alloc0 _ _)
  have HS2 : Hid (w2.heap.size = g3 + 1) := Lib.hid (by rw [h2, hg3]; simp)
  have HA2 : Hid (w2.heap[g3]? = some (arrObj F)) := Lib.hid (by rw [h2, hg3]; exact heap_alloc_last _ _)
  have HG := Lib.hid hg3
  have hmk := run_mk256 w2
  have hs2 := HS2.out
  rw [hs2] at hmk
  clear h2 hg3 hs2
  obtain ⟨w4, h4⟩ : ∃ w4, w4 = w2.alloc (.cells (bcells 256 fun _ => false) 4) := ⟨_, rfl⟩
  rw [← h4] at hmk
  have HBl4 : Hid (Bl w4 (g3 + 1) 256 (upB (hasF F) 0)) := Lib.hid (by
    have := bl_new w2 256 (fun _ => false)
    rw [← h4, HS2.out] at this
    exact this.same fun j _ => by simp [upB])
  have HA4 : Hid (w4.heap[g3]? = some (arrObj F)) := Lib.hid (by rw [h4]; exact ((Below.alloc0 w2 _).block g3 (by rw [HS2.out]; omega)).trans HA2.out)
  have HB4 : Hid (Below g3 w w4) := Lib.hid (HB2.out.trans (by rw [h4]; exact (Below.alloc0 w2 _).mono (by rw [HS2.out]; omega)))
  have HS4 : Hid (w4.heap.size = g3 + 2) := Lib.hid (by rw [h4]; simp [HS2.out])
  clear h4
  go_wp2
  go_loopg [4] 256 (fun gk i wr => ∃ k : Nat, gk = 256 - k ∧ k ≤ 256 ∧ i = .int .i64 (k : Int) ∧ Hid (Bl wr (g3 + 1) 256 (upB (hasF F) k)) ∧ Hid (wr.heap[g3]? = some (arrObj F)) ∧ Hid (Below g3 w wr) ∧ Hid (wr.heap.size = g3 + 2))
  case atStart => exact ⟨0, rfl, by omega, rfl, HBl4, HA4, HB4, HS4⟩
  case round =>
    obtain ⟨k, hgk, hk, rfl, HBl, HA, HB, HS⟩ := hrel
    have HGK := Lib.hid hgk
    clear hgk
    by_cases hlt : k < 256
    · have hlt' : (k : Int) < 256 := by omega
      have hc := arr_cell (w := wr) (j := k) HA.out (by rw [HF.out.1]; exact hlt)
      have hq := HBl.out.at_ hlt
      have hfr := HBl.out.frozen k
      obtain ⟨l, hl⟩ : ∃ l, l = F.getD k [] := ⟨_, rfl⟩
      rw [← hl] at hc
      have hne := strB_neq l
      have hQ : (decide (l ≠ [])) = hasF F k := by rw [hl]; rfl
      rw [hQ] at hne
      obtain ⟨Q, hQ2⟩ : ∃ Q, Q = hasF F k := ⟨_, rfl⟩
      rw [← hQ2] at hne
      generalize strB l = sl at hc hne
      have HBl3 : Hid (Bl (wr.setCell ⟨g3 + 1, k, none⟩ (.bool Q)) (g3 + 1) 256 (upB (hasF F) (k + 1))) := Lib.hid ((HBl.out.set k Q).same (by rw [hQ2]; exact upB_succ _ _))
      have HA3 : Hid ((wr.setCell ⟨g3 + 1, k, none⟩ (.bool Q)).heap[g3]? = some (arrObj F)) := Lib.hid ((Below.heap_setCell wr _ _ g3 (by simp)).trans HA.out)
      have HB3 : Hid (Below g3 w (wr.setCell ⟨g3 + 1, k, none⟩ (.bool Q))) := Lib.hid (HB.out.trans (below_set (by simp) _ _))
      have HS3 : Hid ((wr.setCell ⟨g3 + 1, k, none⟩ (.bool Q)).heap.size = g3 + 2) := Lib.hid (by simp [HS.out])
      clear hl hQ hQ2
      go_wp2
      go_roundg (256 - (k + 1))
      case measure => have := HGK.out; omega
      case rel => exact ⟨k + 1, rfl, by omega, by go_num, HBl3, HA3, HB3, HS3⟩
    · obtain rfl : k = 256 := by omega
      have HBl5 : Hid (Bl wr (g3 + 1) 256 (hasF F)) := Lib.hid (HBl.out.same fun j hj => by simp [upB, hj])
      go_wp2_with fail
      refine (refRuns256_any _ _ _ HBl5.out).mono ?_
      rintro e w6 ⟨v, M, rfl, ho, hu, hb⟩
      have HO := Lib.hid (ho.mono (base' := w.heap.size) (by rw [HS.out, HG.out]; omega))
      have HU := Lib.hid (SetF.of_up HF.out.1 hu)
      have HB6 := Lib.hid (HB.out.trans (hb.mono (by rw [HS.out]; omega)))
      clear ho hu hb
      go_wp2
      go_ret
      exact ⟨_, M, rfl, HO.out, HU.out, by rw [← HG.out]; exact HB6.out⟩

end Go.Proofs.Ytlmieegemckodaa
