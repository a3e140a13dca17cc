/- The contract of the document's Runs at 256 truths, over any world. -/
import Derived.Test.YtaijjogjohbheaaGreatGEInToEInAny
import Derived.Laws.OwnMore
import Derived.Laws.StructEq
import Derived.BigQuiet
namespace Go.Proofs.YtaijjogjohbheaaGreat
open Go.RowKit
set_option maxRecDepth 100000

theorem info_ref0 : (Tryz.prog.info? 127).map (fun i => (i.zero, i.size, i.bytes)) = some (some (.agg #[.int .i64 0, .int .i64 0]), 2, 16) := by kernel_rfl

theorem OwnR.setLast {w : World} {base T g q c : Nat} {L0 : List Rn} {f t t' : Int} (hq : L0.length = q) (h : OwnR w base T (.slice (some ⟨g, 0, none⟩) (q + 1) c) (L0 ++ [⟨f, t⟩])) :
    OwnR (w.setCell ⟨g, q * 2 + 1, none⟩ (.int .i64 t')) base T (.slice (some ⟨g, 0, none⟩) (q + 1) c) (L0 ++ [⟨f, t'⟩]) := by
  unfold OwnR at h ⊢
  have hl : (L0 ++ [(⟨f, t⟩ : Rn)]).length = q + 1 := by simp [hq]
  have hl' : (L0 ++ [(⟨f, t'⟩ : Rn)]).length = q + 1 := by simp [hq]
  rw [hl] at h
  rw [hl']
  have h1 := (World.ownsRow.stored h (q * 2 + 1) (.int .i64 t')).1
  have e : (cR (L0 ++ [⟨f, t⟩])).set (q * 2 + 1) (.int .i64 t') = cR (L0 ++ [⟨f, t'⟩]) := by
    rw [cR_append, cR_append, List.set_append_right _ _ (by rw [cR_length, hq]; omega), cR_length, hq, show q * 2 + 1 - q * 2 = 1 by omega]
    rfl
  rw [e] at h1
  exact h1

theorem last_or {L : List Rn} (h : 0 < L.length) : ∃ L0 r, L = L0 ++ [r] := ⟨L.dropLast, L.getLast (by rintro rfl; simp at h), (List.dropLast_concat_getLast _).symm⟩

set_option maxHeartbeats 2000000 in
set_option maxRecDepth 100000 in
theorem refRuns256_any (g : Nat) (Q : Nat → Bool) (w : World) (h : Bl w g 256 Q) :
    Calls Tryz.prog 58 #[.slice (some ⟨g, 0, none⟩) 256 256, .int .i64 0] w fun e w' => ∃ v R, e = .returned v ∧ OwnR w' w.heap.size 127 v R ∧ Up 0 Q 256 R ∧ Below w.heap.size w w' := by
  obtain ⟨i0, hi0, hz0, hz1, hz2⟩ := info_parts info_ref0
  have HBl := Lib.hid h
  clear h
  go_enter Tryz.func58, Tryz.ntmps58
  go_wp2
  go_loopg [5, 6] 256 (fun k s i wr => ∃ (j : Nat) (sv : Value) (R : List Rn), sv = s ∧ k = 256 - j ∧ j ≤ 256 ∧ i = .int .i64 (j : Int) ∧ Hid (OwnR wr w.heap.size 127 sv R) ∧ Hid (Up 0 Q j R) ∧ Hid (R.length ≤ j) ∧ Hid (Below w.heap.size w wr))
  case atStart => exact ⟨0, _, [], rfl, rfl, Nat.zero_le _, rfl, Lib.hid (OwnR.nil _ _ _), Lib.hid (up_start _ _), Lib.hid (by simp), Lib.hid (Below.refl _ _)⟩
  case round =>
    obtain ⟨j, sv, R, rfl, hk, hj, rfl, HO, HU, HL, HB⟩ := hrel
    have HK := Lib.hid hk
    clear hk
    by_cases hlt : j < 256
    · have hbl := HBl.out.later HB.out
      have hc := hbl.at_ hlt
      have hbr : w.heap.size ≤ wr.heap.size := HB.out.size
      obtain ⟨P, hP⟩ : ∃ P, P = Q j := ⟨_, rfl⟩
      rw [← hP] at hc
      have HP := Lib.hid hP
      have hrl : R.length ≤ 256 := by have := HL.out; omega
      cases P with
      | false =>
        have HU2 := Lib.hid (HU.out.skip hP.symm)
        have HL2 : Hid (R.length ≤ j + 1) := Lib.hid (by have := HL.out; omega)
        clear hbl hP
        go_wp2
        go_roundg (256 - (j + 1))
        case measure => have := HK.out; omega
        case rel => exact ⟨j + 1, sv, R, rfl, rfl, by omega, by go_num, HO, HU2, HL2, HB⟩
      | true =>
        by_cases hprev : 0 < j ∧ Q (j - 1) = true
        · obtain ⟨hj0, hq1⟩ := hprev
          obtain ⟨i, rfl⟩ : ∃ i, j = i + 1 := ⟨j - 1, by omega⟩
          rw [Nat.add_sub_cancel] at hq1
          have hc1 := hbl.at_ (j := i) (by omega)
          rw [hq1] at hc1
          obtain ⟨L0, ⟨f, t⟩, hR, ht⟩ := HU.out.last hj0 (by rw [Nat.add_sub_cancel]; exact hq1)
          simp only at ht
          subst hR
          have HU2 := Lib.hid (HU.out.grow hP.symm ht)
          obtain ⟨q, hq⟩ : ∃ q, q = L0.length := ⟨_, rfl⟩
          have ho := HO.out
          obtain ⟨g', c', hv⟩ : ∃ g' c', sv = .slice (some ⟨g', 0, none⟩) (q + 1) c' := by
            rcases ho.2 with ⟨_, hl⟩ | ⟨g', cap, cur, hv, _⟩
            · simp at hl
            · refine ⟨g', cap, ?_⟩
              rw [hv, hq]; simp
          subst hv
          have hcl := ho
          obtain ⟨a3, c3, hv3, hr3, _, hlo3⟩ := hcl.rd
          have hgb : w.heap.size ≤ g' := HO.out.base g' rfl
          have hfr : wr.frozen? ⟨g', q * 2 + 1, none⟩ = false := by
            rcases ho.2 with ⟨hv, _⟩ | ⟨g2, cap, cur, hv, _, hgo, _⟩
            · cases hv
            · injection hv with e1 _ _
              injection e1 with e1
              injection e1 with e1 _
              subst e1
              simp [World.frozen?, hgo]
          have hct : wr.cell? ⟨g', q * 2 + 1, none⟩ = some (.int .i64 t) := by
            injection hv3 with e1 e2 e3
            subst e1
            obtain ⟨b, o, he, hcc⟩ := hr3.2 (by simp)
            injection he with he
            injection he with e4 e5
            subst e4
            subst e5
            have := (hcc q (by simp; omega)).2
            rw [Nat.zero_add] at this
            rw [this]
            simp [List.getD, hq]
          have HO2 : Hid (OwnR (wr.setCell ⟨g', q * 2 + 1, none⟩ (.int .i64 ((i : Int) + 1 + 1))) w.heap.size 127 (.slice (some ⟨g', 0, none⟩) (q + 1) c') (L0 ++ [⟨f, (i : Int) + 1 + 1⟩])) := Lib.hid (OwnR.setLast hq.symm ho)
          have HB2 : Hid (Below w.heap.size w (wr.setCell ⟨g', q * 2 + 1, none⟩ (.int .i64 ((i : Int) + 1 + 1)))) := Lib.hid (HB.out.trans (below_set hgb _ _))
          have HUv : Hid (Up 0 Q (i + 1 + 1) (L0 ++ [⟨f, (i : Int) + 1 + 1⟩])) := Lib.hid (by have := HU2.out; rw [show (0 : Int) + ((i + 1 : Nat) : Int) + 1 = (i : Int) + 1 + 1 by omega] at this; exact this)
          have HLv : Hid ((L0 ++ [(⟨f, (i : Int) + 1 + 1⟩ : Rn)]).length ≤ i + 1 + 1) := Lib.hid (by have := HL.out; simp at this ⊢; omega)
          have hql : q ≤ 256 := by have := HL.out; simp at this; omega
          have HQ := Lib.hid hq
          clear hbl hP hr3 hlo3 ho hcl hq1 hq ht hv3 HU2 HU
          go_wp2
          go_roundg (256 - (i + 1 + 1))
          case measure => have := HK.out; omega
          case rel => exact ⟨i + 1 + 1, _, _, rfl, rfl, by omega, by go_num, HO2, HUv, HLv, HB2⟩
        · have hap : j = 0 ∨ Q (j - 1) = false := by
            rcases Nat.eq_zero_or_pos j with h | h
            · exact .inl h
            · refine .inr ?_
              cases hq : Q (j - 1) with
              | false => rfl
              | true => exact absurd ⟨h, hq⟩ hprev
          have HU2 : Hid (Up 0 Q (j + 1) (R ++ [⟨(j : Int), (j : Int) + 1⟩])) := Lib.hid (by have := HU.out.fresh hP.symm hap; rw [Int.zero_add] at this; exact this)
          have HLv : Hid ((R ++ [(⟨(j : Int), (j : Int) + 1⟩ : Rn)]).length ≤ j + 1) := Lib.hid (by have := HL.out; simp; omega)
          have hcase : ((j : Int) ≤ 0 ∧ j = 0) ∨ ((0 : Int) < (j : Int) ∧ ∃ i, j = i + 1 ∧ wr.cell? ⟨g, i, none⟩ = some (.bool false)) := by
            rcases hap with h | h
            · exact .inl ⟨by omega, h⟩
            · rcases Nat.eq_zero_or_pos j with h0 | h0
              · exact .inl ⟨by omega, h0⟩
              · refine .inr ⟨by omega, j - 1, by omega, ?_⟩
                rw [hbl.at_ (by omega), h]
          clear hbl hP hap hprev
          rcases hcase with ⟨hj0, rfl⟩ | ⟨hj0, i, rfl, hci⟩
          · clear hj0
            go_wp2_with (at_builtin; have _t := hlt; refine wpList_append_own_at _ rfl (.tmp 37) (.tmp 46) 91 rfl w.heap.size 127 i0 _ 2 16 Tryz.underlying91 hi0 hz0 hz1 hz2 rfl (by omega) sv R.length (cR R) rfl (HO.out.kept (Below.alloc0 _ _)) ⟨wr.heap.size, 0, none⟩ 1 1 (cR [⟨0, 1⟩]) rfl ?hlen (World.news_of_block (cs := #[.int .i64 0, .int .i64 1]) (t := 127) (fr := (0, 0)) (heap_alloc_new wr _)) ?one ?h63 ?hby ?hbase ?next)
            case hlen => rfl
            case one => exact cR_one _
            case h63 => unfold maxLen; omega
            case hby => omega
            case hbase => simp; omega
            case next =>
              intro v' w' hown hg _ _
              have HO3 : Hid (OwnR w' w.heap.size 127 v' (R ++ [⟨0, 1⟩])) := Lib.hid (OwnR.of_append rfl hown)
              have HB3 : Hid (Below w.heap.size w w') := Lib.hid ((HB.out.alloc hbr _).grown hg (by simp; omega) (fun k hk => (World.ownsRow.lt HO.out k hk).1))
              clear hown hg
              go_wp2
              go_roundg (256 - (0 + 1))
              case measure => have := HK.out; omega
              case rel => exact ⟨0 + 1, v', _, rfl, rfl, by omega, by go_num, HO3, HU2, HLv, HB3⟩
          · have HU3 : Hid (Up 0 Q (i + 1 + 1) (R ++ [⟨(i : Int) + 1, (i : Int) + 1 + 1⟩])) := Lib.hid (by have := HU2.out; rw [show ((i + 1 : Nat) : Int) = (i : Int) + 1 by omega] at this; exact this)
            have HL3 : Hid ((R ++ [(⟨(i : Int) + 1, (i : Int) + 1 + 1⟩ : Rn)]).length ≤ i + 1 + 1) := Lib.hid (by have := HL.out; simp; omega)
            clear HU2 HLv
            go_wp2_with (at_builtin; have _t := hlt; refine wpList_append_own_at _ rfl (.tmp 37) (.tmp 46) 91 rfl w.heap.size 127 i0 _ 2 16 Tryz.underlying91 hi0 hz0 hz1 hz2 rfl (by omega) sv R.length (cR R) rfl (HO.out.kept (Below.alloc0 _ _)) ⟨wr.heap.size, 0, none⟩ 1 1 (cR [⟨(i : Int) + 1, (i : Int) + 1 + 1⟩]) rfl ?hlen2 (World.news_of_block (cs := #[.int .i64 ((i : Int) + 1), .int .i64 ((i : Int) + 1 + 1)]) (t := 127) (fr := (0, 0)) (heap_alloc_new wr _)) ?one2 ?h632 ?hby2 ?hbase2 ?next2)
            case hlen2 => rfl
            case one2 => exact cR_one _
            case h632 => unfold maxLen; omega
            case hby2 => omega
            case hbase2 => simp; omega
            case next2 =>
              intro v' w' hown hg _ _
              have HO3 : Hid (OwnR w' w.heap.size 127 v' (R ++ [⟨(i : Int) + 1, (i : Int) + 1 + 1⟩])) := Lib.hid (OwnR.of_append rfl hown)
              have HB3 : Hid (Below w.heap.size w w') := Lib.hid ((HB.out.alloc hbr _).grown hg (by simp; omega) (fun k hk => (World.ownsRow.lt HO.out k hk).1))
              clear hown hg
              go_wp2
              go_roundg (256 - (i + 1 + 1))
              case measure => have := HK.out; omega
              case rel => exact ⟨i + 1 + 1, v', _, rfl, rfl, by omega, by go_num, HO3, HU3, HL3, HB3⟩
    · obtain rfl : j = 256 := by omega
      go_wp2
      go_ret
      exact ⟨_, R, rfl, HO.out, HU.out, HB.out⟩

end Go.Proofs.YtaijjogjohbheaaGreat
