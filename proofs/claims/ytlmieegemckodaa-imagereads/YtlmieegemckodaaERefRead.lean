/- The contract of the document's own Read of a set (revenantref08), over any world. -/
import Derived.Test.YtlmieegemckodaaERead
import Derived.Test.YtlmieegemckodaaRefRdrHi
import Derived.BigQuiet
namespace Go.Proofs.Ytlmieegemckodaa
open Go.RowKit

theorem info_ref : (Try.prog.info? 94).map (fun i => (i.zero, i.size, i.bytes)) = some (some (.agg #[.int .i64 0, .int .i64 0]), 2, 16) := by kernel_rfl

theorem bound_any (k : Int) (m : Nat) (hk : max k 0 = (m : Int)) (hm : m ≤ 1099511627776) (w : World) : Calls Try.prog 66 #[.int .i64 k] w fun e w' => e = .returned (.int .u64 (m : Int)) ∧ w = w' := by
  by_cases h : k < 0
  · have h0 : m = 0 := by omega
    subst h0
    clear hk hm
    go_enter Try.func66, Try.ntmps66
    go_wp2
    go_ret
    exact ⟨rfl, rfl⟩
  · have h0 : k = (m : Int) := by omega
    subst h0
    have h1 : (0 : Int) ≤ (m : Int) := by omega
    clear hk h
    go_enter Try.func66, Try.ntmps66
    go_wp2
    go_ret
    exact ⟨rfl, rfl⟩

theorem RdrHi.err {w : World} {T g E B : Nat} {l : List Nat} (h : RdrHi w T g E l B) : w.cell? ⟨g, 1, none⟩ = some (.int .i64 (E : Int)) := by
  obtain ⟨a, n, c, hg, _⟩ := h
  rw [cell_of_row w g 1 _ T (0, 0) hg]; rfl

set_option maxHeartbeats 4000000 in
set_option maxRecDepth 100000 in
theorem refRead_any (w : World) (g : Nat) (l : List Nat) (k : Int) (m : Nat) (hk : max k 0 = (m : Int)) (hm : m ≤ 1099511627776) (hk2 : -1099511627776 ≤ k) (h : Rdr w 70 g 0 l) :
    Calls Try.prog 51 #[.pointer (some ⟨g, 0, none⟩), .int .i64 k] w fun e w' => ∃ v, e = .returned (.tuple #[v, .int .i64 ((rdSet 0 l m).1 : Int)]) ∧ OwnR w' w.heap.size 94 v (rdSet 0 l m).2.1 ∧ w.grownBy w' (some g) := by
  obtain ⟨i0, hi0, hz0, hz1, hz2⟩ := info_parts info_ref
  have hgB := h.hi
  have HN := Lib.hid (refNumberHi_any w g 0 l m w.heap.size hgB)
  obtain ⟨⟨N, E1, l1⟩, hN1⟩ : ∃ p, p = rNum 0 l m := ⟨_, rfl⟩
  rw [← hN1] at HN
  dsimp only at HN
  have HN1 := Lib.hid hN1.symm
  have hNm : N ≤ m := by have := rNum_le 0 l m; rw [← hN1] at this; exact this
  have hgl : g < w.heap.size := by
    obtain ⟨a, n, c, hg, _⟩ := h
    exact lt_of_block hg
  have HBy : Hid (∀ x ∈ l1, x < 256) := Lib.hid (by
    have := rNum_bytes (E := 0) (l := l) (most := m) (by obtain ⟨a, n, c, _, hr, _⟩ := h; exact hr.2.1)
    rw [← hN1] at this
    exact this)
  have HL0 : Hid (l1.length ≤ 1000000) := Lib.hid (by
    have h1 : (rNum 0 l m).2.2.length ≤ l.length := by
      unfold rNum
      split
      · exact Nat.le_refl _
      · split
        · exact Nat.le_refl _
        · split
          · exact Nat.le_refl _
          · simp
    rw [← hN1] at h1
    obtain ⟨a, n, c, _, hr, _, hm'⟩ := h
    have := hr.1
    simp only at h1
    omega)
  obtain ⟨B, hB⟩ : ∃ B, B = w.heap.size := ⟨_, rfl⟩
  rw [← hB] at HN hgl ⊢
  obtain ⟨R, hR⟩ : ∃ R, R = rdSet 0 l m := ⟨_, rfl⟩
  rw [← hR]
  have HR := Lib.hid hR
  have HB := Lib.hid hB
  have HBd := Lib.hid (fun W => bound_any k m hk hm W)
  have hkn : 0 < N → k = (m : Int) := fun h => by omega
  have HKN := Lib.hid hkn
  clear hN1 hgB hR hB hk hkn
  go_enter Try.func51, Try.ntmps51
  go_wp2_with fail
  refine (HBd.out _).mono ?_
  rintro e w0 ⟨rfl, rfl⟩
  go_wp2_with fail
  refine HN.out.mono ?_
  rintro e w1 ⟨rfl, hr1, hg1⟩
  have HR1 := Lib.hid hr1
  have HG1 := Lib.hid hg1
  clear hr1 hg1 HN h HBd
  by_cases hE1 : E1 = 0
  · subst hE1
    have HRs : Hid (R = rdRuns m N 0 [] l1) := Lib.hid (by rw [HR.out, rdSet_ok HN1.out])
    clear HR
    go_wp2
    go_loopg [6, 7, 9] N (fun k s la i wr => ∃ (j last : Nat) (acc : List Rn) (l2 : List Nat) (sv : Value), sv = s ∧ k = N - j ∧ j ≤ N ∧ i = .int .i64 (j : Int) ∧ la = .int .i64 (last : Int) ∧ last ≤ m ∧ acc.length = j ∧ Hid (OwnR wr B 94 sv acc) ∧ Hid (RdrHi wr 70 g 0 l2 B) ∧ Hid (w.grownBy wr (some g)) ∧ Hid (acc.length + l2.length ≤ l1.length) ∧ Hid (∀ x ∈ l2, x < 256) ∧ Hid (R = rdRuns m (N - j) last acc l2))
    case atStart => exact ⟨0, 0, [], l1, _, rfl, rfl, Nat.zero_le _, rfl, rfl, Nat.zero_le _, rfl, Lib.hid (OwnR.nil _ _ _), HR1, HG1, Lib.hid (by simp), HBy, HRs⟩
    case round =>
      obtain ⟨j, last, acc, l2, sv, rfl, hkk, hj, rfl, rfl, hlm, hal, HO, HRr, HGr, HLn, HB2, HE⟩ := hrel
      have HK := Lib.hid hkk
      have HAl := Lib.hid hal
      clear hkk hal
      have herr := HRr.out.err
      by_cases hlt : j < N
      · have hkm : k = (m : Int) := HKN.out (by omega)
        subst hkm
        have hN2 := refNumberHi_any wr g 0 l2 (m - last) B HRr.out
        obtain ⟨⟨x, E2, l3⟩, hx⟩ : ∃ p, p = rNum 0 l2 (m - last) := ⟨_, rfl⟩
        rw [← hx] at hN2
        dsimp only at hN2
        have hxm : x ≤ m - last := by have := rNum_le 0 l2 (m - last); rw [← hx] at this; exact this
        have HX := Lib.hid hx.symm
        have HN2 := Lib.hid hN2
        have HBd2 : Hid (∀ z : Int, z = (m : Int) - (last : Int) → ∀ W, Calls Try.prog 66 #[.int .i64 z] W fun e w' => e = .returned (.int .u64 ((m - last : Nat) : Int)) ∧ W = w') := by
          intro z hz W
          exact bound_any z (m - last) (by omega) (by omega) W
        have HB3 : Hid (∀ z ∈ l3, z < 256) := Lib.hid (by have := rNum_bytes (E := 0) (most := m - last) HB2.out; rw [← hx] at this; exact this)
        have HL3 : Hid (E2 = 0 → l3.length < l2.length) := Lib.hid (by
          intro h0
          have := rNum_lt (l := l2) (most := m - last) HB2.out
          rw [← hx] at this
          exact this h0)
        clear hN2 hx
        have hxm2 : last + x ≤ m := by omega
        go_wp2_with fail
        refine (HBd2.out _ (by omega) _).mono ?_
        rintro e w1' ⟨rfl, rfl⟩
        go_wp2_with fail
        refine HN2.out.mono ?_
        rintro e w2 ⟨rfl, hr2, hg2⟩
        have HN3 := Lib.hid (refNumberHi_any w2 g E2 l3 (m - (last + x)) B hr2)
        obtain ⟨⟨y, E3, l4⟩, hy⟩ : ∃ p, p = rNum E2 l3 (m - (last + x)) := ⟨_, rfl⟩
        rw [← hy] at HN3
        dsimp only at HN3
        have hym : y ≤ m - (last + x) := by have := rNum_le E2 l3 (m - (last + x)); rw [← hy] at this; exact this
        have HY := Lib.hid hy.symm
        have HBd3 : Hid (∀ z : Int, z = (m : Int) - ((last : Int) + (x : Int)) → ∀ W, Calls Try.prog 66 #[.int .i64 z] W fun e w' => e = .returned (.int .u64 ((m - (last + x) : Nat) : Int)) ∧ W = w') := by
          intro z hz W
          exact bound_any z (m - (last + x)) (by omega) (by omega) W
        have HE23 : Hid (E3 = 0 → E2 = 0) := Lib.hid (by
          intro h0
          rcases Nat.eq_zero_or_pos E2 with h | h
          · exact h
          · have := rNum_err0 (E := E2) (l := l3) (most := m - (last + x)) (by omega)
            rw [← hy] at this
            simp only at this
            omega)
        have HB4 : Hid (∀ z ∈ l4, z < 256) := Lib.hid (by have := rNum_bytes (E := E2) (most := m - (last + x)) HB3.out; rw [← hy] at this; exact this)
        have HL4 : Hid (l4.length ≤ l3.length) := Lib.hid (by
          have h1 : (rNum E2 l3 (m - (last + x))).2.2.length ≤ l3.length := by
            unfold rNum
            split
            · exact Nat.le_refl _
            · split
              · exact Nat.le_refl _
              · split
                · exact Nat.le_refl _
                · simp
          rw [← hy] at h1
          exact h1)
        have HO2 := Lib.hid (HO.out.beside hg2 hgl)
        have HG2 := Lib.hid (HGr.out.trans hg2)
        clear hy hr2 hg2 HN2 HO HGr HRr HBd2 herr
        have hym2 : last + x + y ≤ m := by omega
        go_wp2_with fail
        refine (HBd3.out _ (by omega) _).mono ?_
        rintro e w2' ⟨rfl, rfl⟩
        go_wp2_with fail
        refine HN3.out.mono ?_
        rintro e w3 ⟨rfl, hr3, hg3⟩
        have HR3 := Lib.hid hr3
        have HO3 := Lib.hid (HO2.out.beside hg3 hgl)
        have HG3 := Lib.hid (HG2.out.trans hg3)
        have herr3 := hr3.err
        clear hr3 hg3 HN3 HO2 HG2 HBd3
        obtain ⟨q, hq⟩ : ∃ q, N - j = q + 1 := ⟨N - j - 1, by omega⟩
        have HQ := Lib.hid hq
        clear hq
        by_cases hE3 : E3 = 0
        · subst hE3
          have he2 : E2 = 0 := HE23.out rfl
          have hl3 := HL3.out he2
          have hlen : acc.length < 1000000 := by
            have h1 := HLn.out
            have h2 := HL0.out
            omega
          have hjl := HAl.out
          by_cases hform : y = 0 ∨ (0 < acc.length ∧ x = 0)
          · have HF : Hid (R = (3, [], 0, l4)) := Lib.hid (by rw [HE.out, HQ.out, rdRuns_form HX.out HY.out hform])
            rcases hform with rfl | ⟨ha, rfl⟩
            · clear hjl
              go_wp2
              go_ret2
              rw [HF.out]
              exact ⟨_, rfl, OwnR.nil _ _ _, HG3.out⟩
            · have ha' : (0 : Int) < (j : Int) := by omega
              by_cases hy0 : y = 0
              · subst hy0
                clear hjl
                go_wp2
                go_ret2
                rw [HF.out]
                exact ⟨_, rfl, OwnR.nil _ _ _, HG3.out⟩
              · have hy1 : ((y : Int) == 0) = false := by simp; omega
                clear hjl
                go_wp2
                go_ret2
                rw [HF.out]
                exact ⟨_, rfl, OwnR.nil _ _ _, HG3.out⟩
          · have HF : Hid (R = rdRuns m q (last + x + y) (acc ++ [⟨((last + x : Nat) : Int), ((last + x + y : Nat) : Int)⟩]) l4) := Lib.hid (by rw [HE.out, HQ.out, rdRuns_ok HX.out HY.out hform])
            have hy0 : y ≠ 0 := fun h => hform (.inl h)
            have hcase : (x = 0 ∧ j = 0) ∨ x ≠ 0 := by
              rcases Nat.eq_zero_or_pos x with h | h
              · refine .inl ⟨h, ?_⟩
                rcases Nat.eq_zero_or_pos j with h2 | h2
                · exact h2
                · exact absurd (.inr ⟨by omega, h⟩) hform
              · exact .inr (by omega)
            have hy1 : ((y : Int) == 0) = false := by simp; omega
            have HLE : Hid ((acc ++ [(⟨((last + x : Nat) : Int), ((last + x + y : Nat) : Int)⟩ : Rn)]).length + l4.length ≤ l1.length) := Lib.hid (by
              have h1 := HLn.out
              have h2 := HL4.out
              simp only [List.length_append, List.length_cons, List.length_nil]
              omega)
            have hBs : B ≤ w3.heap.size := by have h1 := HG3.out.size; have h2 := HB.out; omega
            obtain ⟨p, hp⟩ : ∃ p, p = last + x := ⟨_, rfl⟩
            obtain ⟨t, ht⟩ : ∃ t, t = last + x + y := ⟨_, rfl⟩
            have hp' : (last : Int) + (x : Int) = (p : Int) := by omega
            have ht' : (p : Int) + (y : Int) = (t : Int) := by omega
            have htm : t ≤ m := by omega
            rw [← ht] at HF HLE
            rw [← hp] at HF HLE
            have HJ := Lib.hid hjl
            clear hform hp ht hjl
            have hx1 : (((x : Int) == 0) = true ∧ (j : Int) ≤ 0) ∨ ((x : Int) == 0) = false := by
              rcases hcase with ⟨rfl, rfl⟩ | h
              · exact .inl ⟨rfl, by omega⟩
              · exact .inr (by simp; omega)
            clear hcase
            rcases hx1 with ⟨hx1, hx2⟩ | hx1
            all_goals
              go_wp2_with (at_builtin; have _t := hy1; refine wpList_append_own_at _ rfl (.tmp 69) (.tmp 73) 49 rfl B 94 i0 _ 2 16 Try.underlying49 hi0 hz0 hz1 hz2 rfl (by omega) _ acc.length (cR acc) rfl (HO3.out.kept (Below.alloc0 _ _)) ⟨w3.heap.size, 0, none⟩ 1 1 (cR [⟨(p : Int), (t : Int)⟩]) rfl ?hlen2 (World.news_of_block (cs := #[.int .i64 (p : Int), .int .i64 (t : Int)]) (t := 94) (fr := (0, 0)) (heap_alloc_new w3 _)) ?one2 ?h632 ?hby2 ?hbase2 ?next2)
              case hlen2 => rfl
              case one2 => exact cR_one _
              case h632 => unfold maxLen; omega
              case hby2 => omega
              case hbase2 => first | omega | (simp; omega)
              case next2 =>
                intro v' w' hown hg _ _
                have HO4 : Hid (OwnR w' B 94 v' (acc ++ [⟨(p : Int), (t : Int)⟩])) := Lib.hid (OwnR.of_append rfl hown)
                have hb4 : Below B w3 w' := ((Below.refl _ _).alloc hBs _).grown hg (by first | omega | (simp; omega)) (fun k hk => (World.ownsRow.lt HO3.out k hk).1)
                have HR4 := Lib.hid (HR3.out.below hb4)
                have HG4 := Lib.hid (grownBy_of_belowB HG3.out HB.out hb4)
                clear hown hg hb4
                go_wp2
                go_roundg (N - (j + 1))
                case measure => have := HK.out; omega
                case rel => exact ⟨j + 1, t, _, l4, v', rfl, rfl, by omega, by go_num, by go_num, htm, by have := HJ.out; simp; omega, HO4, HR4, HG4, HLE, HB4, Lib.hid (by rw [HF.out, show N - (j + 1) = q by have := HQ.out; omega])⟩
        · have hE3' : ((E3 : Int) != 0) = true := by simp; omega
          have HF : Hid (R = (E3, [], E3, l4)) := Lib.hid (by rw [HE.out, HQ.out, rdRuns_err HX.out HY.out hE3])
          go_wp2_with fail
          go_quiet (fail)
          go_wp2
          go_ret2
          rw [HF.out]
          exact ⟨_, rfl, OwnR.nil _ _ _, HG3.out.trans ⟨rfl, rfl, rfl, Nat.le_refl _, fun _ _ _ => rfl⟩⟩
      · obtain rfl : j = N := by omega
        have HF : Hid (R = (0, acc, 0, l2)) := Lib.hid (by rw [HE.out, Nat.sub_self]; rfl)
        go_wp2
        go_ret2
        rw [HF.out]
        exact ⟨_, rfl, HO.out, HGr.out⟩
  · have hN0 : N = 0 := by have := rNum_zero (E := 0) (l := l) (most := m); rw [HN1.out] at this; exact this hE1
    subst hN0
    have HRs : Hid (R = (E1, [], E1, l1)) := Lib.hid (by rw [HR.out, rdSet_err HN1.out hE1])
    clear HR
    have hE1' : ((E1 : Int) != 0) = true := by simp; omega
    have herr := HR1.out.err
    go_wp2
    go_loopg [6, 7, 9] 0 (fun k s la i wr => k = 0 ∧ s = .slice none 0 0 ∧ i = .int .i64 0 ∧ wr = w1)
    case atStart => exact ⟨rfl, rfl, rfl, rfl⟩
    case round =>
      obtain ⟨_, rfl, rfl, rfl⟩ := hrel
      go_wp2_with fail
      go_quiet (fail)
      go_wp2
      go_ret2
      rw [HRs.out]
      exact ⟨_, rfl, OwnR.nil _ _ _, HG1.out.trans ⟨rfl, rfl, rfl, Nat.le_refl _, fun _ _ _ => rfl⟩⟩

end Go.Proofs.Ytlmieegemckodaa
