/- The contract of extent.Read, over any world; what it reads, plainly. -/
import Derived.Test.YtaijjogjohbheaaGreatVRdAll
import Derived.Test.YtaijjogjohbheaaGreatERowAll
import Derived.Lib.MinMax
import Derived.Test.YtaijjogjohbheaaGreatEBytesAll
namespace Go.Proofs.YtaijjogjohbheaaGreat
open Go.RowKit
set_option maxRecDepth 100000

/-- The runs that are read: the error, the runs, the reader's error, and what is left. -/
def rdRuns (m : Nat) : Nat → Nat → List Rn → List Nat → Nat × List Rn × Nat × List Nat
  | 0, _, acc, l => (0, acc, 0, l)
  | k + 1, last, acc, l =>
    if (rNum (rNum 0 l (m - last)).2.1 (rNum 0 l (m - last)).2.2 (m - (last + (rNum 0 l (m - last)).1))).2.1 ≠ 0 then ((rNum (rNum 0 l (m - last)).2.1 (rNum 0 l (m - last)).2.2 (m - (last + (rNum 0 l (m - last)).1))).2.1, [], (rNum (rNum 0 l (m - last)).2.1 (rNum 0 l (m - last)).2.2 (m - (last + (rNum 0 l (m - last)).1))).2.1, (rNum (rNum 0 l (m - last)).2.1 (rNum 0 l (m - last)).2.2 (m - (last + (rNum 0 l (m - last)).1))).2.2)
    else if (rNum (rNum 0 l (m - last)).2.1 (rNum 0 l (m - last)).2.2 (m - (last + (rNum 0 l (m - last)).1))).1 = 0 ∨ (0 < acc.length ∧ (rNum 0 l (m - last)).1 = 0) then (3, [], 0, (rNum (rNum 0 l (m - last)).2.1 (rNum 0 l (m - last)).2.2 (m - (last + (rNum 0 l (m - last)).1))).2.2)
    else rdRuns m k (last + (rNum 0 l (m - last)).1 + (rNum (rNum 0 l (m - last)).2.1 (rNum 0 l (m - last)).2.2 (m - (last + (rNum 0 l (m - last)).1))).1) (acc ++ [⟨((last + (rNum 0 l (m - last)).1 : Nat) : Int), ((last + (rNum 0 l (m - last)).1 + (rNum (rNum 0 l (m - last)).2.1 (rNum 0 l (m - last)).2.2 (m - (last + (rNum 0 l (m - last)).1))).1 : Nat) : Int)⟩]) (rNum (rNum 0 l (m - last)).2.1 (rNum 0 l (m - last)).2.2 (m - (last + (rNum 0 l (m - last)).1))).2.2

theorem rdRuns_err {m k last : Nat} {acc : List Rn} {l l1 l2 : List Nat} {x y E1 E2 : Nat} (h1 : rNum 0 l (m - last) = (x, E1, l1)) (h2 : rNum E1 l1 (m - (last + x)) = (y, E2, l2)) (hE : E2 ≠ 0) : rdRuns m (k + 1) last acc l = (E2, [], E2, l2) := by
  simp only [rdRuns, h1, h2]
  rw [if_pos hE]

theorem rdRuns_form {m k last : Nat} {acc : List Rn} {l l1 l2 : List Nat} {x y E1 : Nat} (h1 : rNum 0 l (m - last) = (x, E1, l1)) (h2 : rNum E1 l1 (m - (last + x)) = (y, 0, l2)) (hE : y = 0 ∨ (0 < acc.length ∧ x = 0)) : rdRuns m (k + 1) last acc l = (3, [], 0, l2) := by
  simp only [rdRuns, h1, h2]
  rw [if_neg (by omega), if_pos hE]

theorem rdRuns_ok {m k last : Nat} {acc : List Rn} {l l1 l2 : List Nat} {x y E1 : Nat} (h1 : rNum 0 l (m - last) = (x, E1, l1)) (h2 : rNum E1 l1 (m - (last + x)) = (y, 0, l2)) (hE : ¬ (y = 0 ∨ (0 < acc.length ∧ x = 0))) : rdRuns m (k + 1) last acc l = rdRuns m k (last + x + y) (acc ++ [⟨((last + x : Nat) : Int), ((last + x + y : Nat) : Int)⟩]) l2 := by
  simp only [rdRuns, h1, h2]
  rw [if_neg (by omega), if_neg hE]

/-- The set that is read: the error, the runs, the reader's error, and what is left. -/
def rdSet (E : Nat) (l : List Nat) (m : Nat) : Nat × List Rn × Nat × List Nat :=
  if (rNum E l m).2.1 ≠ 0 then ((rNum E l m).2.1, [], (rNum E l m).2.1, (rNum E l m).2.2) else rdRuns m (rNum E l m).1 0 [] (rNum E l m).2.2

theorem rdSet_err {E m x E1 : Nat} {l l1 : List Nat} (h : rNum E l m = (x, E1, l1)) (hE : E1 ≠ 0) : rdSet E l m = (E1, [], E1, l1) := by
  simp only [rdSet, h]
  rw [if_pos hE]

theorem rdSet_ok {E m x : Nat} {l l1 : List Nat} (h : rNum E l m = (x, 0, l1)) : rdSet E l m = rdRuns m x 0 [] l1 := by
  simp only [rdSet, h]
  rw [if_neg (by omega)]

theorem grownBy_of_belowB {w w' : World} {B g : Nat} {w0 : World} (h0 : w0.grownBy w (some g)) (hB : B = w0.heap.size) (h : Below B w w') : w0.grownBy w' (some g) := by
  subst hB
  exact ⟨h.os.trans h0.os, h.tape.trans h0.tape, h.output.trans h0.output, Nat.le_trans h0.size h.size, fun k hk hne => (h.block k hk).trans (h0.block k hk hne)⟩

theorem OwnR.beside {w w' : World} {base T g : Nat} {v : Value} {L : List Rn} (h : OwnR w base T v L) (hg : w.grownBy w' (some g)) (hgb : g < base) : OwnR w' base T v L := by
  refine World.ownsRow.kept h hg ?_
  cases hv : v.ownBlock with
  | none => exact .inl rfl
  | some k =>
    refine .inr ?_
    intro e
    injection e with e
    have := h.base k hv
    omega

set_option maxHeartbeats 4000000 in
set_option maxRecDepth 100000 in
theorem read_any (w : World) (g E : Nat) (l : List Nat) (k : Int) (m : Nat) (hk : max k 0 = (m : Int)) (hm : m ≤ 1099511627776) (h : Rdr w 150 g E l) :
    Calls Tryz.prog 77 #[.pointer (some ⟨g, 0, none⟩), .int .i64 k] w fun e w' => ∃ v, e = .returned (.tuple #[v, .int .i64 ((rdSet E l m).1 : Int)]) ∧ OwnR w' w.heap.size 67 v (rdSet E l m).2.1 ∧ RdrHi w' 150 g (rdSet E l m).2.2.1 (rdSet E l m).2.2.2 w.heap.size ∧ w.grownBy w' (some g) := by
  obtain ⟨i0, hi0, hz0, hz1, hz2⟩ := info_parts info_run
  have hgB := h.hi
  have hN := numberHi_any w g E l m w.heap.size hgB
  obtain ⟨⟨N, E1, l1⟩, hN1⟩ : ∃ p, p = rNum E l m := ⟨_, rfl⟩
  rw [← hN1] at hN
  dsimp only at hN
  have HN1 := Lib.hid hN1.symm
  have hNm : N ≤ m := by have := rNum_le E l m; rw [← hN1] at this; exact this
  have hgl : g < w.heap.size := by
    obtain ⟨a, n, c, hg, _⟩ := h
    exact lt_of_block hg
  have HBy : Hid (∀ x ∈ l1, x < 256) := Lib.hid (by
    have := rNum_bytes (E := E) (l := l) (most := m) (by obtain ⟨a, n, c, _, hr, _⟩ := h; exact hr.2.1)
    rw [← hN1] at this
    exact this)
  have HL0 : Hid (l1.length ≤ 1000000) := Lib.hid (by
    have h1 : (rNum E l m).2.2.length ≤ l.length := by
      unfold rNum
      split
      · exact Nat.le_refl _
      · split
        · exact Nat.le_refl _
        · split
          · exact Nat.le_refl _
          · simp
    rw [← hN1] at h1
    obtain ⟨a, n, c, _, hr, _, hm'⟩ := h
    have := hr.1
    simp only at h1
    omega)
  have HN : Hid (∀ x : Int, x = m → Calls Tryz.prog 48 #[.pointer (some ⟨g, 0, none⟩), .int .u64 x] w fun e w' => e = .returned (.int .u64 (N : Int)) ∧ RdrHi w' 150 g E1 l1 w.heap.size ∧ w.grownBy w' (some g)) := by
    intro x hx
    rw [hx]; exact hN
  obtain ⟨B, hB⟩ : ∃ B, B = w.heap.size := ⟨_, rfl⟩
  rw [← hB] at HN hgl ⊢
  obtain ⟨R, hR⟩ : ∃ R, R = rdSet E l m := ⟨_, rfl⟩
  rw [← hR]
  have HR := Lib.hid hR
  have HB := Lib.hid hB
  clear hN hN1 hgB hR hB
  go_enter Tryz.func77, Tryz.ntmps77
  go_wp2_with fail
  refine (HN.out _ (by omega)).mono ?_
  rintro e w1 ⟨rfl, hr1, hg1⟩
  have HR1 := Lib.hid hr1
  have HG1 := Lib.hid hg1
  clear hr1 hg1 HN h
  by_cases hE1 : E1 = 0
  · subst hE1
    have HRs : Hid (R = rdRuns m N 0 [] l1) := Lib.hid (by rw [HR.out, rdSet_ok HN1.out])
    clear HR
    go_wp2
    go_loopg [6, 7, 17] N (fun k s la i wr => ∃ (j last : Nat) (acc : List Rn) (l2 : List Nat) (sv : Value), sv = s ∧ k = N - j ∧ j ≤ N ∧ i = .int .u64 (j : Int) ∧ la = .int .i64 (last : Int) ∧ last ≤ m ∧ Hid (OwnR wr B 67 sv acc) ∧ Hid (RdrHi wr 150 g 0 l2 B) ∧ Hid (w.grownBy wr (some g)) ∧ Hid (acc.length + l2.length ≤ l1.length) ∧ Hid (∀ x ∈ l2, x < 256) ∧ Hid (R = rdRuns m (N - j) last acc l2))
    case atStart => exact ⟨0, 0, [], l1, _, rfl, rfl, Nat.zero_le _, rfl, rfl, Nat.zero_le _, Lib.hid (OwnR.nil _ _ _), HR1, HG1, Lib.hid (by simp), HBy, HRs⟩
    case round =>
      obtain ⟨j, last, acc, l2, sv, rfl, hkk, hj, rfl, rfl, hlm, HO, HRr, HGr, HLn, HB2, HE⟩ := hrel
      have HK := Lib.hid hkk
      clear hkk
      by_cases hlt : j < N
      · have hN2 := numberHi_any wr g 0 l2 (m - last) B HRr.out
        obtain ⟨⟨x, E2, l3⟩, hx⟩ : ∃ p, p = rNum 0 l2 (m - last) := ⟨_, rfl⟩
        rw [← hx] at hN2
        dsimp only at hN2
        have hxm : x ≤ m - last := by have := rNum_le 0 l2 (m - last); rw [← hx] at this; exact this
        have HX := Lib.hid hx.symm
        have HN2 : Hid (∀ z : Int, z = (m : Int) - (last : Int) → Calls Tryz.prog 48 #[.pointer (some ⟨g, 0, none⟩), .int .u64 z] wr fun e w' => e = .returned (.int .u64 (x : Int)) ∧ RdrHi w' 150 g E2 l3 B ∧ wr.grownBy w' (some g)) := by
          intro z hz
          rw [hz, show (m : Int) - (last : Int) = ((m - last : Nat) : Int) by omega]; exact hN2
        have HB3 : Hid (∀ z ∈ l3, z < 256) := Lib.hid (by have := rNum_bytes (E := 0) (most := m - last) HB2.out; rw [← hx] at this; exact this)
        have HL3 : Hid (E2 = 0 → l3.length < l2.length) := Lib.hid (by
          intro h0
          have := rNum_lt (l := l2) (most := m - last) HB2.out
          rw [← hx] at this
          exact this h0)
        clear hN2 hx
        have hxm2 : last + x ≤ m := by omega
        go_wp2_with fail
        refine (HN2.out _ (by omega)).mono ?_
        rintro e w2 ⟨rfl, hr2, hg2⟩
        have hN3 := numberHi_any w2 g E2 l3 (m - (last + x)) B hr2
        obtain ⟨⟨y, E3, l4⟩, hy⟩ : ∃ p, p = rNum E2 l3 (m - (last + x)) := ⟨_, rfl⟩
        rw [← hy] at hN3
        dsimp only at hN3
        have hym : y ≤ m - (last + x) := by have := rNum_le E2 l3 (m - (last + x)); rw [← hy] at this; exact this
        have HY := Lib.hid hy.symm
        have HN3 : Hid (∀ z : Int, z = (m : Int) - ((last : Int) + (x : Int)) → Calls Tryz.prog 48 #[.pointer (some ⟨g, 0, none⟩), .int .u64 z] w2 fun e w' => e = .returned (.int .u64 (y : Int)) ∧ RdrHi w' 150 g E3 l4 B ∧ w2.grownBy w' (some g)) := by
          intro z hz
          rw [hz, show (m : Int) - ((last : Int) + (x : Int)) = ((m - (last + x) : Nat) : Int) by omega]; exact hN3
        have HE23 : Hid (E3 = 0 → E2 = 0) := Lib.hid (by
          intro h0
          rcases Nat.eq_zero_or_pos E2 with h | h
          · exact h
          · have := rNum_err0 (E := E2) (l := l3) (most := m - (last + x)) (by omega)
            rw [← hy] at this
            simp only at this
            omega)
        have HB4 : Hid (∀ z ∈ l4, z < 256) := Lib.hid (by have := rNum_bytes (E := E2) (most := m - (last + x)) HB3.out; rw [← hy] at this; exact this)
        have HL4 : Hid (l4.length ≤ l3.length) := Lib.hid (by
          have h1 : (rNum E2 l3 (m - (last + x))).2.2.length ≤ l3.length := by
            unfold rNum
            split
            · exact Nat.le_refl _
            · split
              · exact Nat.le_refl _
              · split
                · exact Nat.le_refl _
                · simp
          rw [← hy] at h1
          exact h1)
        have HO2 := Lib.hid (HO.out.beside hg2 hgl)
        have HG2 := Lib.hid (HGr.out.trans hg2)
        clear hN3 hy hr2 hg2 HN2 HO HGr HRr
        have hym2 : last + x + y ≤ m := by omega
        go_wp2_with fail
        refine (HN3.out _ (by omega)).mono ?_
        rintro e w3 ⟨rfl, hr3, hg3⟩
        have HR3 := Lib.hid hr3
        have HO3 := Lib.hid (HO2.out.beside hg3 hgl)
        have HG3 := Lib.hid (HG2.out.trans hg3)
        clear hr3 hg3 HN3 HO2 HG2
        obtain ⟨q, hq⟩ : ∃ q, N - j = q + 1 := ⟨N - j - 1, by omega⟩
        have HQ := Lib.hid hq
        clear hq
        go_wp2_with fail
        refine (failed_any w3 g E3 l4 HR3.out.rdr).mono ?_
        rintro e w4 ⟨rfl, rfl⟩
        by_cases hE3 : E3 = 0
        · subst hE3
          have he2 : E2 = 0 := HE23.out rfl
          have hl3 := HL3.out he2
          have hlen : acc.length < 1000000 := by
            have h1 := HLn.out
            have h2 := HL0.out
            omega
          by_cases hform : y = 0 ∨ (0 < acc.length ∧ x = 0)
          · have HF : Hid (R = (3, [], 0, l4)) := Lib.hid (by rw [HE.out, HQ.out, rdRuns_form HX.out HY.out hform])
            obtain ⟨a1, c1, hv, _⟩ := HO3.out.rd
            subst hv
            rcases hform with rfl | ⟨ha, rfl⟩
            · go_wp2
              go_ret2
              rw [HF.out]
              exact ⟨_, rfl, OwnR.nil _ _ _, HR3.out, HG3.out⟩
            · by_cases hy0 : y = 0
              · subst hy0
                go_wp2
                go_ret2
                rw [HF.out]
                exact ⟨_, rfl, OwnR.nil _ _ _, HR3.out, HG3.out⟩
              · have hy1 : ((y : Int) == 0) = false := by simp; omega
                have ha' : (0 : Int) < (acc.length : Int) := by omega
                go_wp2
                go_ret2
                rw [HF.out]
                exact ⟨_, rfl, OwnR.nil _ _ _, HR3.out, HG3.out⟩
          · have HF : Hid (R = rdRuns m q (last + x + y) (acc ++ [⟨((last + x : Nat) : Int), ((last + x + y : Nat) : Int)⟩]) l4) := Lib.hid (by rw [HE.out, HQ.out, rdRuns_ok HX.out HY.out hform])
            have hy0 : y ≠ 0 := fun h => hform (.inl h)
            have hcase : acc.length = 0 ∨ (0 < acc.length ∧ x ≠ 0) := by
              rcases Nat.eq_zero_or_pos acc.length with h | h
              · exact .inl h
              · exact .inr ⟨h, fun h2 => hform (.inr ⟨h, h2⟩)⟩
            have hy1 : ((y : Int) == 0) = false := by simp; omega
            have HLE : Hid ((acc ++ [(⟨((last + x : Nat) : Int), ((last + x + y : Nat) : Int)⟩ : Rn)]).length + l4.length ≤ l1.length) := Lib.hid (by
              have h1 := HLn.out
              have h2 := HL4.out
              simp only [List.length_append, List.length_cons, List.length_nil]
              omega)
            have hBs : B ≤ w3.heap.size := by have h1 := HG3.out.size; have h2 := HB.out; omega
            obtain ⟨a1, c1, hv, _⟩ := HO3.out.rd
            subst hv
            obtain ⟨p, hp⟩ : ∃ p, p = last + x := ⟨_, rfl⟩
            obtain ⟨t, ht⟩ : ∃ t, t = last + x + y := ⟨_, rfl⟩
            have hp' : (last : Int) + (x : Int) = (p : Int) := by omega
            have ht' : (p : Int) + (y : Int) = (t : Int) := by omega
            have htm : t ≤ m := by omega
            rw [← ht] at HF HLE
            rw [← hp] at HF HLE
            have HHid := Lib.hid (And.intro hp ht)
            clear hform hp ht
            rcases hcase with hac | ⟨hac, hx0⟩
            · have ha0 : acc = [] := List.eq_nil_of_length_eq_zero hac
              subst ha0
              simp only [List.length_nil] at HO3 ⊢
              go_wp2_with (at_builtin; have _t := hy1; refine wpList_append_own_at _ rfl (.tmp 55) (.tmp 59) 59 rfl B 67 i0 _ 2 16 Tryz.underlying59 hi0 hz0 hz1 hz2 rfl (by omega) _ 0 (cR []) rfl (HO3.out.kept (Below.alloc0 _ _)) ⟨w3.heap.size, 0, none⟩ 1 1 (cR [⟨(p : Int), (t : Int)⟩]) rfl ?hlen (World.news_of_block (cs := #[.int .i64 (p : Int), .int .i64 (t : Int)]) (t := 67) (fr := (0, 0)) (heap_alloc_new w3 _)) ?one ?h63 ?hby ?hbase ?next)
              case hlen => rfl
              case one => exact cR_one _
              case h63 => unfold maxLen; omega
              case hbase => first | omega | (simp; omega)
              case next =>
                intro v' w' hown hg _ _
                have HO4 : Hid (OwnR w' B 67 v' ([] ++ [⟨(p : Int), (t : Int)⟩])) := Lib.hid (OwnR.of_append rfl hown)
                have hb4 : Below B w3 w' := ((Below.refl _ _).alloc hBs _).grown hg (by first | omega | (simp; omega)) (fun k hk => (World.ownsRow.lt HO3.out k hk).1)
                have HR4 := Lib.hid (HR3.out.below hb4)
                have HG4 := Lib.hid (grownBy_of_belowB HG3.out HB.out hb4)
                clear hown hg hb4
                go_wp2
                go_roundg (N - (j + 1))
                case measure => have := HK.out; omega
                case rel => exact ⟨j + 1, t, _, l4, v', rfl, rfl, by omega, by go_num, by go_num, htm, HO4, HR4, HG4, HLE, HB4, Lib.hid (by rw [HF.out, show N - (j + 1) = q by have := HQ.out; omega])⟩
            · have hx1 : ((p : Int) == (last : Int)) = false := by simp; omega
              have hac' : (0 : Int) < (acc.length : Int) := by omega
              go_wp2_with (at_builtin; have _t := hy1; refine wpList_append_own_at _ rfl (.tmp 55) (.tmp 59) 59 rfl B 67 i0 _ 2 16 Tryz.underlying59 hi0 hz0 hz1 hz2 rfl (by omega) _ acc.length (cR acc) rfl (HO3.out.kept (Below.alloc0 _ _)) ⟨w3.heap.size, 0, none⟩ 1 1 (cR [⟨(p : Int), (t : Int)⟩]) rfl ?hlen2 (World.news_of_block (cs := #[.int .i64 (p : Int), .int .i64 (t : Int)]) (t := 67) (fr := (0, 0)) (heap_alloc_new w3 _)) ?one2 ?h632 ?hby2 ?hbase2 ?next2)
              case hlen2 => rfl
              case one2 => exact cR_one _
              case h632 => unfold maxLen; omega
              case hby2 => omega
              case hbase2 => first | omega | (simp; omega)
              case next2 =>
                intro v' w' hown hg _ _
                have HO4 : Hid (OwnR w' B 67 v' (acc ++ [⟨(p : Int), (t : Int)⟩])) := Lib.hid (OwnR.of_append rfl hown)
                have hb4 : Below B w3 w' := ((Below.refl _ _).alloc hBs _).grown hg (by first | omega | (simp; omega)) (fun k hk => (World.ownsRow.lt HO3.out k hk).1)
                have HR4 := Lib.hid (HR3.out.below hb4)
                have HG4 := Lib.hid (grownBy_of_belowB HG3.out HB.out hb4)
                clear hown hg hb4
                go_wp2
                go_roundg (N - (j + 1))
                case measure => have := HK.out; omega
                case rel => exact ⟨j + 1, t, _, l4, v', rfl, rfl, by omega, by go_num, by go_num, htm, HO4, HR4, HG4, HLE, HB4, Lib.hid (by rw [HF.out, show N - (j + 1) = q by have := HQ.out; omega])⟩
        · have hE3' : ((E3 : Int) != 0) = true := by simp; omega
          have HF : Hid (R = (E3, [], E3, l4)) := Lib.hid (by rw [HE.out, HQ.out, rdRuns_err HX.out HY.out hE3])
          go_wp2
          go_ret2
          rw [HF.out]
          exact ⟨_, rfl, OwnR.nil _ _ _, HR3.out, HG3.out⟩
      · obtain rfl : j = N := by omega
        have HF : Hid (R = (0, acc, 0, l2)) := Lib.hid (by rw [HE.out, Nat.sub_self]; rfl)
        go_wp2_with fail
        refine (failed_any wr g 0 l2 HRr.out.rdr).mono ?_
        rintro e w2 ⟨rfl, rfl⟩
        go_wp2
        go_ret2
        rw [HF.out]
        exact ⟨_, rfl, HO.out, HRr.out, HGr.out⟩
  · have hN0 : N = 0 := by have := rNum_zero (E := E) (l := l) (most := m); rw [HN1.out] at this; exact this hE1
    subst hN0
    have HRs : Hid (R = (E1, [], E1, l1)) := Lib.hid (by rw [HR.out, rdSet_err HN1.out hE1])
    clear HR
    have hE1' : ((E1 : Int) != 0) = true := by simp; omega
    go_wp2
    go_loopg [6, 7, 17] 0 (fun k s la i wr => k = 0 ∧ s = .slice none 0 0 ∧ i = .int .u64 0 ∧ wr = w1)
    case atStart => exact ⟨rfl, rfl, rfl, rfl⟩
    case round =>
      obtain ⟨_, rfl, rfl, rfl⟩ := hrel
      go_wp2_with fail
      refine (failed_any wr g E1 l1 HR1.out.rdr).mono ?_
      rintro e w2 ⟨rfl, rfl⟩
      go_wp2
      go_ret2
      rw [HRs.out]
      exact ⟨_, rfl, OwnR.nil _ _ _, HR1.out, HG1.out⟩

end Go.Proofs.YtaijjogjohbheaaGreat

/- The bytes of a set are read as that set: plainly. No condition. -/
namespace Go.Proofs.YtaijjogjohbheaaGreat
open Go.RowKit
set_option maxRecDepth 100000

theorem rNum_put' (x : Nat) (r : List Nat) (most : Nat) (hx : x ≤ 18446744073709551615) (hm : x ≤ most) : rNum 0 (vEnc x ++ r) most = (x, 0, r) := by
  obtain ⟨h1, h2, h3⟩ := vRead (n := x) r (by omega)
  rw [rNum_ok h1 (by omega), h2, h3]
  simp

theorem rdRuns_put (m : Nat) (hm : m ≤ 1099511627776) (rest : List Nat) (L : List Rn) : ∀ (last : Nat) (acc : List Rn), (∀ r ∈ L, r.t ≤ m) → Canon ((last : Int) - 1) L → (0 < acc.length → Canon (last : Int) L) → rdRuns m L.length last acc ((numsGo (last : Int) L).flatMap vEnc ++ rest) = (0, acc ++ L, 0, rest) := by
  induction L with
  | nil => intro last acc _ _ _; simp [rdRuns, numsGo]
  | cons r L ih =>
    intro last acc hb hc hc2
    obtain ⟨h1, h2, h3⟩ := hc
    have hrt := hb r (by simp)
    obtain ⟨f, t⟩ := r
    simp only at h1 h2 h3 hrt
    obtain ⟨x, hx⟩ : ∃ x : Nat, x = (f - (last : Int)).toNat := ⟨_, rfl⟩
    obtain ⟨y, hy⟩ : ∃ y : Nat, y = (t - f).toNat := ⟨_, rfl⟩
    have hf : f = ((last + x : Nat) : Int) := by omega
    have ht : t = ((last + x + y : Nat) : Int) := by omega
    have e : (numsGo (last : Int) (⟨f, t⟩ :: L)).flatMap vEnc ++ rest = vEnc x ++ (vEnc y ++ ((numsGo ((last + x + y : Nat) : Int) L).flatMap vEnc ++ rest)) := by
      simp only [numsGo, List.flatMap_cons, ← hx, ← hy, List.append_assoc, ← ht]
    rw [e, List.length_cons]
    rw [rdRuns_ok (rNum_put' x _ (m - last) (by omega) (by omega)) (rNum_put' y _ (m - (last + x)) (by omega) (by omega)) (by
      rintro (h | ⟨h, h0⟩)
      · omega
      · have := (hc2 h).1
        simp only at this
        omega)]
    rw [ih (last + x + y) _ (fun r hr => hb r (by simp [hr])) (by rw [← ht]; exact h3.lower (by omega)) (fun _ => by rw [← ht]; exact h3)]
    rw [List.append_assoc, hf, ht]
    simp

theorem rdSet_put {m : Nat} (hm : m ≤ 1099511627776) {M : List Rn} (hM : Pos M) (hl : M.length ≤ m) (hb : ∀ r ∈ M, r.t ≤ m) : rdSet 0 ((setNums M).flatMap vEnc) m = (0, M, 0, []) := by
  unfold setNums
  rw [List.flatMap_cons, rdSet_ok (rNum_put' M.length _ m (by omega) hl)]
  have := rdRuns_put m hm [] M 0 [] hb (by have h : Canon (-1) M := hM; simpa using h) (by simp)
  simpa using this

end Go.Proofs.YtaijjogjohbheaaGreat
