/- The contracts of the document's own Same (revenantref08) and of the statement's same, over any world. -/
import Derived.Test.YtfmaapojlbheaaaESame
namespace Go.Proofs.Ytfmaapojlbheaaa
open Go.RowKit

theorem neq_ref (x y x' y' : Int) (w : World) : (binOp .neq 39 (.agg #[.int .i64 x, .int .i64 y]) (.agg #[.int .i64 x', .int .i64 y'])).run Try.prog w = .ok (.bool !(decide (x = x') && decide (y = y'))) w := by
  have u3 := Try.underlying3
  have a3 := Try.isAgg3
  have z3 := Try.sizeOf3
  have hS : Try.prog.underlying 39 = some (.struct (Try.prog.fieldsOf 39)) := by kernel_rfl
  have hp : Try.prog.stoodInHeld 39 = false := by kernel_rfl
  rw [run_neq_struct, show (10000 : Nat) = 9999 + 1 from rfl, run_equalIn_agg w 9999 39 _ _ hS hp]
  simp only [Program.fieldsOf, Try.underlying39]
  go_simp
  by_cases h1 : x = x' <;> by_cases h2 : y = y' <;> simp [h1, h2]

set_option maxHeartbeats 1000000 in
theorem refSame_any (a b : Option Addr) (n ca cb : Nat) (R : List Rn) (w : World) (ha : RdR w a n R) (hb : RdR w b n R) (hn : n ≤ 1000000) :
    Calls Try.prog 28 #[.slice a n ca, .slice b n cb] w fun e w' => e = .returned (.bool true) ∧ Below w.heap.size w w' := by
  have HA := Lib.hid ha
  have HC := Lib.hid hb
  clear ha hb
  go_enter Try.func28, Try.ntmps28
  go_wp2
  go_loopg [5] n (fun k i wr => ∃ j : Nat, k = n - j ∧ j ≤ n ∧ i = .int .i64 (j : Int) ∧ Hid (Below w.heap.size w wr))
  case atStart => exact ⟨0, rfl, Nat.zero_le _, rfl, Lib.hid (Below.refl _ _)⟩
  case round =>
    obtain ⟨j, hk, hj, rfl, HB⟩ := hrel
    have HK := Lib.hid hk
    clear hk
    by_cases hlt : j < n
    · obtain ⟨b1, o1, r1, he1, hre1, _, f0, f1⟩ := HA.out.at_ HB.out hlt
      obtain ⟨b2, o2, r2, he2, hre2, _, g0, g1⟩ := HC.out.at_ HB.out hlt
      have hrr : r2 = r1 := by rw [hre1, hre2]
      subst hrr
      subst he1
      subst he2
      obtain ⟨x, y⟩ := r2
      simp only at f0 f1 g0 g1
      have hne : ∀ W : World, (binOp .neq 39 (.agg #[.int .i64 x, .int .i64 y]) (.agg #[.int .i64 x, .int .i64 y])).run Try.prog W = .ok (.bool false) W := fun W => by
        rw [neq_ref]; simp
      clear hre1 hre2
      go_wp2_with fail
      go_quiet (fail)
      go_wp2
      go_roundg (n - (j + 1))
      case measure => have := HK.out; omega
      case rel => exact ⟨j + 1, rfl, by omega, by go_num, Lib.hid (HB.out.trans ⟨rfl, rfl, rfl, Nat.le_refl _, fun _ _ => rfl⟩)⟩
    · go_wp2
      go_ret
      exact ⟨rfl, HB.out⟩

/-- A set whose numbers are those that are told. -/
def Told (M : List Rn) (Q : Nat → Bool) : Prop := IsSet M ∧ ∀ z, inR M z ↔ ∃ k : Nat, k < 601 ∧ Q k = true ∧ z = -300 + (k : Int)

theorem Told.runs {M R : List Rn} {Q : Nat → Bool} (h : Told M Q) (hu : Up (-300) Q 601 R) : R = M :=
  IsSet.unique ⟨_, hu.can⟩ h.1 fun z => by rw [hu.mem z, h.2 z]

set_option maxHeartbeats 1000000 in
set_option maxRecDepth 100000 in
theorem same_any (a : Option Addr) (n c g : Nat) (M : List Rn) (Q : Nat → Bool) (w : World) (h : RdR w a n M) (hn : n ≤ 10000) (hb : Bl w g 601 Q) (ht : Told M Q) :
    Calls Try.prog 12 #[.slice a n c, .slice (some ⟨g, 0, none⟩) 601 601] w fun e w' => e = .returned (.bool true) ∧ Below w.heap.size w w' := by
  obtain ⟨i0, hi0, hz0, hz1, hz2⟩ := info_parts info_ref0
  have HR := Lib.hid h
  have HBl := Lib.hid hb
  have HT := Lib.hid ht
  clear h hb ht
  go_enter Try.func12, Try.ntmps12
  go_wp2
  go_loopg [5, 10] n (fun k s i wr => ∃ (j : Nat) (sv : Value), sv = s ∧ k = n - j ∧ j ≤ n ∧ i = .int .i64 (j : Int) ∧ Hid (OwnR wr w.heap.size 39 sv (M.take j)) ∧ Hid (Below w.heap.size w wr))
  case atStart => exact ⟨0, _, rfl, rfl, Nat.zero_le _, rfl, Lib.hid (by simpa using OwnR.nil _ _ _), Lib.hid (Below.refl _ _)⟩
  case round =>
    obtain ⟨j, sv, rfl, hk, hj, rfl, HO, HB⟩ := hrel
    have HK := Lib.hid hk
    clear hk
    by_cases hlt : j < n
    · obtain ⟨b, o, r, rfl, hre, hbl, e0, e1⟩ := HR.out.at_ HB.out hlt
      have hjl : j < M.length := by have := HR.out.1; omega
      have hst := takeR_succ hjl hre
      obtain ⟨x, y⟩ := r
      simp only at e0 e1
      have HST := Lib.hid hst
      obtain ⟨A, hA⟩ : ∃ A, A = M.take j := ⟨_, rfl⟩
      rw [← hA] at HO HST
      have hAl : A.length ≤ 10000 := by rw [hA, List.length_take]; omega
      have hbr : w.heap.size ≤ wr.heap.size := HB.out.size
      clear hst hre hjl hA
      go_wp2_with (at_builtin; have _t := hlt; refine wpList_append_own_at _ rfl (.tmp 14) (.tmp 20) 35 rfl w.heap.size 39 i0 _ 2 16 Try.underlying35 hi0 hz0 hz1 hz2 rfl (by omega) sv A.length (cR A) rfl (HO.out.kept ((Below.alloc0 _ _).alloc (by simp) _)) ⟨wr.heap.size + 1, 0, none⟩ 1 1 (cR [⟨x, y⟩]) rfl ?hlen (World.news_of_block (cs := #[.int .i64 x, .int .i64 y]) (t := 39) (fr := (0, 0)) (heap_alloc2 wr _ _)) ?one ?h63 ?hby ?hbase ?next)
      case hlen => rfl
      case one => exact cR_one _
      case h63 => unfold maxLen; omega
      case hby => omega
      case hbase => simp; omega
      case next =>
        intro v' w' hown hg _ _
        have HO3 : Hid (OwnR w' w.heap.size 39 v' (A ++ [⟨x, y⟩])) := Lib.hid (OwnR.of_append rfl hown)
        have HB3 : Hid (Below w.heap.size w w') := Lib.hid (((HB.out.alloc hbr _).alloc (by simp; omega) _).grown hg (by simp; omega) (fun k hk => (World.ownsRow.lt HO.out k hk).1))
        clear hown hg
        go_wp2
        go_roundg (n - (j + 1))
        case measure => have := HK.out; omega
        case rel => exact ⟨j + 1, v', rfl, rfl, by omega, by go_num, Lib.hid (by rw [HST.out]; exact HO3.out), HB3⟩
    · obtain rfl : j = n := by omega
      have h1 := HO.out
      rw [List.take_of_length_le (by have := HR.out.1; omega)] at h1
      obtain ⟨a', c', hv, hr, _, hlo⟩ := h1.rd
      rw [HR.out.1] at hv hr
      subst hv
      have HR2 := Lib.hid hr
      clear h1 hr hlo HO
      go_wp2_with fail
      refine (refRuns_any g Q wr (HBl.out.later HB.out)).mono ?_
      rintro e w2 ⟨v, R, rfl, ho, hu, hb2⟩
      have hRM := HT.out.runs hu
      subst hRM
      obtain ⟨a2, c2, hv, hr2, _, hlo⟩ := ho.rd
      rw [HR.out.1] at hv hr2
      subst hv
      have HR3 := Lib.hid hr2
      have HR4 := Lib.hid (HR2.out.later hb2)
      have HB2 : Hid (Below w.heap.size w w2) := Lib.hid (HB.out.trans (hb2.mono HB.out.size))
      clear ho hu hb2 hr2 hlo
      go_wp2_with fail
      refine (refSame_any a' a2 j c' c2 R w2 HR4.out HR3.out (by omega)).mono ?_
      rintro e w3 ⟨rfl, hb3⟩
      have HB3 : Hid (Below w.heap.size w w3) := Lib.hid (HB2.out.trans (hb3.mono HB2.out.size))
      clear hb3
      go_wp2
      go_ret
      exact ⟨rfl, HB3.out⟩

end Go.Proofs.Ytfmaapojlbheaaa
