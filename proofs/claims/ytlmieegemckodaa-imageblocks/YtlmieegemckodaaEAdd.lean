/- The contracts of a run's Len and of addSteps, over any world. -/
import Derived.Test.YtlmieegemckodaaERow
import Derived.Deep.DeepCutAuto
namespace Go.Proofs.Ytlmieegemckodaa
open Go.RowKit

/-- A run of numbers from -2^40 to 2^40. -/
def Rn.ok (r : Rn) : Prop := -1099511627776 ≤ r.f ∧ r.f ≤ 1099511627776 ∧ -1099511627776 ≤ r.t ∧ r.t ≤ 1099511627776

theorem runLen_no (x y : Int) (W : World) (h : y ≤ x) : Calls Try.prog 54 #[.agg #[.int .i64 x, .int .i64 y]] W fun e w' => e = .returned (.int .i64 0) ∧ w' = W.alloc (.cells #[.int .i64 x, .int .i64 y] 95) := by
  go_enter Try.func54, Try.ntmps54
  go_wp2
  go_ret
  exact ⟨rfl, rfl⟩

theorem runLen_yes (x y d : Int) (W : World) (h : x < y) (hr : Rn.ok ⟨x, y⟩) (hd : d = y - x) : Calls Try.prog 54 #[.agg #[.int .i64 x, .int .i64 y]] W fun e w' => e = .returned (.int .i64 d) ∧ w' = W.alloc (.cells #[.int .i64 x, .int .i64 y] 95) := by
  have hw : IntKind.i64.wrap (y - x) = d := by
    obtain ⟨h1, h2, h3, h4⟩ := hr
    simp only at h1 h2 h3 h4
    rw [IntKind.wrap_i64]; omega
  clear hr hd
  go_enter Try.func54, Try.ntmps54
  go_wp2
  go_ret
  exact ⟨rfl, rfl⟩

theorem takeR_succ {L : List Rn} {j : Nat} {r : Rn} (hj : j < L.length) (hr : r = L.getD j default) : L.take (j + 1) = L.take j ++ [r] := by
  rw [List.take_succ_eq_append_getElem hj, hr]; simp [List.getD, hj]

theorem stepsR_take (d : Int) {L : List Rn} {j : Nat} {r : Rn} (hj : j < L.length) (hr : r = L.getD j default) : stepsR d (L.take (j + 1)) = stepsR d (L.take j) ++ (if r.f < r.t then [⟨r.f, d⟩, ⟨r.t, -d⟩] else []) := by
  rw [takeR_succ hj hr, stepsR_snoc]

theorem getD_mem {L : List Rn} {j : Nat} (hj : j < L.length) : L.getD j default ∈ L := by
  have : L.getD j default = L[j] := by simp [List.getD, hj]
  rw [this]; exact List.getElem_mem hj

set_option maxHeartbeats 1000000 in
set_option maxRecDepth 100000 in
theorem addSteps_any (v : Value) (base : Nat) (S : List Rn) (d : Int) (hd : d = 1 ∨ d = -1) (a : Option Addr) (n c : Nat) (L : List Rn) (w : World) (h : OwnR w base 129 v S) (hbase : base ≤ w.heap.size) (hr : RdR w a n L) (hlo : ∀ b o, a = some ⟨b, o, none⟩ → 0 < n → b < w.heap.size → b < base) (hok : ∀ r ∈ L, r.ok) (hm : S.length + 2 * n ≤ 1000000) :
    Calls Try.prog 69 #[v, .int .i64 d, .slice a n c] w fun e w' => ∃ v', e = .returned v' ∧ OwnR w' base 129 v' (S ++ stepsR d L) ∧ Below base w w' := by
  obtain ⟨i0, hi0, hz0, hz1, hz2⟩ := info_parts info_step
  have HR := Lib.hid hr
  have HLo := Lib.hid hlo
  have HOk := Lib.hid hok
  clear hr hlo hok
  have hneg : IntKind.i64.wrap (-d) = -d := by rcases hd with rfl | rfl <;> rfl
  have HD := Lib.hid hd
  clear hd
  go_enter Try.func69, Try.ntmps69
  go_wp2
  go_loopg [0, 11] n (fun k s i wr => ∃ j, k = n - j ∧ j ≤ n ∧ i = .int .i64 (j : Int) ∧ OwnR wr base 129 s (S ++ stepsR d (L.take j)) ∧ Below base w wr)
  case atStart => exact ⟨0, rfl, Nat.zero_le _, rfl, by simpa [stepsR] using h, Below.refl _ _⟩
  case round =>
    obtain ⟨j, hk, hj, rfl, ho, hb⟩ := hrel
    have HK := Lib.hid hk
    have HO := Lib.hid ho
    have HB := Lib.hid hb
    clear hk ho hb
    by_cases hlt : j < n
    · have hrr : RdR wr a n L := HR.out.below HB.out fun b o e hb => HLo.out b o e (by omega) hb
      obtain ⟨b, o, r, rfl, hre, hbl, e0, e1⟩ := hrr.at_ (Below.refl _ _) hlt
      have hjl : j < L.length := by have := HR.out.1; omega
      have hst := stepsR_take d hjl hre
      have hrk : r.ok := by rw [hre]; exact HOk.out _ (getD_mem hjl)
      have hsl : (S ++ stepsR d (L.take j)).length ≤ S.length + 2 * j := by
        have := stepsR_len d (L.take j)
        rw [List.length_append]
        rw [List.length_take] at this
        omega
      have HSL := Lib.hid hsl
      have HST := Lib.hid hst
      have HRK := Lib.hid hrk
      obtain ⟨x, y⟩ := r
      simp only at e0 e1
      clear hst hrk hrr hre hjl hsl
      by_cases hxy : x < y
      · have hst : stepsR d (L.take (j + 1)) = stepsR d (L.take j) ++ [⟨x, d⟩, ⟨y, -d⟩] := by rw [HST.out, if_pos hxy]
        have HST2 := Lib.hid hst
        obtain ⟨q, hq⟩ : ∃ q, q = y - x := ⟨_, rfl⟩
        have hq0 : 0 < q := by omega
        have HQ := Lib.hid hq
        clear hst hq
        go_wp2_with fail
        refine (runLen_yes x y q _ hxy HRK.out HQ.out).mono ?_
        rintro e w2 ⟨rfl, hw2⟩
        have hb2 : Below wr.heap.size wr w2 := by rw [hw2]; exact (Below.alloc0 _ _).alloc (by simp) _
        have hbx : BoxR w2 wr.heap.size ⟨x, y⟩ := by rw [hw2]; exact (BoxR.new wr x y 95).below (Below.alloc0 _ _)
        obtain ⟨b0, b1⟩ := hbx
        simp only at b0 b1
        have hbr : base ≤ wr.heap.size := Nat.le_trans hbase HB.out.size
        have HO2 := Lib.hid (HO.out.kept hb2)
        have HB2 : Hid (Below base w w2) := Lib.hid (HB.out.trans (hb2.mono hbr))
        have hbr2 : base ≤ w2.heap.size := Nat.le_trans hbase HB2.out.size
        clear hw2 hb2 HO HB
        go_wp2_with (at_builtin; have _t := hlt; refine wpList_append_own_at _ rfl (.tmp 18) (.tmp 28) 120 rfl base 129 i0 _ 2 16 Try.underlying120 hi0 hz0 hz1 hz2 rfl (by omega) _ (S ++ stepsR d (L.take j)).length (cR (S ++ stepsR d (L.take j))) rfl (HO2.out.kept (Below.alloc0 _ _)) ⟨w2.heap.size, 0, none⟩ 2 2 (cR [⟨x, d⟩, ⟨y, -d⟩]) rfl ?hlen (World.news_of_block (cs := #[.int .i64 x, .int .i64 d, .int .i64 y, .int .i64 (-d)]) (t := 129) (fr := (0, 0)) (heap_alloc_new w2 _)) ?one ?h63 ?hby ?hbase ?next)
        case hlen => rfl
        case one => exact cR_one _
        case h63 => have := HSL.out; unfold maxLen; omega
        case hby => have := HSL.out; omega
        case hbase => simp; omega
        case next =>
          intro v' w' hown hg _ _
          have HO3 : Hid (OwnR w' base 129 v' (S ++ stepsR d (L.take (j + 1)))) := by
            refine Lib.hid ?_
            rw [HST2.out, ← List.append_assoc]
            rw [← List.length_append] at hown
            exact OwnR.of_append rfl hown
          have HB3 : Hid (Below base w w') := Lib.hid ((HB2.out.alloc hbr2 _).grown hg (by simp; omega) (fun k hk => (World.ownsRow.lt HO2.out k hk).1))
          clear hown hg
          go_wp2
          go_roundg (n - (j + 1))
          case measure => have := HK.out; omega
          case rel => exact ⟨j + 1, rfl, by omega, by go_num, HO3.out, HB3.out⟩
      · have hyx : y ≤ x := by omega
        have hst : stepsR d (L.take (j + 1)) = stepsR d (L.take j) := by rw [HST.out, if_neg hxy]; simp
        have HST2 := Lib.hid hst
        clear hst hxy
        go_wp2_with fail
        refine (runLen_no x y _ hyx).mono ?_
        rintro e w2 ⟨rfl, hw2⟩
        have hb2 : Below wr.heap.size wr w2 := by rw [hw2]; exact (Below.alloc0 _ _).alloc (by simp) _
        have hbr : base ≤ wr.heap.size := Nat.le_trans hbase HB.out.size
        have HO2 := Lib.hid (HO.out.kept hb2)
        have HB2 : Hid (Below base w w2) := Lib.hid (HB.out.trans (hb2.mono hbr))
        clear hw2 hb2 HO HB
        go_wp2
        go_roundg (n - (j + 1))
        case measure => have := HK.out; omega
        case rel => exact ⟨j + 1, rfl, by omega, by go_num, by rw [HST2.out]; exact HO2.out, HB2.out⟩
    · obtain rfl : j = n := by omega
      go_wp2
      go_ret
      refine ⟨_, rfl, ?_, HB.out⟩
      have h1 := HO.out
      rw [List.take_of_length_le (by have := HR.out.1; omega)] at h1
      exact h1

end Go.Proofs.Ytlmieegemckodaa
