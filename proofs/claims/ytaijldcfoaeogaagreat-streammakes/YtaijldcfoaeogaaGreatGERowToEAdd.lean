/- Rows of pairs of numbers (runs, steps) in memory: a slice that reads as them, a row of the call's own; over any world. -/
import Derived.Test.YtaijldcfoaeogaaGreatGMemToRcEq
import Derived.Test.YtaijldcfoaeogaaGreatGExtMathToExtScan
import Derived.Deep.DeepCutAuto
namespace Go.Proofs.YtaijldcfoaeogaaGreat
open Go.RowKit
set_option maxRecDepth 100000

theorem info_run : (Tryz.prog.info? 53).map (fun i => (i.zero, i.size, i.bytes)) = some (some (.agg #[.int .i64 0, .int .i64 0]), 2, 16) := by kernel_rfl
theorem info_step : (Tryz.prog.info? 158).map (fun i => (i.zero, i.size, i.bytes)) = some (some (.agg #[.int .i64 0, .int .i64 0]), 2, 16) := by kernel_rfl

def cR (L : List Rn) : List Value := L.flatMap fun r => [.int .i64 r.f, .int .i64 r.t]

theorem cR_append (A B : List Rn) : cR (A ++ B) = cR A ++ cR B := by simp [cR]

theorem cR_cons (r : Rn) (L : List Rn) : cR (r :: L) = .int .i64 r.f :: .int .i64 r.t :: cR L := by simp [cR]

theorem cR_length (L : List Rn) : (cR L).length = L.length * 2 := by
  induction L with
  | nil => rfl
  | cons d r ih => rw [cR_cons, List.length_cons, List.length_cons, List.length_cons, ih]; omega

theorem cR_get (L : List Rn) {j : Nat} (hj : j < L.length) : (cR L)[j * 2]? = some (.int .i64 (L.getD j default).f) ∧ (cR L)[j * 2 + 1]? = some (.int .i64 (L.getD j default).t) := by
  induction L generalizing j with
  | nil => simp at hj
  | cons d r ih =>
    cases j with
    | zero => rw [cR_cons]; simp
    | succ k =>
      have hk : k < r.length := by simpa using hj
      have h := ih hk
      have e1 : (k + 1) * 2 = k * 2 + 1 + 1 := by omega
      rw [cR_cons, e1]
      simpa using h

theorem cR_one (L : List Rn) : ∀ u ∈ cR L, u.oneCell' = true := by
  intro u hu
  simp only [cR, List.mem_flatMap] at hu
  obtain ⟨x, _, hx⟩ := hu
  simp only [List.mem_cons, List.not_mem_nil, or_false] at hx
  rcases hx with rfl | rfl <;> rfl

/-- The slice '.slice a n _' reads as the runs L. -/
def RdR (w : World) (a : Option Addr) (n : Nat) (L : List Rn) : Prop :=
  L.length = n ∧ (0 < n → ∃ b o, a = some ⟨b, o, none⟩ ∧ ∀ j, j < n → w.cell? ⟨b, o + j * 2, none⟩ = some (.int .i64 (L.getD j default).f) ∧ w.cell? ⟨b, o + j * 2 + 1, none⟩ = some (.int .i64 (L.getD j default).t))

theorem RdR.below {w w' : World} {a : Option Addr} {n B : Nat} {L : List Rn} (h : RdR w a n L) (hb : Below B w w') (hB : ∀ b o, a = some ⟨b, o, none⟩ → b < w.heap.size → b < B) : RdR w' a n L := by
  refine ⟨h.1, fun hn => ?_⟩
  obtain ⟨b, o, rfl, hc⟩ := h.2 hn
  refine ⟨b, o, rfl, fun j hj => ?_⟩
  have hlt : b < w.heap.size := World.block_lt_of_cell? w _ (hc j hj).1
  have hB' := hB b o rfl hlt
  exact ⟨(hb.cell (p := ⟨b, o + j * 2, none⟩) hB').trans (hc j hj).1, (hb.cell (p := ⟨b, o + j * 2 + 1, none⟩) hB').trans (hc j hj).2⟩

theorem RdR.later {w w' : World} {a : Option Addr} {n : Nat} {L : List Rn} (h : RdR w a n L) (hb : Below w.heap.size w w') : RdR w' a n L := h.below hb fun _ _ _ h => h

theorem RdR.nil (w : World) (a : Option Addr) : RdR w a 0 [] := ⟨rfl, by omega⟩

/-- The run at a place. -/
theorem RdR.at_ {w w' : World} {a : Option Addr} {n : Nat} {L : List Rn} (h : RdR w a n L) (hb : Below w.heap.size w w') {j : Nat} (hj : j < n) :
    ∃ b o r, a = some ⟨b, o, none⟩ ∧ r = L.getD j default ∧ b < w.heap.size ∧ w'.cell? ⟨b, o + j * 2, none⟩ = some (.int .i64 r.f) ∧ w'.cell? ⟨b, o + j * 2 + 1, none⟩ = some (.int .i64 r.t) := by
  have h0 := h.later hb
  obtain ⟨b, o, rfl, hc⟩ := h.2 (by omega)
  obtain ⟨b', o', he, hc'⟩ := h0.2 (by omega)
  injection he with he
  injection he with h1 h2
  subst h1
  subst h2
  exact ⟨b, o, _, rfl, rfl, World.block_lt_of_cell? w _ (hc j hj).1, (hc' j hj).1, (hc' j hj).2⟩

/-- The value v owns the runs L (elements of type T), in a block from 'base' on (or it is nil). -/
def OwnR (w : World) (base T : Nat) (v : Value) (L : List Rn) : Prop := w.ownsRow base T 2 v L.length (cR L)

theorem OwnR.rd {w : World} {base T : Nat} {v : Value} {L : List Rn} (h : OwnR w base T v L) : ∃ a c, v = .slice a L.length c ∧ RdR w a L.length L ∧ L.length ≤ c ∧ ∀ b o, a = some ⟨b, o, none⟩ → base ≤ b ∧ b < w.heap.size ∧ o = 0 := by
  have h1 := h
  rcases h.2 with ⟨rfl, hl⟩ | ⟨g, cap, cur, rfl, hbg, hgo, hnc, _⟩
  · have : L = [] := List.eq_nil_of_length_eq_zero hl
    subst this
    exact ⟨none, 0, rfl, RdR.nil _ _, Nat.le_refl _, by simp⟩
  · refine ⟨_, cap, rfl, ⟨rfl, fun _ => ⟨g, 0, rfl, fun j hj => ?_⟩⟩, hnc, ?_⟩
    · obtain ⟨k0, k1⟩ := cR_get L hj
      have e0 := h1.cells (g := g) rfl _ _ k0
      have e1 := h1.cells (g := g) rfl _ _ k1
      rw [add_plain] at e0 e1
      exact ⟨e0, by rw [Nat.add_assoc]; exact e1⟩
    · rintro b o e
      injection e with e
      injection e with e1 e2
      subst e1
      exact ⟨hbg, lt_of_block hgo, e2.symm⟩

theorem OwnR.nil (w : World) (base T : Nat) : OwnR w base T (.slice none 0 0) [] := World.ownsRow_nil w base T 2

theorem OwnR.kept {w w' : World} {base T : Nat} {v : Value} {L : List Rn} (h : OwnR w base T v L) (hb : Below w.heap.size w w') : OwnR w' base T v L :=
  World.ownsRow.kept h (row := none) ⟨hb.os, hb.tape, hb.output, hb.size, fun k hk _ => hb.block k hk⟩ (by
    cases hv : v.ownBlock with
    | none => exact .inl rfl
    | some k => exact .inr (by simp))

theorem OwnR.mono {w : World} {base base' T : Nat} {v : Value} {L : List Rn} (h : OwnR w base T v L) (hb : base' ≤ base) : OwnR w base' T v L := by
  refine ⟨h.1, ?_⟩
  rcases h.2 with h1 | ⟨g, cap, cur, hv, hbg, rest⟩
  · exact .inl h1
  · exact .inr ⟨g, cap, cur, hv, Nat.le_trans hb hbg, rest⟩

theorem OwnR.of_append {w : World} {base T m : Nat} {v : Value} {L M : List Rn} (hm : m = M.length) (h : w.ownsRow base T 2 v (L.length + m) (cR L ++ cR M)) : OwnR w base T v (L ++ M) := by
  unfold OwnR
  rw [cR_append, List.length_append, ← hm]
  exact h

theorem OwnR.base {w : World} {base T : Nat} {v : Value} {L : List Rn} (h : OwnR w base T v L) : ∀ k, v.ownBlock = some k → base ≤ k := fun k hk => (World.ownsRow.lt h k hk).1

/-- The block b holds the run r. -/
def BoxR (w : World) (b : Nat) (r : Rn) : Prop := w.cell? ⟨b, 0, none⟩ = some (.int .i64 r.f) ∧ w.cell? ⟨b, 1, none⟩ = some (.int .i64 r.t)

theorem BoxR.below {w w' : World} {b : Nat} {r : Rn} (h : BoxR w b r) (hb : Below w.heap.size w w') : BoxR w' b r :=
  have hlt : b < w.heap.size := World.block_lt_of_cell? w _ h.1
  ⟨(hb.cell (p := ⟨b, 0, none⟩) hlt).trans h.1, (hb.cell (p := ⟨b, 1, none⟩) hlt).trans h.2⟩

theorem BoxR.new (w : World) (x y : Int) (T : Nat) : BoxR (w.alloc (.cells #[.int .i64 x, .int .i64 y] T)) w.heap.size ⟨x, y⟩ := ⟨by simp [go_sem], by simp [go_sem]⟩

end Go.Proofs.YtaijldcfoaeogaaGreat

/- The contracts of a run's Len and of addSteps, over any world. -/
namespace Go.Proofs.YtaijldcfoaeogaaGreat
open Go.RowKit
set_option maxRecDepth 100000

/-- A run of numbers from -2^40 to 2^40. -/
def Rn.ok (r : Rn) : Prop := -1099511627776 ≤ r.f ∧ r.f ≤ 1099511627776 ∧ -1099511627776 ≤ r.t ∧ r.t ≤ 1099511627776

theorem runLen_no (x y : Int) (W : World) (h : y ≤ x) : Calls Tryz.prog 79 #[.agg #[.int .i64 x, .int .i64 y]] W fun e w' => e = .returned (.int .i64 0) ∧ w' = W.alloc (.cells #[.int .i64 x, .int .i64 y] 53) := by
  go_enter Tryz.func79, Tryz.ntmps79
  go_wp2
  go_ret
  exact ⟨rfl, rfl⟩

theorem runLen_yes (x y d : Int) (W : World) (h : x < y) (hr : Rn.ok ⟨x, y⟩) (hd : d = y - x) : Calls Tryz.prog 79 #[.agg #[.int .i64 x, .int .i64 y]] W fun e w' => e = .returned (.int .i64 d) ∧ w' = W.alloc (.cells #[.int .i64 x, .int .i64 y] 53) := by
  have hw : IntKind.i64.wrap (y - x) = d := by
    obtain ⟨h1, h2, h3, h4⟩ := hr
    simp only at h1 h2 h3 h4
    rw [IntKind.wrap_i64]; omega
  clear hr hd
  go_enter Tryz.func79, Tryz.ntmps79
  go_wp2
  go_ret
  exact ⟨rfl, rfl⟩

theorem takeR_succ {L : List Rn} {j : Nat} {r : Rn} (hj : j < L.length) (hr : r = L.getD j default) : L.take (j + 1) = L.take j ++ [r] := by
  rw [List.take_succ_eq_append_getElem hj, hr]; simp [List.getD, hj]

theorem stepsR_take (d : Int) {L : List Rn} {j : Nat} {r : Rn} (hj : j < L.length) (hr : r = L.getD j default) : stepsR d (L.take (j + 1)) = stepsR d (L.take j) ++ (if r.f < r.t then [⟨r.f, d⟩, ⟨r.t, -d⟩] else []) := by
  rw [takeR_succ hj hr, stepsR_snoc]

theorem getD_mem {L : List Rn} {j : Nat} (hj : j < L.length) : L.getD j default ∈ L := by
  have : L.getD j default = L[j] := by simp [List.getD, hj]
  rw [this]; exact List.getElem_mem hj

set_option maxHeartbeats 1000000 in
set_option maxRecDepth 100000 in
theorem addSteps_any (v : Value) (base : Nat) (S : List Rn) (d : Int) (hd : d = 1 ∨ d = -1) (a : Option Addr) (n c : Nat) (L : List Rn) (w : World) (h : OwnR w base 158 v S) (hbase : base ≤ w.heap.size) (hr : RdR w a n L) (hlo : ∀ b o, a = some ⟨b, o, none⟩ → 0 < n → b < w.heap.size → b < base) (hok : ∀ r ∈ L, r.ok) (hm : S.length + 2 * n ≤ 1000000) :
    Calls Tryz.prog 66 #[v, .int .i64 d, .slice a n c] w fun e w' => ∃ v', e = .returned v' ∧ OwnR w' base 158 v' (S ++ stepsR d L) ∧ Below base w w' := by
  obtain ⟨i0, hi0, hz0, hz1, hz2⟩ := info_parts info_step
  have HR := Lib.hid hr
  have HLo := Lib.hid hlo
  have HOk := Lib.hid hok
  clear hr hlo hok
  have hneg : IntKind.i64.wrap (-d) = -d := by rcases hd with rfl | rfl <;> rfl
  have HD := Lib.hid hd
  clear hd
  go_enter Tryz.func66, Tryz.ntmps66
  go_wp2
  go_loopg [0, 11] n (fun k s i wr => ∃ j, k = n - j ∧ j ≤ n ∧ i = .int .i64 (j : Int) ∧ OwnR wr base 158 s (S ++ stepsR d (L.take j)) ∧ Below base w wr)
  case atStart => exact ⟨0, rfl, Nat.zero_le _, rfl, by simpa [stepsR] using h, Below.refl _ _⟩
  case round =>
    obtain ⟨j, hk, hj, rfl, ho, hb⟩ := hrel
    have HK := Lib.hid hk
    have HO := Lib.hid ho
    have HB := Lib.hid hb
    clear hk ho hb
    by_cases hlt : j < n
    · have hrr : RdR wr a n L := HR.out.below HB.out fun b o e hb => HLo.out b o e (by omega) hb
      obtain ⟨b, o, r, rfl, hre, hbl, e0, e1⟩ := hrr.at_ (Below.refl _ _) hlt
      have hjl : j < L.length := by have := HR.out.1; omega
      have hst := stepsR_take d hjl hre
      have hrk : r.ok := by rw [hre]; exact HOk.out _ (getD_mem hjl)
      have hsl : (S ++ stepsR d (L.take j)).length ≤ S.length + 2 * j := by
        have := stepsR_len d (L.take j)
        rw [List.length_append]
        rw [List.length_take] at this
        omega
      have HSL := Lib.hid hsl
      have HST := Lib.hid hst
      have HRK := Lib.hid hrk
      obtain ⟨x, y⟩ := r
      simp only at e0 e1
      clear hst hrk hrr hre hjl hsl
      by_cases hxy : x < y
      · have hst : stepsR d (L.take (j + 1)) = stepsR d (L.take j) ++ [⟨x, d⟩, ⟨y, -d⟩] := by rw [HST.out, if_pos hxy]
        have HST2 := Lib.hid hst
        obtain ⟨q, hq⟩ : ∃ q, q = y - x := ⟨_, rfl⟩
        have hq0 : 0 < q := by omega
        have HQ := Lib.hid hq
        clear hst hq
        go_wp2_with fail
        refine (runLen_yes x y q _ hxy HRK.out HQ.out).mono ?_
        rintro e w2 ⟨rfl, hw2⟩
        have hb2 : Below wr.heap.size wr w2 := by rw [hw2]; exact (Below.alloc0 _ _).alloc (by simp) _
        have hbx : BoxR w2 wr.heap.size ⟨x, y⟩ := by rw [hw2]; exact (BoxR.new wr x y 53).below (Below.alloc0 _ _)
        obtain ⟨b0, b1⟩ := hbx
        simp only at b0 b1
        have hbr : base ≤ wr.heap.size := Nat.le_trans hbase HB.out.size
        have HO2 := Lib.hid (HO.out.kept hb2)
        have HB2 : Hid (Below base w w2) := Lib.hid (HB.out.trans (hb2.mono hbr))
        have hbr2 : base ≤ w2.heap.size := Nat.le_trans hbase HB2.out.size
        clear hw2 hb2 HO HB
        go_wp2_with (at_builtin; have _t := hlt; refine wpList_append_own_at _ rfl (.tmp 18) (.tmp 28) 139 rfl base 158 i0 _ 2 16 Tryz.underlying139 hi0 hz0 hz1 hz2 rfl (by omega) _ (S ++ stepsR d (L.take j)).length (cR (S ++ stepsR d (L.take j))) rfl (HO2.out.kept (Below.alloc0 _ _)) ⟨w2.heap.size, 0, none⟩ 2 2 (cR [⟨x, d⟩, ⟨y, -d⟩]) rfl ?hlen (World.news_of_block (cs := #[.int .i64 x, .int .i64 d, .int .i64 y, .int .i64 (-d)]) (t := 158) (fr := (0, 0)) (heap_alloc_new w2 _)) ?one ?h63 ?hby ?hbase ?next)
        case hlen => rfl
        case one => exact cR_one _
        case h63 => have := HSL.out; unfold maxLen; omega
        case hby => have := HSL.out; omega
        case hbase => simp; omega
        case next =>
          intro v' w' hown hg _ _
          have HO3 : Hid (OwnR w' base 158 v' (S ++ stepsR d (L.take (j + 1)))) := by
            refine Lib.hid ?_
            rw [HST2.out, ← List.append_assoc]
            rw [← List.length_append] at hown
            exact OwnR.of_append rfl hown
          have HB3 : Hid (Below base w w') := Lib.hid ((HB2.out.alloc hbr2 _).grown hg (by simp; omega) (fun k hk => (World.ownsRow.lt HO2.out k hk).1))
          clear hown hg
          go_wp2
          go_roundg (n - (j + 1))
          case measure => have := HK.out; omega
          case rel => exact ⟨j + 1, rfl, by omega, by go_num, HO3.out, HB3.out⟩
      · have hyx : y ≤ x := by omega
        have hst : stepsR d (L.take (j + 1)) = stepsR d (L.take j) := by rw [HST.out, if_neg hxy]; simp
        have HST2 := Lib.hid hst
        clear hst hxy
        go_wp2_with fail
        refine (runLen_no x y _ hyx).mono ?_
        rintro e w2 ⟨rfl, hw2⟩
        have hb2 : Below wr.heap.size wr w2 := by rw [hw2]; exact (Below.alloc0 _ _).alloc (by simp) _
        have hbr : base ≤ wr.heap.size := Nat.le_trans hbase HB.out.size
        have HO2 := Lib.hid (HO.out.kept hb2)
        have HB2 : Hid (Below base w w2) := Lib.hid (HB.out.trans (hb2.mono hbr))
        clear hw2 hb2 HO HB
        go_wp2
        go_roundg (n - (j + 1))
        case measure => have := HK.out; omega
        case rel => exact ⟨j + 1, rfl, by omega, by go_num, by rw [HST2.out]; exact HO2.out, HB2.out⟩
    · obtain rfl : j = n := by omega
      go_wp2
      go_ret
      refine ⟨_, rfl, ?_, HB.out⟩
      have h1 := HO.out
      rw [List.take_of_length_le (by have := HR.out.1; omega)] at h1
      exact h1

end Go.Proofs.YtaijldcfoaeogaaGreat
