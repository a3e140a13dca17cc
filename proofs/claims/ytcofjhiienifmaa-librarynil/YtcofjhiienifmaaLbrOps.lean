/- The contracts of a library's Slot (with slices.Index) and Load. -/
import Derived.Test.YtcofjhiienifmaaLbr
import Derived.LaidEqlPtr
namespace Go.Proofs.Ytcofjhiienifmaa
open Go.RowKit
set_option linter.unusedSimpArgs false

theorem infoT : (Try.prog.info? 70).map (fun i => i.size) = some 7 := by kernel_rfl

/-- Two pointers to tapes, compared. -/
theorem eql_tape {W : World} (x : Option Addr) (b : Nat) (hb : ∃ c ty, W.heap[b]? = some (.cells c ty (0, 0))) (hx : ∀ k, x = some k → ∃ a, k = ⟨a, 0, none⟩ ∧ ∃ c ty, W.heap[a]? = some (.cells c ty (0, 0))) :
    (binOp .eql 50 (.pointer x) (.pointer (some ⟨b, 0, none⟩))).run Try.prog W = .ok (.bool (decide (x = some ⟨b, 0, none⟩))) W := by
  obtain ⟨j, hj, hjs⟩ := Option.map_eq_some_iff.1 infoT
  obtain ⟨cb, tb, hb⟩ := hb
  cases x with
  | none =>
    have h : ∀ d : Nat, (Op.equalIn (d + 1) 50 (.pointer none) (.pointer (some ⟨b, 0, none⟩))).run Try.prog W = .ok false W := fun d => by
      simp [Op.equalIn, run_underlying Try.underlying50]
    simp only [binOp]
    simp [Op.equal, Op.maxDepth, h 9999]
  | some k =>
    obtain ⟨a, rfl, ca, ta, ha⟩ := hx k rfl
    by_cases e : a = b
    · subst e
      simpa using run_eql_ptr_same (P := Try.prog) W ⟨a, 0, none⟩ Try.underlying50 hj
    · have hne : (⟨a, 0, none⟩ : Addr) ≠ ⟨b, 0, none⟩ := fun h => e (by injection h)
      rw [run_eql_ptr_other (P := Try.prog) W Try.underlying50 hj (by rw [hjs]; decide) hne ha hb]
      simp [e]

theorem index_any (w : World) (a : Option Addr) (n c : Nat) (g : Nat → Nat) (x : Option Addr) (hc : 0 < n → ∃ b, a = some ⟨b, 0, none⟩ ∧ ∀ i, i < n → w.cell? ⟨b, i, none⟩ = some (.pointer (some ⟨g i, 0, none⟩))) (r : Int) (hr : (r = -1 ∧ x = none) ∨ ∃ i, i < n ∧ r = (i : Int) ∧ x = some ⟨g i, 0, none⟩ ∧ ∀ j, j < i → g j ≠ g i) (hn : n ≤ 64) (hob : ∀ i, i < n → ∃ c ty, w.heap[g i]? = some (.cells c ty (0, 0))) :
    Calls Try.prog 29 #[.slice a n c, .pointer x] w fun e w' => e = .returned (.int .i64 r) ∧ w' = w := by
  have HQ : Hid (∀ j, j < n → (binOp .eql 50 (.pointer x) (.pointer (some ⟨g j, 0, none⟩))).run Try.prog w = .ok (.bool (decide (x = some ⟨g j, 0, none⟩))) w) := by
    refine Lib.hid fun j hj => eql_tape x (g j) (hob j hj) ?_
    rintro k rfl
    rcases hr with ⟨_, h⟩ | ⟨i, hi, _, h2, _⟩
    · cases h
    · injection h2 with h2
      exact ⟨g i, h2, hob i hi⟩
  have HC := Lib.hid hc
  have HR := Lib.hid hr
  clear hc hr hob
  go_enter Try.func29, Try.ntmps29
  go_wp2
  go_loopg [8] n (fun gk i wr => ∃ j : Nat, gk = n - j ∧ j ≤ n ∧ i = .int .i64 (j : Int) ∧ wr = w ∧ Hid (∀ k, k < j → x ≠ some ⟨g k, 0, none⟩))
  case atStart => exact ⟨0, rfl, Nat.zero_le _, rfl, rfl, Lib.hid (by omega)⟩
  case round =>
    obtain ⟨j, hgk, hj, rfl, rfl, HI⟩ := hrel
    have HGK := Lib.hid hgk
    clear hgk
    by_cases hlt : j < n
    · obtain ⟨b, rfl, hc⟩ := HC.out (by omega)
      have hcj := hc j hlt
      clear hc
      have hq := HQ.out j hlt
      by_cases he : x = some ⟨g j, 0, none⟩
      · rw [decide_eq_true he] at hq
        have HE := Lib.hid he
        clear he
        go_wp2
        go_ret
        refine ⟨?_, rfl⟩
        rcases HR.out with ⟨_, h⟩ | ⟨i, hi, rfl, h2, h3⟩
        · rw [h] at HE
          exact absurd HE.out (by simp)
        · have e : g j = g i := by
            have := HE.out.symm.trans h2
            injection this with h2
            injection h2
          have : j = i := by
            rcases Nat.lt_trichotomy j i with h | h | h
            · exact absurd e (h3 j h)
            · exact h
            · exact absurd h2 (HI.out i h)
          rw [this]
          rfl
      · rw [decide_eq_false he] at hq
        have HE := Lib.hid he
        clear he
        go_wp2
        go_roundg (n - (j + 1))
        case measure => have := HGK.out; omega
        case rel =>
          refine ⟨j + 1, rfl, by omega, by go_num, rfl, Lib.hid fun k hk => ?_⟩
          rcases Nat.lt_or_ge k j with h | h
          · exact HI.out k h
          · have : k = j := by omega
            rw [this]
            exact HE.out
    · have e : j = n := by omega
      subst e
      go_wp2
      go_ret
      refine ⟨?_, rfl⟩
      rcases HR.out with ⟨h, _⟩ | ⟨i, hi, _, h2, _⟩
      · rw [h]
        rfl
      · exact absurd h2 (HI.out i hi)

section
variable {w : World} {gl gp : Nat} {s : Pw} {d : Option Nat} {n : Nat} {g : Nat → Nat} {t : Nat → Tst} {F : Nat → List Nat} {v : Value} {H : List Nat}

theorem Tap.block {gt : Nat} {tt : Tst} {K : List Nat} (h : Tap w gt gp s tt K) : ∃ c ty, w.heap[gt]? = some (.cells c ty (0, 0)) := by
  obtain ⟨v, X, bW, bR, h⟩ := h
  exact ⟨_, _, h.obj⟩

/-- The slot in the drive, as slices.Index has it. -/
def slotI (d : Option Nat) : Int := match d with | some i => (i : Int) | none => -1

theorem Lbr.index (h : Lbr w gl gp s d n g t F v H) : ∃ a c, v = .slice a n c ∧ Calls Try.prog 29 #[v, .pointer (drvA g d)] w fun e w' => e = .returned (.int .i64 (slotI d)) ∧ w' = w := by
  obtain ⟨a, c, rfl, _, hc⟩ := h.shape
  refine ⟨a, c, rfl, index_any w a n c g (drvA g d) hc (slotI d) ?_ h.le (fun i hi => (h.taps i hi).block)⟩
  cases d with
  | none => exact .inl ⟨rfl, rfl⟩
  | some i => exact .inr ⟨i, h.drv i rfl, rfl, rfl, fun j hj e => by have := h.inj (Nat.lt_trans hj (h.drv i rfl)) (h.drv i rfl) e; omega⟩

theorem slot_any (h : Lbr w gl gp s d n g t F v H) : Calls Try.prog 15 #[.pointer (some ⟨gl, 0, none⟩)] w fun e w' => e = .returned (.tuple #[.int .i64 ((d.getD 0 : Nat) : Int), .bool d.isSome]) ∧ ∃ m, w' = w.drewN m := by
  have HX : Hid (∀ m, Calls Try.prog 29 #[v, .pointer (drvA g d)] (w.drewN m) fun e w' => e = .returned (.int .i64 (slotI d)) ∧ w' = w.drewN m) := by
    refine Lib.hid fun m => ?_
    obtain ⟨a, c, _, hx⟩ := (h.drewN m).index
    exact hx
  obtain ⟨c0, c1, c2⟩ := h.cells
  obtain ⟨A, hA⟩ : ∃ A, A = drvA g d := ⟨_, rfl⟩
  obtain ⟨a, c, rfl, _, _⟩ := h.shape
  rw [← hA] at HX c0
  clear h hA
  cases d with
  | none =>
    have hx : slotI none = -1 := rfl
    rw [hx] at HX
    go_enter Try.func15, Try.ntmps15
    go_upto_region 3 with fail
    go_quiet ((go_at_call 29; exact Calls.quiet_of_same (HX.out _)))
    go_wp2
    go_ret2
    exact ⟨rfl, _, rfl⟩
  | some i =>
    have hx : slotI (some i) = (i : Int) := rfl
    rw [hx] at HX
    have hm : max (i : Int) 0 = (i : Int) := by omega
    have hd : decide ((0 : Int) ≤ (i : Int)) = true := by simp
    go_enter Try.func15, Try.ntmps15
    go_upto_region 3 with fail
    go_quiet ((go_at_call 29; exact Calls.quiet_of_same (HX.out _)))
    go_wp2
    go_ret2
    exact ⟨rfl, _, rfl⟩

end

theorem slot_nil (w : World) : Calls Try.prog 15 #[.pointer none] w fun e w' => e = .returned (.tuple #[.int .i64 0, .bool false]) ∧ w' = w := by
  go_enter Try.func15, Try.ntmps15
  go_wp2
  go_ret2
  exact ⟨rfl, rfl⟩

theorem load_nil (w : World) (z : Int) : Calls Try.prog 9 #[.pointer none, .int .i64 z] w fun e w' => e = .returned (.int .i64 1) ∧ w' = w := by
  go_enter Try.func9, Try.ntmps9
  go_wp2
  go_ret
  exact ⟨rfl, rfl⟩

section
variable {w : World} {gl gp : Nat} {s : Pw} {d : Option Nat} {n : Nat} {g : Nat → Nat} {t : Nat → Tst} {F : Nat → List Nat} {v : Value} {H : List Nat}

theorem load_no (h : Lbr w gl gp s d n g t F v H) (z : Int) (hz : z < 0 ∨ (n : Int) ≤ z) : Calls Try.prog 9 #[.pointer (some ⟨gl, 0, none⟩), .int .i64 z] w fun e w' => e = .returned (.int .i64 1) ∧ w' = w := by
  obtain ⟨c0, c1, c2⟩ := h.cells
  obtain ⟨a, c, rfl, _, _⟩ := h.shape
  clear h
  by_cases h0 : z < 0
  · clear hz
    go_enter Try.func9, Try.ntmps9
    go_wp2
    go_ret
    exact ⟨rfl, rfl⟩
  · have h1 : (n : Int) ≤ z := by omega
    have h0' : 0 ≤ z := by omega
    clear hz h0
    go_enter Try.func9, Try.ntmps9
    go_wp2
    go_ret
    exact ⟨rfl, rfl⟩

theorem upd_self {α : Type} (f : Nat → α) (i : Nat) : upd f i (f i) = f := by
  funext j
  unfold upd
  split
  · rename_i e
    rw [e]
  · rfl

/-- A tape laid at its beginning. -/
def Tst.rewound (x : Tst) : Tst := { x with pos := 0 }

theorem load_yes (h : Lbr w gl gp s d n g t F v H) (i : Nat) (hi : i < n) (ho : s.on = true) : Calls Try.prog 9 #[.pointer (some ⟨gl, 0, none⟩), .int .i64 (i : Int)] w fun e w' => e = .returned (.int .i64 0) ∧ Lbr w' gl gp s (some i) n g (upd t i (t i).rewound) F v H ∧ Save H w w' := by
  have HS : Hid (Calls Try.prog 20 #[.pointer (some ⟨g i, 0, none⟩), .int .i64 0] w fun e w' => e = .returned (.int .i64 0) ∧ (w'.cell? ⟨gl, 0, none⟩ = some (.pointer (drvA g d)) ∧ w'.frozen? ⟨gl, 0, none⟩ = false) ∧ Hid (Lbr w' gl gp s d n g (upd t i (t i).rewound) F v H ∧ Save H w w')) := by
    refine Lib.hid ((seek_any w (g i) gp s (t i) (F i) (h.taps i hi) 0).mono ?_)
    have e : Tst.seek s (t i) 0 = ((t i).rewound, 0) := by unfold Tst.seek; rw [if_neg (by omega), if_neg (by simp [ho])]; rfl
    rw [e]
    rintro e w' ⟨rfl, h1, h2⟩
    have h3 : Save H w w' := h2.mono fun k hk => (h.fit i hi k hk).1
    have h4 := h.tape hi h1 h2 (fun k hk _ => hk) (fun k hk => .inl hk) (H' := H) (fun k hk _ => hk) (fun k hk => (h.fit i hi k hk).1) (fun k hk => .inl hk)
    rw [upd_self F] at h4
    exact ⟨rfl, ⟨h4.cells.1, h4.soft 0⟩, Lib.hid ⟨h4, h3⟩⟩
  obtain ⟨c0, c1, c2⟩ := h.cells
  obtain ⟨a, c, rfl, _, hc⟩ := h.shape
  obtain ⟨b, rfl, hc1⟩ := hc (by omega)
  have hci := hc1 i hi
  have HH := Lib.hid (And.intro h.le (And.intro h.fo hi))
  clear h hc hc1 ho
  go_enter Try.func9, Try.ntmps9
  go_wp2_with fail
  refine HS.out.mono ?_
  rintro e w1 ⟨rfl, ⟨k0, k1⟩, H1⟩
  clear c0 c1 c2 hci HS
  go_wp2
  go_ret
  have e : w1.setCell ⟨gl, 0, none⟩ (.pointer (some ⟨g i, 0, none⟩)) = put w1 gl (libObj (drvA g (some i)) gp (.slice (some ⟨b, 0, none⟩) n c)) := set_put _ H1.out.1.obj
  refine ⟨rfl, ?_, H1.out.2.trans ((Save.set w1 gl 0 _).mono (fun k hk => by simp only [List.mem_singleton] at hk; rw [hk]; exact HH.out.2.1))⟩
  rw [e]
  exact H1.out.1.setDrv (some i) (by intro j e; injection e with e; rw [← e]; exact HH.out.2.2)

theorem load_down (h : Lbr w gl gp s d n g t F v H) (i : Nat) (hi : i < n) (ho : s.on = false) : Calls Try.prog 9 #[.pointer (some ⟨gl, 0, none⟩), .int .i64 (i : Int)] w fun e w' => e = .returned (.int .i64 11) ∧ Lbr w' gl gp s d n g t F v H ∧ Save H w w' := by
  have HS : Hid (Calls Try.prog 20 #[.pointer (some ⟨g i, 0, none⟩), .int .i64 0] w fun e w' => e = .returned (.int .i64 11) ∧ Hid (Lbr w' gl gp s d n g t F v H ∧ Save H w w')) := by
    refine Lib.hid ((seek_any w (g i) gp s (t i) (F i) (h.taps i hi) 0).mono ?_)
    have e : Tst.seek s (t i) 0 = (t i, 11) := by unfold Tst.seek; rw [if_neg (by omega), if_pos ho]
    rw [e]
    rintro e w' ⟨rfl, h1, h2⟩
    have h3 : Save H w w' := h2.mono fun k hk => (h.fit i hi k hk).1
    have h4 := h.tape hi h1 h2 (fun k hk _ => hk) (fun k hk => .inl hk) (H' := H) (fun k hk _ => hk) (fun k hk => (h.fit i hi k hk).1) (fun k hk => .inl hk)
    rw [upd_self F, upd_self t] at h4
    exact ⟨rfl, Lib.hid ⟨h4, h3⟩⟩
  obtain ⟨c0, c1, c2⟩ := h.cells
  obtain ⟨a, c, rfl, _, hc⟩ := h.shape
  obtain ⟨b, rfl, hc1⟩ := hc (by omega)
  have hci := hc1 i hi
  have HH := Lib.hid h.le
  clear h hc hc1 ho
  go_enter Try.func9, Try.ntmps9
  go_wp2_with fail
  refine HS.out.mono ?_
  rintro e w1 ⟨rfl, H1⟩
  clear c0 c1 c2 hci HS
  go_wp2
  go_ret
  exact ⟨rfl, H1.out.1, H1.out.2⟩

end

end Go.Proofs.Ytcofjhiienifmaa
