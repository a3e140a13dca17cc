/- The contracts of a library's Slot (with slices.Index) and Load. -/
import Derived.Test.YtcmbnijjkpfhlaaLbr
import Derived.LaidEqlPtr
namespace Go.Proofs.Ytcmbnijjkpfhlaa
open Go.RowKit
set_option linter.unusedSimpArgs false

theorem infoT : (Try.prog.info? 72).map (fun i => i.size) = some 7 := by kernel_rfl

/-- Two pointers to tapes, compared. -/
theorem eql_tape {W : World} (x : Option Addr) (b : Nat) (hb : ∃ c ty, W.heap[b]? = some (.cells c ty (0, 0))) (hx : ∀ k, x = some k → ∃ a, k = ⟨a, 0, none⟩ ∧ ∃ c ty, W.heap[a]? = some (.cells c ty (0, 0))) :
    (binOp .eql 65 (.pointer x) (.pointer (some ⟨b, 0, none⟩))).run Try.prog W = .ok (.bool (decide (x = some ⟨b, 0, none⟩))) W := by
  obtain ⟨j, hj, hjs⟩ := Option.map_eq_some_iff.1 infoT
  obtain ⟨cb, tb, hb⟩ := hb
  cases x with
  | none =>
    have h : ∀ d : Nat, (Op.equalIn (d + 1) 65 (.pointer none) (.pointer (some ⟨b, 0, none⟩))).run Try.prog W = .ok false W := fun d => by
      simp [Op.equalIn, run_underlying Try.underlying65]
    simp only [binOp]
    simp [Op.equal, Op.maxDepth, h 9999]
  | some k =>
    obtain ⟨a, rfl, ca, ta, ha⟩ := hx k rfl
    by_cases e : a = b
    · subst e
      simpa using run_eql_ptr_same (P := Try.prog) W ⟨a, 0, none⟩ Try.underlying65 hj
    · have hne : (⟨a, 0, none⟩ : Addr) ≠ ⟨b, 0, none⟩ := fun h => e (by injection h)
      rw [run_eql_ptr_other (P := Try.prog) W Try.underlying65 hj (by rw [hjs]; decide) hne ha hb]
      simp [e]

section
variable {w : World} {gl gp : Nat} {s : Pw} {d : Option Nat} {n : Nat} {g : Nat → Nat} {t : Nat → Tst} {F : Nat → List Nat} {v : Value} {H : List Nat}

theorem Tap.block {gt : Nat} {tt : Tst} {K : List Nat} (h : Tap w gt gp s tt K) : ∃ c ty, w.heap[gt]? = some (.cells c ty (0, 0)) := by
  obtain ⟨v, X, bW, bR, h⟩ := h
  exact ⟨_, _, h.obj⟩

/-- The slot in the drive, as slices.Index has it. -/
def slotI (d : Option Nat) : Int := match d with | some i => (i : Int) | none => -1

end

theorem load_nil (w : World) (z : Int) : Calls Try.prog 20 #[.pointer none, .int .i64 z] w fun e w' => e = .returned (.int .i64 1) ∧ w' = w := by
  go_enter Try.func20, Try.ntmps20
  go_wp2
  go_ret
  exact ⟨rfl, rfl⟩

section
variable {w : World} {gl gp : Nat} {s : Pw} {d : Option Nat} {n : Nat} {g : Nat → Nat} {t : Nat → Tst} {F : Nat → List Nat} {v : Value} {H : List Nat}

theorem load_no (h : Lbr w gl gp s d n g t F v H) (z : Int) (hz : z < 0 ∨ (n : Int) ≤ z) : Calls Try.prog 20 #[.pointer (some ⟨gl, 0, none⟩), .int .i64 z] w fun e w' => e = .returned (.int .i64 1) ∧ w' = w := by
  obtain ⟨c0, c1, c2⟩ := h.cells
  obtain ⟨a, c, rfl, _, _⟩ := h.shape
  clear h
  by_cases h0 : z < 0
  · clear hz
    go_enter Try.func20, Try.ntmps20
    go_wp2
    go_ret
    exact ⟨rfl, rfl⟩
  · have h1 : (n : Int) ≤ z := by omega
    have h0' : 0 ≤ z := by omega
    clear hz h0
    go_enter Try.func20, Try.ntmps20
    go_wp2
    go_ret
    exact ⟨rfl, rfl⟩

theorem upd_self {α : Type} (f : Nat → α) (i : Nat) : upd f i (f i) = f := by
  funext j
  unfold upd
  split
  · rename_i e
    rw [e]
  · rfl

/-- A tape laid at its beginning. -/
def Tst.rewound (x : Tst) : Tst := { x with pos := 0 }

theorem load_yes (h : Lbr w gl gp s d n g t F v H) (i : Nat) (hi : i < n) (ho : s.on = true) : Calls Try.prog 20 #[.pointer (some ⟨gl, 0, none⟩), .int .i64 (i : Int)] w fun e w' => e = .returned (.int .i64 0) ∧ Lbr w' gl gp s (some i) n g (upd t i (t i).rewound) F v H ∧ Save H w w' := by
  have HS : Hid (Calls Try.prog 41 #[.pointer (some ⟨g i, 0, none⟩), .int .i64 0] w fun e w' => e = .returned (.int .i64 0) ∧ (w'.cell? ⟨gl, 0, none⟩ = some (.pointer (drvA g d)) ∧ w'.frozen? ⟨gl, 0, none⟩ = false) ∧ Hid (Lbr w' gl gp s d n g (upd t i (t i).rewound) F v H ∧ Save H w w')) := by
    refine Lib.hid ((seek_any w (g i) gp s (t i) (F i) (h.taps i hi) 0).mono ?_)
    have e : Tst.seek s (t i) 0 = ((t i).rewound, 0) := by unfold Tst.seek; rw [if_neg (by omega), if_neg (by simp [ho])]; rfl
    rw [e]
    rintro e w' ⟨rfl, h1, h2⟩
    have h3 : Save H w w' := h2.mono fun k hk => (h.fit i hi k hk).1
    have h4 := h.tape hi h1 h2 (fun k hk _ => hk) (fun k hk => .inl hk) (H' := H) (fun k hk _ => hk) (fun k hk => (h.fit i hi k hk).1) (fun k hk => .inl hk)
    rw [upd_self F] at h4
    exact ⟨rfl, ⟨h4.cells.1, h4.soft 0⟩, Lib.hid ⟨h4, h3⟩⟩
  obtain ⟨c0, c1, c2⟩ := h.cells
  obtain ⟨a, c, rfl, _, hc⟩ := h.shape
  obtain ⟨b, rfl, hc1⟩ := hc (by omega)
  have hci := hc1 i hi
  have HH := Lib.hid (And.intro h.le (And.intro h.fo hi))
  clear h hc hc1 ho
  go_enter Try.func20, Try.ntmps20
  go_wp2_with fail
  refine HS.out.mono ?_
  rintro e w1 ⟨rfl, ⟨k0, k1⟩, H1⟩
  clear c0 c1 c2 hci HS
  go_wp2
  go_ret
  have e : w1.setCell ⟨gl, 0, none⟩ (.pointer (some ⟨g i, 0, none⟩)) = put w1 gl (libObj (drvA g (some i)) gp (.slice (some ⟨b, 0, none⟩) n c)) := set_put _ H1.out.1.obj
  refine ⟨rfl, ?_, H1.out.2.trans ((Save.set w1 gl 0 _).mono (fun k hk => by simp only [List.mem_singleton] at hk; rw [hk]; exact HH.out.2.1))⟩
  rw [e]
  exact H1.out.1.setDrv (some i) (by intro j e; injection e with e; rw [← e]; exact HH.out.2.2)

theorem load_down (h : Lbr w gl gp s d n g t F v H) (i : Nat) (hi : i < n) (ho : s.on = false) : Calls Try.prog 20 #[.pointer (some ⟨gl, 0, none⟩), .int .i64 (i : Int)] w fun e w' => e = .returned (.int .i64 11) ∧ Lbr w' gl gp s d n g t F v H ∧ Save H w w' := by
  have HS : Hid (Calls Try.prog 41 #[.pointer (some ⟨g i, 0, none⟩), .int .i64 0] w fun e w' => e = .returned (.int .i64 11) ∧ Hid (Lbr w' gl gp s d n g t F v H ∧ Save H w w')) := by
    refine Lib.hid ((seek_any w (g i) gp s (t i) (F i) (h.taps i hi) 0).mono ?_)
    have e : Tst.seek s (t i) 0 = (t i, 11) := by unfold Tst.seek; rw [if_neg (by omega), if_pos ho]
    rw [e]
    rintro e w' ⟨rfl, h1, h2⟩
    have h3 : Save H w w' := h2.mono fun k hk => (h.fit i hi k hk).1
    have h4 := h.tape hi h1 h2 (fun k hk _ => hk) (fun k hk => .inl hk) (H' := H) (fun k hk _ => hk) (fun k hk => (h.fit i hi k hk).1) (fun k hk => .inl hk)
    rw [upd_self F, upd_self t] at h4
    exact ⟨rfl, Lib.hid ⟨h4, h3⟩⟩
  obtain ⟨c0, c1, c2⟩ := h.cells
  obtain ⟨a, c, rfl, _, hc⟩ := h.shape
  obtain ⟨b, rfl, hc1⟩ := hc (by omega)
  have hci := hc1 i hi
  have HH := Lib.hid h.le
  clear h hc hc1 ho
  go_enter Try.func20, Try.ntmps20
  go_wp2_with fail
  refine HS.out.mono ?_
  rintro e w1 ⟨rfl, H1⟩
  clear c0 c1 c2 hci HS
  go_wp2
  go_ret
  exact ⟨rfl, H1.out.1, H1.out.2⟩

end

end Go.Proofs.Ytcmbnijjkpfhlaa
