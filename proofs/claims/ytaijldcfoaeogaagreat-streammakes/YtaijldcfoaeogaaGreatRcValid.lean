/- Is a record one? The contracts of isNumber, isRun, Len, valid, over any world. -/
import Derived.Test.YtaijldcfoaeogaaGreatGMemToRcEq
import Derived.Test.YtaijldcfoaeogaaGreatOrders
import Derived.Deep.RegionHeld3
namespace Go.Proofs.YtaijldcfoaeogaaGreat
open Go.RowKit
set_option maxRecDepth 100000
set_option linter.unusedSimpArgs false

def isNum (z : Int) : Bool := decide (0 ≤ z) && decide (z ≤ 1099511627776)
def isRunB (f t : Int) : Bool := decide (0 ≤ f) && (decide (f < t) && decide (t ≤ 256))

/-- Is a record one? -/
def Rec.ok (x : Rec) : Bool :=
  if x.k = 1 then isNum x.i && (isNum x.b && x.eq ⟨1, x.i, x.b, 0, 0, [], 0, 0, 0⟩)
  else if x.k = 2 then isRunB x.f x.t && (decide (x.t - x.f ≤ 4) && (decide ((x.l.length : Int) = (x.t - x.f) * 32) && x.eq ⟨2, 0, 0, x.f, x.t, x.l, 0, 0, 0⟩))
  else if x.k = 3 then isRunB x.f x.t && x.eq ⟨3, 0, 0, x.f, x.t, [], 0, 0, 0⟩
  else if x.k = 4 then isNum x.c && (decide (x.n ≤ 1099511627776) && (decide (x.s < 2305843009213693951) && x.eq ⟨4, 0, 0, 0, 0, [], x.c, x.n, x.s⟩))
  else false

theorem recNumber_any (z : Int) (w : World) : Calls Tryz.prog 77 #[.int .i64 z] w fun e w' => e = .returned (.bool (isNum z)) ∧ w' = w := by
  go_enter Tryz.func77, Tryz.ntmps77
  go_wp2
  all_goals
    go_ret
    refine ⟨ret_bool ?_, rfl⟩
    simp only [isNum]
  · have h : 0 ≤ z := by assumption
    simp [h]
  · have h : z < 0 := by assumption
    simp; omega

theorem isRun_any (f t : Int) (w : World) : Calls Tryz.prog 78 #[.agg #[.int .i64 f, .int .i64 t]] w fun e w' => e = .returned (.bool (isRunB f t)) ∧ Below w.heap.size w w' := by
  go_enter Tryz.func78, Tryz.ntmps78
  go_wp2
  all_goals
    go_ret
    refine ⟨ret_bool ?_, Below.alloc0 _ _⟩
    simp only [isRunB]
    first
      | (simp [*]; done)
      | (simp; omega)

theorem runLen_any (f t : Int) (w : World) (h : isRunB f t = true) : Calls Tryz.prog 79 #[.agg #[.int .i64 f, .int .i64 t]] w fun e w' => e = .returned (.int .i64 (t - f)) ∧ Below w.heap.size w w' := by
  simp only [isRunB, Bool.and_eq_true, decide_eq_true_eq] at h
  obtain ⟨h1, h2, h3⟩ := h
  have h4 : IntKind.i64.wrap (t - f) = t - f := by rw [IntKind.wrap_i64] <;> omega
  have h5 : ¬ t ≤ f := by omega
  go_enter Tryz.func79, Tryz.ntmps79
  go_wp2
  go_ret
  exact ⟨rfl, Below.alloc0 _ _⟩


set_option maxHeartbeats 1000000 in
set_option maxRecDepth 100000 in
theorem valid_head (i b f t c : Int) (l : List Nat) (dn ds : Nat) (a : Option Addr) (n cap : Nat) (w : World) (h : Rd w a n l) :
    Calls Tryz.prog 59 #[rcV ⟨1, i, b, f, t, l, c, dn, ds⟩ a n cap] w fun e w' => e = .returned (.bool (isNum i && (isNum b && Rec.eq ⟨1, i, b, f, t, l, c, dn, ds⟩ ⟨1, i, b, 0, 0, [], 0, 0, 0⟩))) ∧ Below w.heap.size w w' := by
  obtain ⟨E, hE⟩ : ∃ E, E = Rec.eq ⟨1, i, b, f, t, l, c, dn, ds⟩ ⟨1, i, b, 0, 0, [], 0, 0, 0⟩ := ⟨_, rfl⟩
  have HS : Hid (∀ W, Below w.heap.size w W → Calls Tryz.prog 53 #[.agg #[.int .u8 1, .int .i64 i, .int .i64 b, .int .i64 f, .int .i64 t, .slice a n cap, .int .i64 c, .int .u64 (dn : Int), .int .u64 (ds : Int)], .agg #[.int .u8 1, .int .i64 i, .int .i64 b, .int .i64 0, .int .i64 0, .slice none 0 0, .int .i64 0, .int .u64 0, .int .u64 0]] W fun e w' => e = .returned (.bool E) ∧ Below W.heap.size W w') := by
    refine Lib.hid fun W hW => ?_
    have := rcSame_any ⟨1, i, b, f, t, l, c, dn, ds⟩ ⟨1, i, b, 0, 0, [], 0, 0, 0⟩ a none n cap 0 0 W (h.later hW) ⟨rfl, by simp, by omega⟩
    rw [← hE] at this
    exact this
  rw [← hE]
  have HI := Lib.hid fun W => recNumber_any i W
  have HB := Lib.hid fun W => recNumber_any b W
  obtain ⟨B1, hB1⟩ : ∃ B, B = isNum i := ⟨_, rfl⟩
  obtain ⟨B2, hB2⟩ : ∃ B, B = isNum b := ⟨_, rfl⟩
  rw [← hB1] at HI ⊢
  rw [← hB2] at HB ⊢
  clear hE hB1 hB2 h
  simp only [rcV]
  cases B1
  · go_enter Tryz.func59, Tryz.ntmps59
    go_wp2_with fail
    refine (HI.out _).mono ?_
    rintro e w1 ⟨rfl, rfl⟩
    go_wp2
    go_ret
    exact ⟨rfl, Below.alloc0 _ _⟩
  · cases B2
    · go_enter Tryz.func59, Tryz.ntmps59
      go_wp2_with fail
      refine (HI.out _).mono ?_
      rintro e w1 ⟨rfl, rfl⟩
      go_wp2_with fail
      refine (HB.out _).mono ?_
      rintro e w1 ⟨rfl, rfl⟩
      go_wp2
      go_ret
      exact ⟨rfl, Below.alloc0 _ _⟩
    · go_enter Tryz.func59, Tryz.ntmps59
      go_wp2_with fail
      refine (HI.out _).mono ?_
      rintro e w1 ⟨rfl, rfl⟩
      go_wp2_with fail
      refine (HB.out _).mono ?_
      rintro e w1 ⟨rfl, rfl⟩
      go_wp2_with fail
      refine (HS.out _ (Below.alloc0 _ _)).mono ?_
      rintro e w1 ⟨rfl, hb⟩
      go_wp2
      go_ret
      exact ⟨rfl, (Below.alloc0 _ _).trans (hb.mono (by simp))⟩

set_option maxHeartbeats 2000000 in
set_option maxRecDepth 100000 in
theorem valid_hole (i b f t c : Int) (l : List Nat) (dn ds : Nat) (a : Option Addr) (n cap : Nat) (w : World) (h : Rd w a n l) :
    Calls Tryz.prog 59 #[rcV ⟨3, i, b, f, t, l, c, dn, ds⟩ a n cap] w fun e w' => e = .returned (.bool (isRunB f t && Rec.eq ⟨3, i, b, f, t, l, c, dn, ds⟩ ⟨3, 0, 0, f, t, [], 0, 0, 0⟩)) ∧ Below w.heap.size w w' := by
  obtain ⟨E, hE⟩ : ∃ E, E = Rec.eq ⟨3, i, b, f, t, l, c, dn, ds⟩ ⟨3, 0, 0, f, t, [], 0, 0, 0⟩ := ⟨_, rfl⟩
  have HS : Hid (∀ W, Below w.heap.size w W → Calls Tryz.prog 53 #[.agg #[.int .u8 3, .int .i64 i, .int .i64 b, .int .i64 f, .int .i64 t, .slice a n cap, .int .i64 c, .int .u64 (dn : Int), .int .u64 (ds : Int)], .agg #[.int .u8 3, .int .i64 0, .int .i64 0, .int .i64 f, .int .i64 t, .slice none 0 0, .int .i64 0, .int .u64 0, .int .u64 0]] W fun e w' => e = .returned (.bool E) ∧ Below W.heap.size W w') := by
    refine Lib.hid fun W hW => ?_
    have := rcSame_any ⟨3, i, b, f, t, l, c, dn, ds⟩ ⟨3, 0, 0, f, t, [], 0, 0, 0⟩ a none n cap 0 0 W (h.later hW) ⟨rfl, by simp, by omega⟩
    rw [← hE] at this
    exact this
  rw [← hE]
  have HI := Lib.hid fun W => isRun_any f t W
  obtain ⟨B1, hB1⟩ : ∃ B, B = isRunB f t := ⟨_, rfl⟩
  rw [← hB1] at HI ⊢
  clear hE hB1 h
  simp only [rcV]
  cases B1
  · go_enter Tryz.func59, Tryz.ntmps59
    go_wp2_with fail
    refine (HI.out _).mono ?_
    rintro e w1 ⟨rfl, hb⟩
    go_wp2
    go_ret
    exact ⟨rfl, (Below.alloc0 _ _).trans (hb.mono (by simp))⟩
  · have HC : Hid (∀ W w1, Below w.heap.size w W → Below W.heap.size W w1 → Below w.heap.size w w1) := Lib.hid fun W w1 h1 h2 => h1.trans (h2.mono h1.size)
    go_enter Tryz.func59, Tryz.ntmps59
    go_wp2_with fail
    refine (HI.out _).mono ?_
    rintro e w1 ⟨rfl, hb⟩
    have HBB := Lib.hid (HC.out _ _ (Below.alloc0 _ _) hb)
    have hld := hb.block w.heap.size (by simp)
    rw [heap_alloc_new] at hld
    have HLD := Lib.hid hld
    have c0 : w1.cell? ⟨w.heap.size, 0, none⟩ = some (.int .u8 3) := by simp [World.cell?, HLD.out]
    have c1 : w1.cell? ⟨w.heap.size, 1, none⟩ = some (.int .i64 i) := by simp [World.cell?, HLD.out]
    have c2 : w1.cell? ⟨w.heap.size, 2, none⟩ = some (.int .i64 b) := by simp [World.cell?, HLD.out]
    have c3 : w1.cell? ⟨w.heap.size, 3, none⟩ = some (.int .i64 f) := by simp [World.cell?, HLD.out]
    have c4 : w1.cell? ⟨w.heap.size, 4, none⟩ = some (.int .i64 t) := by simp [World.cell?, HLD.out]
    have c5 : w1.cell? ⟨w.heap.size, 5, none⟩ = some (.slice a n cap) := by simp [World.cell?, HLD.out]
    have c6 : w1.cell? ⟨w.heap.size, 6, none⟩ = some (.int .i64 c) := by simp [World.cell?, HLD.out]
    have c7 : w1.cell? ⟨w.heap.size, 7, none⟩ = some (.int .u64 (dn : Int)) := by simp [World.cell?, HLD.out]
    have c8 : w1.cell? ⟨w.heap.size, 8, none⟩ = some (.int .u64 (ds : Int)) := by simp [World.cell?, HLD.out]
    clear hb hld
    go_wp2_with fail
    refine (HS.out _ HBB.out).mono ?_
    rintro e w2 ⟨rfl, hb⟩
    go_wp2
    go_ret
    exact ⟨rfl, HBB.out.trans (hb.mono HBB.out.size)⟩

set_option maxHeartbeats 2000000 in
set_option maxRecDepth 100000 in
theorem valid_tail (i b f t c : Int) (l : List Nat) (dn ds : Nat) (a : Option Addr) (n cap : Nat) (w : World) (h : Rd w a n l) :
    Calls Tryz.prog 59 #[rcV ⟨4, i, b, f, t, l, c, dn, ds⟩ a n cap] w fun e w' => e = .returned (.bool (isNum c && (decide (dn ≤ 1099511627776) && (decide (ds < 2305843009213693951) && Rec.eq ⟨4, i, b, f, t, l, c, dn, ds⟩ ⟨4, 0, 0, 0, 0, [], c, dn, ds⟩)))) ∧ Below w.heap.size w w' := by
  obtain ⟨E, hE⟩ : ∃ E, E = Rec.eq ⟨4, i, b, f, t, l, c, dn, ds⟩ ⟨4, 0, 0, 0, 0, [], c, dn, ds⟩ := ⟨_, rfl⟩
  have HS : Hid (∀ W, Below w.heap.size w W → Calls Tryz.prog 53 #[.agg #[.int .u8 4, .int .i64 i, .int .i64 b, .int .i64 f, .int .i64 t, .slice a n cap, .int .i64 c, .int .u64 (dn : Int), .int .u64 (ds : Int)], .agg #[.int .u8 4, .int .i64 0, .int .i64 0, .int .i64 0, .int .i64 0, .slice none 0 0, .int .i64 c, .int .u64 (dn : Int), .int .u64 (ds : Int)]] W fun e w' => e = .returned (.bool E) ∧ Below W.heap.size W w') := by
    refine Lib.hid fun W hW => ?_
    have := rcSame_any ⟨4, i, b, f, t, l, c, dn, ds⟩ ⟨4, 0, 0, 0, 0, [], c, dn, ds⟩ a none n cap 0 0 W (h.later hW) ⟨rfl, by simp, by omega⟩
    rw [← hE] at this
    exact this
  rw [← hE]
  have HI := Lib.hid fun W => recNumber_any c W
  obtain ⟨B1, hB1⟩ : ∃ B, B = isNum c := ⟨_, rfl⟩
  rw [← hB1] at HI ⊢
  clear hE hB1 h
  simp only [rcV]
  cases B1
  · go_enter Tryz.func59, Tryz.ntmps59
    go_wp2_with fail
    refine (HI.out _).mono ?_
    rintro e w1 ⟨rfl, rfl⟩
    go_wp2
    go_ret
    exact ⟨rfl, Below.alloc0 _ _⟩
  · by_cases h1 : dn ≤ 1099511627776
    · have d1 : (dn : Int) ≤ 1099511627776 := by omega
      by_cases h2 : ds < 2305843009213693951
      · have d2 : decide ((ds : Int) < 2305843009213693951) = true := by simp; omega
        have HR : Hid (∀ E, (true && (decide (dn ≤ 1099511627776) && (decide (ds < 2305843009213693951) && E))) = E) := Lib.hid fun E => by rw [decide_eq_true h1, decide_eq_true h2]; rfl
        rw [HR.out]
        clear h2 h1
        go_enter Tryz.func59, Tryz.ntmps59
        go_wp2_with fail
        refine (HI.out _).mono ?_
        rintro e w1 ⟨rfl, rfl⟩
        go_wp2_with fail
        refine (HS.out _ (Below.alloc0 _ _)).mono ?_
        rintro e w1 ⟨rfl, hb⟩
        go_wp2
        go_ret
        exact ⟨rfl, (Below.alloc0 _ _).trans (hb.mono (by simp))⟩
      · have d2 : decide ((ds : Int) < 2305843009213693951) = false := by simp; omega
        have HR : Hid (∀ E, (true && (decide (dn ≤ 1099511627776) && (decide (ds < 2305843009213693951) && E))) = false) := Lib.hid fun E => by rw [decide_eq_false h2]; simp
        rw [HR.out]
        clear h2 h1
        go_enter Tryz.func59, Tryz.ntmps59
        go_wp2_with fail
        refine (HI.out _).mono ?_
        rintro e w1 ⟨rfl, rfl⟩
        go_wp2
        go_ret
        exact ⟨rfl, Below.alloc0 _ _⟩
    · have d1 : 1099511627776 < (dn : Int) := by omega
      have HR : Hid (∀ E, (true && (decide (dn ≤ 1099511627776) && E)) = false) := Lib.hid fun E => by rw [decide_eq_false h1]; simp
      rw [HR.out]
      clear h1
      go_enter Tryz.func59, Tryz.ntmps59
      go_wp2_with fail
      refine (HI.out _).mono ?_
      rintro e w1 ⟨rfl, rfl⟩
      go_wp2
      go_ret
      exact ⟨rfl, Below.alloc0 _ _⟩

set_option maxHeartbeats 1000000 in
set_option maxRecDepth 100000 in
theorem valid_other (k : Nat) (i b f t c : Int) (l : List Nat) (dn ds : Nat) (a : Option Addr) (n cap : Nat) (w : World) (h1 : k ≠ 1) (h2 : k ≠ 2) (h3 : k ≠ 3) (h4 : k ≠ 4) :
    Calls Tryz.prog 59 #[rcV ⟨k, i, b, f, t, l, c, dn, ds⟩ a n cap] w fun e w' => e = .returned (.bool false) ∧ Below w.heap.size w w' := by
  have e1 : ((k : Int) == 1) = false := by simp; omega
  have e2 : ((k : Int) == 2) = false := by simp; omega
  have e3 : ((k : Int) == 3) = false := by simp; omega
  have e4 : ((k : Int) == 4) = false := by simp; omega
  clear h1 h2 h3 h4
  simp only [rcV]
  go_enter Tryz.func59, Tryz.ntmps59
  go_wp2
  go_ret
  exact ⟨rfl, Below.alloc0 _ _⟩

end Go.Proofs.YtaijldcfoaeogaaGreat
