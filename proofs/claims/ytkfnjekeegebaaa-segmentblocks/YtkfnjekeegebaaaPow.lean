/- Power in memory, and the contracts of its functions, over any world: the world behind a call is given exactly. -/
import Derived.Test.YtkfnjekeegebaaaRows
import Derived.Test.YtkfnjekeegebaaaBlk
import Derived.WalkKit
import Derived.WalkSpells
import Derived.WalkLawsBesides
import Derived.Below
import Derived.Deep.LoopGhost
import Derived.Deep.AppendLies
import Derived.Maps.AppendAt
import Derived.OwnWalk
import Derived.Lib.Hide
import Derived.Lib.MinMax
namespace Go.Proofs.Ytkfnjekeegebaaa
open Go.RowKit

/-- Power: whether it is on, the plan (how many writes from now, and how many bytes of the write then), how many writes there were. -/
structure Pw where
  on : Bool
  plan : Option (Nat × Int)
  count : Nat

def Pw.after (s : Pw) : Int := match s.plan with | some (k, _) => (k : Int) | none => 0
def Pw.torn (s : Pw) : Int := match s.plan with | some (_, t) => t | none => 0

def powObj (s : Pw) : Obj := .cells #[.bool (!s.on), .bool s.plan.isSome, .int .i64 s.after, .int .i64 s.torn, .int .i64 (s.count : Int)] 82 (0, 0)

def Pw.ok (s : Pw) : Prop := (∀ k t, s.plan = some (k, t) → k < 9223372036854775808) ∧ s.count < 4611686018427387904

/-- Block g is power in state s. -/
def Pow (w : World) (g : Nat) (s : Pw) : Prop := w.heap[g]? = some (powObj s)

theorem Pow.put {w : World} {g : Nat} {s : Pw} (h : Pow w g s) (s' : Pw) : Pow (put w g (powObj s')) g s' := put_same h

theorem Pow.lt {w : World} {g : Nat} {s : Pw} (h : Pow w g s) : g < w.heap.size := (Array.getElem?_eq_some_iff.1 h).1

theorem Pow.kept {w w' : World} {g : Nat} {s : Pw} {row : Option Nat} (h : Pow w g s) (hw : w.grownBy w' row) (hne : some g ≠ row) : Pow w' g s := (hw.block g h.lt hne).trans h

theorem Pow.below {w w' : World} {g B : Nat} {s : Pw} (h : Pow w g s) (hw : Below B w w') (hlt : g < B) : Pow w' g s := (hw.block g hlt).trans h

/-- What lies in power's cells. -/
theorem Pow.cells {w : World} {g : Nat} {s : Pw} (h : Pow w g s) :
    w.cell? ⟨g, 0, none⟩ = some (.bool (!s.on)) ∧ w.cell? ⟨g, 1, none⟩ = some (.bool s.plan.isSome) ∧ w.cell? ⟨g, 2, none⟩ = some (.int .i64 s.after) ∧ w.cell? ⟨g, 3, none⟩ = some (.int .i64 s.torn) ∧ w.cell? ⟨g, 4, none⟩ = some (.int .i64 (s.count : Int)) := by
  refine ⟨?_, ?_, ?_, ?_, ?_⟩ <;> rw [cell_of_row w g _ _ 82 (0, 0) h] <;> rfl

theorem Pow.soft {w : World} {g : Nat} {s : Pw} (h : Pow w g s) (i : Nat) : w.frozen? ⟨g, i, none⟩ = false := by
  have h' : w.heap[g]? = some (powObj s) := h
  simp [World.frozen?, h', powObj]

/-- The five cells laid anew. -/
def powCells (o p : Bool) (a t c : Int) : Obj := .cells #[.bool o, .bool p, .int .i64 a, .int .i64 t, .int .i64 c] 82 (0, 0)

theorem lay0 {w : World} {g : Nat} {o p : Bool} {a t c : Int} (h : w.heap[g]? = some (powCells o p a t c)) (x : Bool) : w.setCell ⟨g, 0, none⟩ (.bool x) = put w g (powCells x p a t c) := set_put _ h
theorem lay1 {w : World} {g : Nat} {o p : Bool} {a t c : Int} (h : w.heap[g]? = some (powCells o p a t c)) (x : Bool) : w.setCell ⟨g, 1, none⟩ (.bool x) = put w g (powCells o x a t c) := set_put _ h
theorem lay2 {w : World} {g : Nat} {o p : Bool} {a t c : Int} (h : w.heap[g]? = some (powCells o p a t c)) (x : Int) : w.setCell ⟨g, 2, none⟩ (.int .i64 x) = put w g (powCells o p x t c) := set_put _ h
theorem lay3 {w : World} {g : Nat} {o p : Bool} {a t c : Int} (h : w.heap[g]? = some (powCells o p a t c)) (x : Int) : w.setCell ⟨g, 3, none⟩ (.int .i64 x) = put w g (powCells o p a x c) := set_put _ h
theorem lay4 {w : World} {g : Nat} {o p : Bool} {a t c : Int} (h : w.heap[g]? = some (powCells o p a t c)) (x : Int) : w.setCell ⟨g, 4, none⟩ (.int .i64 x) = put w g (powCells o p a t x) := set_put _ h

theorem unplan_any (w : World) (g : Nat) (o p : Bool) (a t c : Int) (h : w.heap[g]? = some (powCells o p a t c)) :
    Calls Try.prog 62 #[.pointer (some ⟨g, 0, none⟩)] w fun e w' => e = .returned (.tuple #[]) ∧ w' = put w g (powCells o false 0 0 c) := by
  have H := Lib.hid h
  have f0 : ∀ i, w.frozen? ⟨g, i, none⟩ = false := by intro i; simp [World.frozen?, h, powCells]
  have h1 : w.cell? ⟨g, 1, none⟩ = some (.bool p) := by rw [cell_of_row w g _ _ 82 (0, 0) h]; rfl
  have h2 : w.cell? ⟨g, 2, none⟩ = some (.int .i64 a) := by rw [cell_of_row w g _ _ 82 (0, 0) h]; rfl
  have h3 : w.cell? ⟨g, 3, none⟩ = some (.int .i64 t) := by rw [cell_of_row w g _ _ 82 (0, 0) h]; rfl
  clear h
  go_enter Try.func62, Try.ntmps62
  go_wp2
  go_end0
  exact ⟨rfl, by rw [lay1 H.out, lay2 (put_same H.out), put_put, lay3 (put_same H.out), put_put]⟩

/-- Planned. -/
def Pw.planned (s : Pw) (a t : Int) : Pw := ⟨s.on, if 0 ≤ a then some (a.toNat, t) else none, s.count⟩

theorem planned_yes (s : Pw) {a : Int} (t : Int) (h : 0 ≤ a) : s.planned a t = ⟨s.on, some (a.toNat, t), s.count⟩ := by simp [Pw.planned, h]
theorem planned_no (s : Pw) {a : Int} (t : Int) (h : a < 0) : s.planned a t = ⟨s.on, none, s.count⟩ := by simp [Pw.planned]; omega

/-- On, without a plan. -/
def Pw.up (s : Pw) : Pw := ⟨true, none, s.count⟩

/-- A write: power behind it, how many bytes go through, the error. -/
def Pw.write (s : Pw) (n : Int) : Pw × Int × Nat :=
  if n < 0 then (s, 0, 1) else if s.on = false then (s, 0, 11) else
  match s.plan with
  | none => (⟨s.on, none, s.count + 1⟩, n, 0)
  | some (0, t) => (⟨false, none, s.count + 1⟩, min (max t 0) n, 11)
  | some (k + 1, t) => (⟨s.on, some (k, t), s.count + 1⟩, n, 0)

theorem powObj_mk (o p : Bool) (a t : Int) (c : Nat) (s : Pw) (h0 : (!s.on) = o) (h1 : s.plan.isSome = p) (h2 : s.after = a) (h3 : s.torn = t) (h4 : s.count = c) : powCells o p a t (c : Int) = powObj s := by
  subst h0 h1 h2 h3 h4; rfl

theorem new_any (w : World) : Calls Try.prog 14 #[] w fun e w' => e = .returned (.pointer (some ⟨w.heap.size, 0, none⟩)) ∧ w' = w.alloc (powObj ⟨true, none, 0⟩) := by
  go_enter Try.func14, Try.ntmps14
  go_wp2
  go_ret
  exact ⟨rfl, rfl⟩

theorem on_any (w : World) (g : Nat) (s : Pw) (h : Pow w g s) : Calls Try.prog 33 #[.pointer (some ⟨g, 0, none⟩)] w fun e w' => e = .returned (.bool s.on) ∧ w' = w := by
  have h0 := h.cells.1
  clear h
  go_enter Try.func33, Try.ntmps33
  go_wp2
  go_ret
  exact ⟨by simp, rfl⟩

theorem on_nil (w : World) : Calls Try.prog 33 #[.pointer none] w fun e w' => e = .returned (.bool false) ∧ w' = w := by
  go_enter Try.func33, Try.ntmps33
  go_wp2
  go_ret
  exact ⟨rfl, rfl⟩

theorem fail_any (w : World) (g : Nat) (s : Pw) (n : Int) (h : Pow w g s) : Calls Try.prog 59 #[.pointer (some ⟨g, 0, none⟩), .int .i64 n] w fun e w' => e = .returned (.int .i64 (min (max s.torn 0) n)) ∧ w' = put w g (powObj ⟨false, none, s.count⟩) := by
  have h0 := h.cells.1
  have h3 := h.cells.2.2.2.1
  have f0 := h.soft 0
  have H := Lib.hid h
  clear h
  go_enter Try.func59, Try.ntmps59
  go_wp2_with fail
  have hw : w.setCell ⟨g, 0, none⟩ (.bool true) = put w g (powCells true s.plan.isSome s.after s.torn s.count) := lay0 H.out true
  rw [hw]
  refine (unplan_any _ g _ _ _ _ _ (put_same H.out)).mono ?_
  rintro e w1 ⟨rfl, rfl⟩
  rw [put_put]
  go_wp2
  go_ret
  exact ⟨rfl, rfl⟩

theorem write_arg (s : Pw) {n : Int} (h : n < 0) : s.write n = (s, 0, 1) := by simp [Pw.write, h]
theorem write_off {s : Pw} {n : Int} (h : ¬ n < 0) (ho : s.on = false) : s.write n = (s, 0, 11) := by simp [Pw.write, h, ho]
theorem write_on {o : Bool} {c : Nat} {n : Int} (h : ¬ n < 0) (ho : o = true) : (Pw.mk o none c).write n = (⟨true, none, c + 1⟩, n, 0) := by simp [Pw.write, h, ho]
theorem write_fall {o : Bool} {c : Nat} {t n : Int} (h : ¬ n < 0) (ho : o = true) : (Pw.mk o (some (0, t)) c).write n = (⟨false, none, c + 1⟩, min (max t 0) n, 11) := by simp [Pw.write, h, ho]
theorem write_less {o : Bool} {c k : Nat} {t n : Int} (h : ¬ n < 0) (ho : o = true) : (Pw.mk o (some (k + 1, t)) c).write n = (⟨true, some (k, t), c + 1⟩, n, 0) := by simp [Pw.write, h, ho]

theorem write_argAny (w : World) (p : Option Addr) (n : Int) (hn : n < 0) :
    Calls Try.prog 54 #[.pointer p, .int .i64 n] w fun e w' => e = .returned (.tuple #[.int .i64 0, .int .i64 1]) ∧ w' = w := by
  go_enter Try.func54, Try.ntmps54
  go_wp2
  go_ret2
  exact ⟨rfl, rfl⟩

theorem write_nil (w : World) (n : Int) (hn : ¬ n < 0) :
    Calls Try.prog 54 #[.pointer none, .int .i64 n] w fun e w' => e = .returned (.tuple #[.int .i64 0, .int .i64 11]) ∧ w' = w := by
  have hn' : 0 ≤ n := by omega
  go_enter Try.func54, Try.ntmps54
  go_wp2_with fail
  refine (on_nil w).mono ?_
  rintro e w1 ⟨rfl, rfl⟩
  go_wp2
  go_ret2
  exact ⟨rfl, rfl⟩

set_option maxRecDepth 100000 in
theorem write_any (w : World) (g : Nat) (s : Pw) (n : Int) (h : Pow w g s) (hok : s.ok) :
    Calls Try.prog 54 #[.pointer (some ⟨g, 0, none⟩), .int .i64 n] w fun e w' => e = .returned (.tuple #[.int .i64 (s.write n).2.1, .int .i64 ((s.write n).2.2 : Int)]) ∧ w' = put w g (powObj (s.write n).1) := by
  by_cases hn : n < 0
  · rw [write_arg s hn]
    refine (write_argAny w _ n hn).mono ?_
    rintro e w1 ⟨rfl, rfl⟩
    exact ⟨rfl, (put_self h).symm⟩
  have hn' : 0 ≤ n := by omega
  have H := Lib.hid h
  have hO := Lib.hid (on_any w g s h)
  by_cases ho : s.on = false
  · rw [write_off hn ho]
    rw [ho] at hO
    have HO := Lib.hid ho
    clear h ho hn
    go_enter Try.func54, Try.ntmps54
    go_wp2_with fail
    refine hO.out.mono ?_
    rintro e w1 ⟨rfl, rfl⟩
    go_wp2
    go_ret2
    exact ⟨rfl, (put_self H.out).symm⟩
  have ho' : s.on = true := by simpa using ho
  obtain ⟨o, p, c⟩ := s
  simp only at ho ho'
  subst ho'
  have hw1 : IntKind.i64.wrap ((c : Int) + 1) = ((c + 1 : Nat) : Int) := by
    have := hok.2
    simp only at this
    rw [IntKind.wrap_i64] <;> omega
  have f0 := h.soft
  match p, hok with
  | none, hok =>
    rw [write_on hn rfl]
    have h1 : w.cell? ⟨g, 1, none⟩ = some (.bool false) := h.cells.2.1
    have h4 : w.cell? ⟨g, 4, none⟩ = some (.int .i64 (c : Int)) := h.cells.2.2.2.2
    clear h hok ho hn
    go_enter Try.func54, Try.ntmps54
    go_wp2_with fail
    refine hO.out.mono ?_
    rintro e w1 ⟨rfl, rfl⟩
    go_wp2
    go_ret2
    refine ⟨rfl, ?_⟩
    first
      | exact lay4 H.out ((c + 1 : Nat) : Int)
      | (rw [← hw1]; exact lay4 H.out _)
  | some (0, t), hok =>
    rw [write_fall hn rfl]
    have h1 : w.cell? ⟨g, 1, none⟩ = some (.bool true) := h.cells.2.1
    have h2 : w.cell? ⟨g, 2, none⟩ = some (.int .i64 0) := h.cells.2.2.1
    have h4 : w.cell? ⟨g, 4, none⟩ = some (.int .i64 (c : Int)) := h.cells.2.2.2.2
    have hl : w.setCell ⟨g, 4, none⟩ (.int .i64 ((c + 1 : Nat) : Int)) = put w g (powObj ⟨true, some (0, t), c + 1⟩) := lay4 h _
    have hF := fail_any (put w g (powObj ⟨true, some (0, t), c + 1⟩)) g ⟨true, some (0, t), c + 1⟩ n (put_same h)
    rw [← hl, show put (w.setCell ⟨g, 4, none⟩ (.int .i64 ((c + 1 : Nat) : Int))) g = put (put w g (powObj ⟨true, some (0, t), c + 1⟩)) g from by rw [hl], put_put] at hF
    have HF := Lib.hid hF
    clear h hok ho hn hl hF
    go_enter Try.func54, Try.ntmps54
    go_wp2_with fail
    refine hO.out.mono ?_
    rintro e w1 ⟨rfl, rfl⟩
    go_wp2_with fail
    refine HF.out.mono ?_
    rintro e w1 ⟨rfl, rfl⟩
    go_wp2
    go_ret2
    exact ⟨rfl, rfl⟩
  | some (k + 1, t), hok =>
    rw [write_less hn rfl]
    have hk := hok.1 (k + 1) t rfl
    have hw2 : IntKind.i64.wrap (((k + 1 : Nat) : Int) - 1) = (k : Int) := by
      rw [IntKind.wrap_i64] <;> omega
    have hz : (((k + 1 : Nat) : Int) == 0) = false := by simp; omega
    have h1 : w.cell? ⟨g, 1, none⟩ = some (.bool true) := h.cells.2.1
    have h2 : w.cell? ⟨g, 2, none⟩ = some (.int .i64 ((k + 1 : Nat) : Int)) := h.cells.2.2.1
    have h4 : w.cell? ⟨g, 4, none⟩ = some (.int .i64 (c : Int)) := h.cells.2.2.2.2
    obtain ⟨K, hK⟩ : ∃ K : Nat, K = k + 1 := ⟨_, rfl⟩
    rw [← hK] at h2 hw2 hz
    clear h hok ho hn hk hK
    go_enter Try.func54, Try.ntmps54
    go_wp2_with fail
    refine hO.out.mono ?_
    rintro e w1 ⟨rfl, rfl⟩
    go_wp2
    go_ret2
    refine ⟨rfl, ?_⟩
    have e := lay4 (x := ((c + 1 : Nat) : Int)) H.out
    have H2 : (put w1 g (powCells false true ((k + 1 : Nat) : Int) t ((c + 1 : Nat) : Int))).heap[g]? = some (powCells false true ((k + 1 : Nat) : Int) t ((c + 1 : Nat) : Int)) := put_same H.out
    first
      | (refine (congrArg (fun v : World => v.setCell ⟨g, 2, none⟩ (.int .i64 (k : Int))) e).trans ?_; exact (lay2 H2 _).trans (put_put _ _ _ _))
      | trace_state
end Go.Proofs.Ytkfnjekeegebaaa
