/- A record's values; two of them compared (bytes.Equal, Same), over any world. -/
import Derived.Test.YtaijldcfoaeogaaGMemToOwnBlk
import Derived.Laws.StructEq
import Derived.Deep.DeepCutAuto
namespace Go.Proofs.Ytaijldcfoaeogaa
open Go.RowKit
set_option linter.unusedSimpArgs false

theorem strB_sameC {A B : List Nat} (hA : ∀ x ∈ A, x < 256) (hB : ∀ x ∈ B, x < 256) : ((strB A).toList == (strB B).toList) = decide (A = B) := by
  rw [ByteArray.toList_eq, ByteArray.toList_eq]
  by_cases h : A = B
  · subst h; simp
  · have hne : ¬ (strB A).data = (strB B).data := fun e => h (strB_inj hA hB (ByteArray.ext e))
    rw [decide_eq_false h]
    simp only [beq_eq_false_iff_ne, ne_eq]
    exact fun e => hne (Array.ext' e)

/-- A record: its kind, ID, Base, Run, Blocks, Count, Digest. -/
structure Rec where
  k : Nat
  i : Int
  b : Int
  f : Int
  t : Int
  l : List Nat
  c : Int
  n : Nat
  s : Nat

/-- Its value in the program, its blocks at a; in the document. -/
def rcV (x : Rec) (a : Option Addr) (n c : Nat) : Value := .agg #[.int .u8 (x.k : Int), .int .i64 x.i, .int .i64 x.b, .int .i64 x.f, .int .i64 x.t, .slice a n c, .int .i64 x.c, .int .u64 (x.n : Int), .int .u64 (x.s : Int)]
def pcV (x : Rec) : Value := .agg #[.int .u8 (x.k : Int), .int .i64 x.i, .int .i64 x.b, .int .i64 x.f, .int .i64 x.t, .string (strB x.l), .int .i64 x.c, .int .u64 (x.n : Int), .int .u64 (x.s : Int)]

/-- Are two records alike? -/
def Rec.eq (x y : Rec) : Bool := decide (x.k = y.k) && (decide (x.i = y.i) && (decide (x.b = y.b) && (decide (x.f = y.f) && (decide (x.t = y.t) && (decide (x.l = y.l) && (decide (x.c = y.c) && (decide (x.n = y.n) && decide (x.s = y.s))))))))

theorem Rec.eq_self (x : Rec) : x.eq x = true := by simp [Rec.eq]

theorem Rec.eq_iff (x y : Rec) : x.eq y = true ↔ x = y := by
  obtain ⟨k, i, b, f, t, l, c, n, s⟩ := x
  obtain ⟨k', i', b', f', t', l', c', n', s'⟩ := y
  simp [Rec.eq]

set_option maxHeartbeats 400000 in
theorem bytesEq_any (a a' : Option Addr) (n c n' c' : Nat) (l l' : List Nat) (w : World) (h : Rd w a n l) (h' : Rd w a' n' l') :
    Calls Try.prog 53 #[.slice a n c, .slice a' n' c'] w fun e w' => e = .returned (.bool (decide (l = l'))) ∧ w' = w := by
  have h1 := conv_rd h c
  have h2 := conv_rd h' c'
  have h3 := strB_sameC h.2.1 h'.2.1
  clear h h'
  go_enter Try.func53, Try.ntmps53
  go_wp2
  go_ret
  exact ⟨rfl, rfl⟩

theorem if_ok {p : Prop} [Decidable p] (q : Bool) (w : World) : (if p then Result.ok (Value.bool q) w else Result.ok (Value.bool false) w) = Result.ok (Value.bool (decide p && q)) w := by
  by_cases h : p <;> simp [h]

theorem nat_eq (n m : Nat) : ((n : Int) = (m : Int)) = (n = m) := by
  apply propext; constructor <;> intro h <;> omega

theorem eql_run (f t f' t' : Int) (w : World) : (binOp .eql 52 (.agg #[.int .i64 f, .int .i64 t]) (.agg #[.int .i64 f', .int .i64 t'])).run Try.prog w = .ok (.bool (decide (f = f') && decide (t = t'))) w := by
  rw [run_eql_struct]
  go_simp
  simp only [if_ok, Bool.and_true]

theorem eql_dig (n s n' s' : Nat) (w : World) : (binOp .eql 55 (.agg #[.int .u64 (n : Int), .int .u64 (s : Int)]) (.agg #[.int .u64 (n' : Int), .int .u64 (s' : Int)])).run Try.prog w = .ok (.bool (decide (n = n') && decide (s = s'))) w := by
  rw [run_eql_struct]
  go_simp
  simp only [if_ok, Bool.and_true, nat_eq]

set_option maxHeartbeats 2000000 in
set_option maxRecDepth 100000 in
theorem rcSame_any (x y : Rec) (a a' : Option Addr) (n c n' c' : Nat) (w : World) (h : Rd w a n x.l) (h' : Rd w a' n' y.l) :
    Calls Try.prog 35 #[rcV x a n c, rcV y a' n' c'] w fun e w' => e = .returned (.bool (x.eq y)) ∧ Below w.heap.size w w' := by
  obtain ⟨k, i, b, f, t, l, cn, dn, ds⟩ := x
  obtain ⟨k', i', b', f', t', l', cn', dn', ds'⟩ := y
  simp only at h h'
  have HE : Hid (∀ W, Below w.heap.size w W → Calls Try.prog 53 #[.slice a n c, .slice a' n' c'] W fun e w' => e = .returned (.bool (decide (l = l'))) ∧ w' = W) :=
    Lib.hid fun W hW => bytesEq_any a a' n c n' c' l l' W (h.later hW) (h'.later hW)
  clear h h'
  simp only [rcV]
  go_enter Try.func35, Try.ntmps35
  go_wp2_with fail
  any_goals
    refine (HE.out _ (((Below.refl _ _).alloc (Nat.le_refl _) _).alloc (by simp) _)).mono ?_
    rintro e w1 ⟨rfl, rfl⟩
    by_cases hl : l = l'
    all_goals go_wp2
  all_goals
    go_ret
    refine ⟨ret_bool ?_, ((Below.refl _ _).alloc (Nat.le_refl _) _).alloc (by simp) _⟩
    simp only [Rec.eq]
    clear HE
    try simp only [nat_eq] at *
    simp [*]

end Go.Proofs.Ytaijldcfoaeogaa
