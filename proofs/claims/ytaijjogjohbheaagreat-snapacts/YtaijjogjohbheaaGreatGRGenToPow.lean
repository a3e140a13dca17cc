/- The contracts of root's genOf and appendGen. -/
import Derived.Test.YtaijjogjohbheaaGreatGCheckMathToRMath
import Derived.Test.YtaijjogjohbheaaGreatGMemToKeep
import Derived.Laws.BitsAllLaws
import Derived.Laws.OwnMore
import Derived.Test.YtaijjogjohbheaaGreatRows
import Derived.WalkKit
import Derived.WalkSpells
import Derived.WalkLawsBesides
import Derived.Below
import Derived.Deep.LoopGhost
import Derived.Deep.AppendLies
import Derived.Maps.AppendAt
import Derived.OwnWalk
import Derived.Lib.Hide
import Derived.Lib.MinMax
namespace Go.Proofs.YtaijjogjohbheaaGreat
open Go.RowKit
set_option maxRecDepth 100000
set_option linter.unusedSimpArgs false

theorem pow_256 (j : Nat) : (2 : Nat) ^ (8 * j) = 256 ^ j := by rw [Nat.pow_mul]

theorem or_byte8 {X x j : Nat} (hX : X < 256 ^ j) (hx : x < 256) (hj : j < 8) :
    bits .or .u64 (X : Int) (IntKind.u64.wrap ((x : Int) * 2 ^ (8 * j))) = ((X + 256 ^ j * x : Nat) : Int) := by
  have e : ((x : Int) * 2 ^ (8 * j)) = ((x * 256 ^ j : Nat) : Int) := by
    rw [← pow_256]
    simp
  have hX' : X < 18446744073709551616 := Nat.lt_of_lt_of_le hX (Nat.le_trans (Nat.pow_le_pow_right (by omega) (show j ≤ 8 by omega)) (by omega))
  have hf : x * 256 ^ j < 18446744073709551616 := by
    have h1 : 256 ^ j ≤ 256 ^ 7 := Nat.pow_le_pow_right (by omega) (by omega)
    have := Nat.mul_le_mul (show x ≤ 255 by omega) h1
    omega
  rw [e, IntKind.wrap_u64, Int.emod_eq_of_lt (by omega) (by omega), u64_or_nat X _ hX' hf]
  have := nat_join (8 * j) (x * 256 ^ j) X (by rw [pow_256]; exact Nat.mul_mod_left _ _) (by rw [pow_256]; exact hX)
  rw [Nat.or_comm, this, Nat.mul_comm, Nat.add_comm]

theorem le_take_lt {l : List Nat} (hb : ∀ x ∈ l, x < 256) (j : Nat) : le (l.take j) < 256 ^ j :=
  Nat.lt_of_lt_of_le (le_lt _ fun x hx => hb x (List.mem_of_mem_take hx)) (Nat.pow_le_pow_right (by omega) (List.length_take_le _ _))

set_option maxHeartbeats 400000 in
set_option maxRecDepth 100000 in
theorem genOf_any (a : Option Addr) (n c : Nat) (l : List Nat) (w : World) (h : Rd w a n l) (hn : 8 ≤ n) (hc : n ≤ c) :
    Calls Tryz.prog 68 #[.slice a n c] w fun e w' => e = .returned (.int .u64 ((le (l.take 8) : Nat) : Int)) ∧ w' = w := by
  have HR := Lib.hid h
  have hsl := slice_to a n c 8 .i64 (by omega)
  have HS := Lib.hid hsl
  clear h
  go_enter Tryz.func68, Tryz.ntmps68
  go_wp2
  go_loopg [3, 9] 8 (fun k d i wr => ∃ j X : Nat, k = 8 - j ∧ j ≤ 8 ∧ i = .int .i64 (j : Int) ∧ d = .int .u64 (X : Int) ∧ X = le (l.take j) ∧ wr = w)
  case atStart => exact ⟨0, 0, rfl, Nat.zero_le _, rfl, rfl, by simp [le], rfl⟩
  case round =>
    obtain ⟨j, X, hk, hj, rfl, rfl, hX, rfl⟩ := hrel
    have HK := Lib.hid hk
    have HX := Lib.hid hX
    clear hk hX
    by_cases hlt : j < 8
    · obtain ⟨b, o, rfl, hcl⟩ := HR.out.2.2 (by omega)
      have hcell := hcl j (by omega)
      have hl : j < l.length := by have := HR.out.1; omega
      have hy : l.getD j 0 < 256 := HR.out.2.1 _ (by simp [List.getD, hl])
      obtain ⟨y, hye⟩ : ∃ y, y = l.getD j 0 := ⟨_, rfl⟩
      rw [← hye] at hcell hy
      have HY := Lib.hid hye
      have HL := Lib.hid hl
      clear hye hl hcl
      go_wp2
      go_roundg (8 - (j + 1))
      case measure => have := HK.out; omega
      case rel => exact ⟨j + 1, X + 256 ^ j * y, rfl, by omega, by go_num, by
        rw [or_byte8 (by rw [HX.out]; exact le_take_lt HR.out.2.1 j) hy hlt], by rw [le_take HL.out, ← HX.out, ← HY.out], rfl⟩
    · have hge : ¬ (j : Int) < 8 := by omega
      go_wp2
      go_ret
      have e8 : j = 8 := by omega
      exact ⟨by rw [HX.out, e8]; rfl, rfl⟩

set_option maxHeartbeats 400000 in
set_option maxRecDepth 100000 in
theorem appendGen_any (v : Value) (base G : Nat) (l : List Nat) (w : World) (h : Own w base v l) (hbase : base ≤ w.heap.size) (hn : l.length ≤ 1000000) :
    Calls Tryz.prog 102 #[v, .int .u64 (G : Int)] w fun e w' => ∃ v', e = .returned v' ∧ Own w' base v' (l ++ g8 8 G) ∧ Below base w w' := by
  obtain ⟨i0, hi0, hz0, hz1, hz2⟩ := info_parts info5
  go_enter Tryz.func102, Tryz.ntmps102
  go_wp2
  go_loopg [0, 6] 8 (fun k d i wr => ∃ j : Nat, k = 8 - j ∧ j ≤ 8 ∧ i = .int .i64 (j : Int) ∧ Own wr base d (l ++ g8 j G) ∧ Below base w wr)
  case atStart => exact ⟨0, rfl, Nat.zero_le _, rfl, by simpa [g8] using h, Below.refl _ _⟩
  case round =>
    obtain ⟨j, hk, hj, rfl, ho, hb⟩ := hrel
    have HK := Lib.hid hk
    have hbr : base ≤ wr.heap.size := Nat.le_trans hbase hb.size
    obtain ⟨M, hM⟩ : ∃ M, M = l ++ g8 j G := ⟨_, rfl⟩
    have hl : M.length ≤ 1000008 := by rw [hM, List.length_append, g8_length]; omega
    rw [← hM] at ho
    have HM := Lib.hid hM
    clear hk hM
    by_cases hlt : j < 8
    · go_wp2_with (at_builtin; refine wpList_append_own_at _ rfl (.tmp 9) (.tmp 15) 40 rfl base 5 i0 _ 1 1 Tryz.underlying40 hi0 hz0 hz1 hz2 rfl (by omega) _ M.length (cB M) rfl (ho.2.alloc _) ⟨wr.heap.size, 0, none⟩ 1 1 [_] rfl ?hlen (cell_one_new _ _ _) ?one ?h63 ?hby ?hbase ?next)
      case hlen => rfl
      case one => intro u hu; simp only [List.mem_singleton] at hu; subst hu; rfl
      case h63 => unfold maxLen; omega
      case hby => omega
      case hbase => simp; omega
      case next =>
        intro v' w' hown hg _ _
        have hb' : Below base w w' := (hb.alloc hbr _).grown hg (by simp; omega) (fun k hk => (ho.2.lt k hk).1)
        have e : ((G : Int) / 2 ^ (8 * j)) % 256 = ((G / 256 ^ j % 256 : Nat) : Int) := by rw [← pow_256]; simp
        have ho' : Own w' base v' (M ++ [G / 256 ^ j % 256]) := Own.snoc (Nat.mod_lt _ (by omega)) ho.1 (by rw [← e]; exact hown)
        clear hown hg
        go_wp2
        go_roundg (8 - (j + 1))
        case measure => have := HK.out; omega
        case rel => exact ⟨j + 1, rfl, by omega, by go_num, by rw [g8_snoc, ← List.append_assoc, ← HM.out]; exact ho', hb'⟩
    · have hge : ¬ (j : Int) < 8 := by omega
      go_wp2
      go_ret
      have e8 : j = 8 := by omega
      exact ⟨_, rfl, by rw [← e8, ← HM.out]; exact ho, hb⟩

end Go.Proofs.YtaijjogjohbheaaGreat

/- A row that 'make' has laid, with room, and an append that fills its head: what it holds, its spare room too. -/
namespace Go.Proofs.YtaijjogjohbheaaGreat
open Go.RowKit
set_option maxRecDepth 100000

theorem mk0_toList (N : Nat) : (mk0 N).toList = cB (List.replicate N 0) := by
  unfold mk0
  rw [toList_madeCells_one]
  simp [cB]

theorem rd_row {w : World} {g : Nat} {cur : Array Value} {L : List Nat} (hg : w.heap[g]? = some (.cells cur 5 (0, 0))) (hc : cur.toList = cB L) (hb : ∀ x ∈ L, x < 256) : Rd w (some ⟨g, 0, none⟩) L.length L := by
  refine ⟨rfl, hb, fun _ => ⟨g, 0, rfl, fun j hj => ?_⟩⟩
  rw [Nat.zero_add, cell_of_row w g j cur 5 (0, 0) hg, ← Array.getElem?_toList, hc]
  simp [cB, List.getD, hj]

set_option maxRecDepth 100000 in
theorem run_append_made (w : World) (g N : Nat) (hg : w.heap[g]? = some (.cells (mk0 N) 5 (0, 0))) (A : Option Addr) (n c : Nat) (l : List Nat) (hr : Rd w A n l) (hn : n ≤ N) (ty : TypeId) :
    ∃ w', (Builtin.append_ #[40, 40] ty #[.slice (some ⟨g, 0, none⟩) 0 N, .slice A n c]).run Tryz.prog w = .ok (.slice (some ⟨g, 0, none⟩) n N) w' ∧ Rd w' (some ⟨g, 0, none⟩) N (l ++ List.replicate (N - n) 0) ∧ w.grownBy w' (some g) := by
  obtain ⟨i0, hi0, hz0, hz1, hz2⟩ := info_parts info5
  have hby : ∀ y ∈ l ++ List.replicate (N - n) 0, y < 256 := by
    intro y hy
    simp only [List.mem_append, List.mem_replicate] at hy
    rcases hy with hy | hy
    · exact hr.2.1 y hy
    · omega
  have hlen : (l ++ List.replicate (N - n) 0).length = N := by rw [List.length_append, List.length_replicate, hr.1]; omega
  rcases A with _ | ad
  · have h0 : n = 0 := by
      rcases Nat.eq_zero_or_pos n with h | h
      · exact h
      · obtain ⟨b, o, h, _⟩ := hr.2.2 h; cases h
    subst h0
    have : l = [] := List.eq_nil_of_length_eq_zero hr.1
    subst this
    refine ⟨w, ?_, ?_, World.grownBy.refl _ _⟩
    · simp [Builtin.append_, run_underlying Tryz.underlying40, sizeOf, typeInfo, hi0, Builtin.lenOf, Builtin.firstCells, storeCells]
    · have := rd_row hg (L := [] ++ List.replicate (N - 0) 0) (by rw [mk0_toList]; simp) hby
      rw [hlen] at this
      exact this
  · have hsz : (mk0 N).size = N := by unfold mk0; rw [size_madeCells]
    have hrun := run_append_room (P := Tryz.prog) w 40 ty 5 i0 Tryz.underlying40 hi0 g 0 N (mk0 N) hg ad n c (cB l) (by rw [cB_length, hr.1, hz1]; omega) (rd_cells hr) (cB_one l) (by omega) (by rw [cB_length, hr.1, hsz]; omega)
    rw [Nat.zero_add] at hrun
    refine ⟨_, hrun, ?_, ⟨rfl, rfl, rfl, by simp, fun k _ hk => setRow_other w g k _ (fun e => hk (by simp [e]))⟩⟩
    have hheap := setRow_heap w g (mk0 N) ((mk0 N).toList.take (0 * i0.size) ++ cB l ++ (mk0 N).toList.drop (0 * i0.size + (cB l).length)).toArray 5 (0, 0) hg
    have := rd_row hheap (L := l ++ List.replicate (N - n) 0) (by
      rw [mk0_toList, cB_append]
      simp only [Nat.zero_mul, List.take_zero, List.nil_append, Nat.zero_add, cB_length, hr.1]
      congr 1
      simp [cB]) hby
    rw [hlen] at this
    exact this

theorem wpList_append_made {w : World} {ops : Array Oper} {rest : List Oper} {o : Oper} {a : Act} {Q : Exit → Act → World → Prop} (hgd : o.guard = none) (s x : Operand)
    (hop : o.op = .call { callee := .builtin .append, args := #[s, x], argTypes := #[40, 40] }) (g N : Nat) (hs : a.eval s = .slice (some ⟨g, 0, none⟩) 0 N) (A : Option Addr) (n c : Nat) (hx : a.eval x = .slice A n c)
    (hg : w.heap[g]? = some (.cells (mk0 N) 5 (0, 0))) (l : List Nat) (hr : Rd w A n l) (hn : n ≤ N)
    (h : ∀ w', Rd w' (some ⟨g, 0, none⟩) N (l ++ List.replicate (N - n) 0) → w.grownBy w' (some g) → wpList Tryz.prog ops Q rest (a.put o.dst (.slice (some ⟨g, 0, none⟩) n N)) w') :
    wpList Tryz.prog ops Q (o :: rest) a w := by
  refine wpList_plain hgd fun K hK => ?_
  obtain ⟨w', hrun, h1, h2⟩ := run_append_made w g N hg A n c l hr hn o.type
  unfold Oper.wp execOp
  simp only [hop, resolve, invoke, builtin, Sem.run_bind, Sem.run_pure, Result.andThen_ok, List.map_toArray, List.map_cons, List.map_nil, hs, hx, hrun]
  exact hK _ _ (h w' h1 h2)

end Go.Proofs.YtaijjogjohbheaaGreat

/- Power in memory, and the contracts of its functions, over any world: the world behind a call is given exactly. -/
namespace Go.Proofs.YtaijjogjohbheaaGreat
open Go.RowKit
set_option maxRecDepth 100000

/-- Power: whether it is on, the plan (how many writes from now, and how many bytes of the write then), how many writes there were. -/
structure Pw where
  on : Bool
  plan : Option (Nat × Int)
  count : Nat

def Pw.after (s : Pw) : Int := match s.plan with | some (k, _) => (k : Int) | none => 0
def Pw.torn (s : Pw) : Int := match s.plan with | some (_, t) => t | none => 0

def powObj (s : Pw) : Obj := .cells #[.bool (!s.on), .bool s.plan.isSome, .int .i64 s.after, .int .i64 s.torn, .int .i64 (s.count : Int)] 69 (0, 0)

def Pw.ok (s : Pw) : Prop := (∀ k t, s.plan = some (k, t) → k < 9223372036854775808) ∧ s.count < 4611686018427387904

/-- Block g is power in state s. -/
def Pow (w : World) (g : Nat) (s : Pw) : Prop := w.heap[g]? = some (powObj s)

theorem Pow.put {w : World} {g : Nat} {s : Pw} (h : Pow w g s) (s' : Pw) : Pow (put w g (powObj s')) g s' := put_same h

theorem Pow.lt {w : World} {g : Nat} {s : Pw} (h : Pow w g s) : g < w.heap.size := (Array.getElem?_eq_some_iff.1 h).1

theorem Pow.kept {w w' : World} {g : Nat} {s : Pw} {row : Option Nat} (h : Pow w g s) (hw : w.grownBy w' row) (hne : some g ≠ row) : Pow w' g s := (hw.block g h.lt hne).trans h

theorem Pow.below {w w' : World} {g B : Nat} {s : Pw} (h : Pow w g s) (hw : Below B w w') (hlt : g < B) : Pow w' g s := (hw.block g hlt).trans h

/-- What lies in power's cells. -/
theorem Pow.cells {w : World} {g : Nat} {s : Pw} (h : Pow w g s) :
    w.cell? ⟨g, 0, none⟩ = some (.bool (!s.on)) ∧ w.cell? ⟨g, 1, none⟩ = some (.bool s.plan.isSome) ∧ w.cell? ⟨g, 2, none⟩ = some (.int .i64 s.after) ∧ w.cell? ⟨g, 3, none⟩ = some (.int .i64 s.torn) ∧ w.cell? ⟨g, 4, none⟩ = some (.int .i64 (s.count : Int)) := by
  refine ⟨?_, ?_, ?_, ?_, ?_⟩ <;> rw [cell_of_row w g _ _ 69 (0, 0) h] <;> rfl

theorem Pow.soft {w : World} {g : Nat} {s : Pw} (h : Pow w g s) (i : Nat) : w.frozen? ⟨g, i, none⟩ = false := by
  have h' : w.heap[g]? = some (powObj s) := h
  simp [World.frozen?, h', powObj]

/-- The five cells laid anew. -/
def powCells (o p : Bool) (a t c : Int) : Obj := .cells #[.bool o, .bool p, .int .i64 a, .int .i64 t, .int .i64 c] 69 (0, 0)

theorem lay0 {w : World} {g : Nat} {o p : Bool} {a t c : Int} (h : w.heap[g]? = some (powCells o p a t c)) (x : Bool) : w.setCell ⟨g, 0, none⟩ (.bool x) = put w g (powCells x p a t c) := set_put _ h
theorem lay1 {w : World} {g : Nat} {o p : Bool} {a t c : Int} (h : w.heap[g]? = some (powCells o p a t c)) (x : Bool) : w.setCell ⟨g, 1, none⟩ (.bool x) = put w g (powCells o x a t c) := set_put _ h
theorem lay2 {w : World} {g : Nat} {o p : Bool} {a t c : Int} (h : w.heap[g]? = some (powCells o p a t c)) (x : Int) : w.setCell ⟨g, 2, none⟩ (.int .i64 x) = put w g (powCells o p x t c) := set_put _ h
theorem lay3 {w : World} {g : Nat} {o p : Bool} {a t c : Int} (h : w.heap[g]? = some (powCells o p a t c)) (x : Int) : w.setCell ⟨g, 3, none⟩ (.int .i64 x) = put w g (powCells o p a x c) := set_put _ h
theorem lay4 {w : World} {g : Nat} {o p : Bool} {a t c : Int} (h : w.heap[g]? = some (powCells o p a t c)) (x : Int) : w.setCell ⟨g, 4, none⟩ (.int .i64 x) = put w g (powCells o p a t x) := set_put _ h

theorem unplan_any (w : World) (g : Nat) (o p : Bool) (a t c : Int) (h : w.heap[g]? = some (powCells o p a t c)) :
    Calls Tryz.prog 25 #[.pointer (some ⟨g, 0, none⟩)] w fun e w' => e = .returned (.tuple #[]) ∧ w' = put w g (powCells o false 0 0 c) := by
  have H := Lib.hid h
  have f0 : ∀ i, w.frozen? ⟨g, i, none⟩ = false := by intro i; simp [World.frozen?, h, powCells]
  have h1 : w.cell? ⟨g, 1, none⟩ = some (.bool p) := by rw [cell_of_row w g _ _ 69 (0, 0) h]; rfl
  have h2 : w.cell? ⟨g, 2, none⟩ = some (.int .i64 a) := by rw [cell_of_row w g _ _ 69 (0, 0) h]; rfl
  have h3 : w.cell? ⟨g, 3, none⟩ = some (.int .i64 t) := by rw [cell_of_row w g _ _ 69 (0, 0) h]; rfl
  clear h
  go_enter Tryz.func25, Tryz.ntmps25
  go_wp2
  go_end0
  exact ⟨rfl, by rw [lay1 H.out, lay2 (put_same H.out), put_put, lay3 (put_same H.out), put_put]⟩

/-- Planned. -/
def Pw.planned (s : Pw) (a t : Int) : Pw := ⟨s.on, if 0 ≤ a then some (a.toNat, t) else none, s.count⟩

theorem planned_yes (s : Pw) {a : Int} (t : Int) (h : 0 ≤ a) : s.planned a t = ⟨s.on, some (a.toNat, t), s.count⟩ := by simp [Pw.planned, h]
theorem planned_no (s : Pw) {a : Int} (t : Int) (h : a < 0) : s.planned a t = ⟨s.on, none, s.count⟩ := by simp [Pw.planned]; omega

/-- On, without a plan. -/
def Pw.up (s : Pw) : Pw := ⟨true, none, s.count⟩

/-- A write: power behind it, how many bytes go through, the error. -/
def Pw.write (s : Pw) (n : Int) : Pw × Int × Nat :=
  if n < 0 then (s, 0, 1) else if s.on = false then (s, 0, 11) else
  match s.plan with
  | none => (⟨s.on, none, s.count + 1⟩, n, 0)
  | some (0, t) => (⟨false, none, s.count + 1⟩, min (max t 0) n, 11)
  | some (k + 1, t) => (⟨s.on, some (k, t), s.count + 1⟩, n, 0)

theorem powObj_mk (o p : Bool) (a t : Int) (c : Nat) (s : Pw) (h0 : (!s.on) = o) (h1 : s.plan.isSome = p) (h2 : s.after = a) (h3 : s.torn = t) (h4 : s.count = c) : powCells o p a t (c : Int) = powObj s := by
  subst h0 h1 h2 h3 h4; rfl

theorem new_any (w : World) : Calls Tryz.prog 7 #[] w fun e w' => e = .returned (.pointer (some ⟨w.heap.size, 0, none⟩)) ∧ w' = w.alloc (powObj ⟨true, none, 0⟩) := by
  go_enter Tryz.func7, Tryz.ntmps7
  go_wp2
  go_ret
  exact ⟨rfl, rfl⟩

theorem on_any (w : World) (g : Nat) (s : Pw) (h : Pow w g s) : Calls Tryz.prog 12 #[.pointer (some ⟨g, 0, none⟩)] w fun e w' => e = .returned (.bool s.on) ∧ w' = w := by
  have h0 := h.cells.1
  clear h
  go_enter Tryz.func12, Tryz.ntmps12
  go_wp2
  go_ret
  exact ⟨by simp, rfl⟩

theorem on_nil (w : World) : Calls Tryz.prog 12 #[.pointer none] w fun e w' => e = .returned (.bool false) ∧ w' = w := by
  go_enter Tryz.func12, Tryz.ntmps12
  go_wp2
  go_ret
  exact ⟨rfl, rfl⟩

theorem up_nil (w : World) : Calls Tryz.prog 13 #[.pointer none] w fun e w' => e = .returned (.tuple #[]) ∧ w' = w := by
  go_enter Tryz.func13, Tryz.ntmps13
  go_wp2
  refine bodyPost_ret (results_none rfl _ _ _) rfl ?_
  exact ⟨rfl, rfl⟩

theorem plan_nil (w : World) (a t : Int) : Calls Tryz.prog 9 #[.pointer none, .int .i64 a, .int .i64 t] w fun e w' => e = .returned (.tuple #[]) ∧ w' = w := by
  go_enter Tryz.func9, Tryz.ntmps9
  go_wp2
  refine bodyPost_ret (results_none rfl _ _ _) rfl ?_
  exact ⟨rfl, rfl⟩

theorem up_any (w : World) (g : Nat) (s : Pw) (h : Pow w g s) : Calls Tryz.prog 13 #[.pointer (some ⟨g, 0, none⟩)] w fun e w' => e = .returned (.tuple #[]) ∧ w' = put w g (powObj s.up) := by
  have h0 := h.cells.1
  have f0 := h.soft 0
  have H := Lib.hid h
  clear h
  go_enter Tryz.func13, Tryz.ntmps13
  go_wp2_with fail
  have hw : w.setCell ⟨g, 0, none⟩ (.bool false) = put w g (powCells false s.plan.isSome s.after s.torn s.count) := lay0 H.out false
  rw [hw]
  refine (unplan_any _ g _ _ _ _ _ (put_same H.out)).mono ?_
  rintro e w1 ⟨rfl, rfl⟩
  rw [put_put]
  go_wp2
  go_end0
  exact ⟨rfl, rfl⟩

theorem plan_any (w : World) (g : Nat) (s : Pw) (a t : Int) (h : Pow w g s) : Calls Tryz.prog 9 #[.pointer (some ⟨g, 0, none⟩), .int .i64 a, .int .i64 t] w fun e w' => e = .returned (.tuple #[]) ∧ w' = put w g (powObj (s.planned a t)) := by
  have H := Lib.hid h
  have hU := Lib.hid (unplan_any w g (!s.on) s.plan.isSome s.after s.torn s.count h)
  obtain ⟨w1, hw1⟩ : ∃ w1, w1 = put w g (powCells (!s.on) false 0 0 s.count) := ⟨_, rfl⟩
  have h1 : w1.heap[g]? = some (powCells (!s.on) false 0 0 s.count) := by rw [hw1]; exact put_same h
  have H1 := Lib.hid h1
  have f1 : ∀ i, w1.frozen? ⟨g, i, none⟩ = false := by intro i; simp [World.frozen?, h1, powCells]
  have c1 : w1.cell? ⟨g, 1, none⟩ = some (.bool false) := by rw [cell_of_row w1 g _ _ 69 (0, 0) h1]; rfl
  have c2 : w1.cell? ⟨g, 2, none⟩ = some (.int .i64 0) := by rw [cell_of_row w1 g _ _ 69 (0, 0) h1]; rfl
  have c3 : w1.cell? ⟨g, 3, none⟩ = some (.int .i64 0) := by rw [cell_of_row w1 g _ _ 69 (0, 0) h1]; rfl
  have HW := Lib.hid hw1
  clear h h1 hw1
  by_cases ha : 0 ≤ a
  · go_enter Tryz.func9, Tryz.ntmps9
    go_wp2_with fail
    refine hU.out.mono ?_
    rintro e w2 ⟨rfl, rfl⟩
    rw [← HW.out]
    go_wp2
    go_end0
    refine ⟨rfl, ?_⟩
    rw [lay1 H1.out, lay2 (put_same H1.out), put_put, lay3 (put_same H1.out), put_put, HW.out, put_put]
    congr 1
    exact powObj_mk _ _ _ _ _ _ rfl (by rw [planned_yes _ _ ha]; rfl) (by rw [planned_yes _ _ ha]; exact Int.toNat_of_nonneg ha) (by rw [planned_yes _ _ ha]; rfl) rfl
  · have ha' : a < 0 := by omega
    go_enter Tryz.func9, Tryz.ntmps9
    go_wp2_with fail
    refine hU.out.mono ?_
    rintro e w2 ⟨rfl, rfl⟩
    rw [← HW.out]
    go_wp2
    go_end0
    refine ⟨rfl, ?_⟩
    rw [HW.out]
    congr 1
    exact powObj_mk _ _ _ _ _ _ rfl (by rw [planned_no _ _ ha']; rfl) (by rw [planned_no _ _ ha']; rfl) (by rw [planned_no _ _ ha']; rfl) rfl

theorem fail_any (w : World) (g : Nat) (s : Pw) (n : Int) (h : Pow w g s) : Calls Tryz.prog 110 #[.pointer (some ⟨g, 0, none⟩), .int .i64 n] w fun e w' => e = .returned (.int .i64 (min (max s.torn 0) n)) ∧ w' = put w g (powObj ⟨false, none, s.count⟩) := by
  have h0 := h.cells.1
  have h3 := h.cells.2.2.2.1
  have f0 := h.soft 0
  have H := Lib.hid h
  clear h
  go_enter Tryz.func110, Tryz.ntmps110
  go_wp2_with fail
  have hw : w.setCell ⟨g, 0, none⟩ (.bool true) = put w g (powCells true s.plan.isSome s.after s.torn s.count) := lay0 H.out true
  rw [hw]
  refine (unplan_any _ g _ _ _ _ _ (put_same H.out)).mono ?_
  rintro e w1 ⟨rfl, rfl⟩
  rw [put_put]
  go_wp2
  go_ret
  exact ⟨rfl, rfl⟩

theorem write_arg (s : Pw) {n : Int} (h : n < 0) : s.write n = (s, 0, 1) := by simp [Pw.write, h]
theorem write_off {s : Pw} {n : Int} (h : ¬ n < 0) (ho : s.on = false) : s.write n = (s, 0, 11) := by simp [Pw.write, h, ho]
theorem write_on {o : Bool} {c : Nat} {n : Int} (h : ¬ n < 0) (ho : o = true) : (Pw.mk o none c).write n = (⟨true, none, c + 1⟩, n, 0) := by simp [Pw.write, h, ho]
theorem write_fall {o : Bool} {c : Nat} {t n : Int} (h : ¬ n < 0) (ho : o = true) : (Pw.mk o (some (0, t)) c).write n = (⟨false, none, c + 1⟩, min (max t 0) n, 11) := by simp [Pw.write, h, ho]
theorem write_less {o : Bool} {c k : Nat} {t n : Int} (h : ¬ n < 0) (ho : o = true) : (Pw.mk o (some (k + 1, t)) c).write n = (⟨true, some (k, t), c + 1⟩, n, 0) := by simp [Pw.write, h, ho]

theorem write_argAny (w : World) (p : Option Addr) (n : Int) (hn : n < 0) :
    Calls Tryz.prog 101 #[.pointer p, .int .i64 n] w fun e w' => e = .returned (.tuple #[.int .i64 0, .int .i64 1]) ∧ w' = w := by
  go_enter Tryz.func101, Tryz.ntmps101
  go_wp2
  go_ret2
  exact ⟨rfl, rfl⟩

theorem write_nil (w : World) (n : Int) (hn : ¬ n < 0) :
    Calls Tryz.prog 101 #[.pointer none, .int .i64 n] w fun e w' => e = .returned (.tuple #[.int .i64 0, .int .i64 11]) ∧ w' = w := by
  have hn' : 0 ≤ n := by omega
  go_enter Tryz.func101, Tryz.ntmps101
  go_wp2_with fail
  refine (on_nil w).mono ?_
  rintro e w1 ⟨rfl, rfl⟩
  go_wp2
  go_ret2
  exact ⟨rfl, rfl⟩

set_option maxRecDepth 100000 in
theorem write_any (w : World) (g : Nat) (s : Pw) (n : Int) (h : Pow w g s) (hok : s.ok) :
    Calls Tryz.prog 101 #[.pointer (some ⟨g, 0, none⟩), .int .i64 n] w fun e w' => e = .returned (.tuple #[.int .i64 (s.write n).2.1, .int .i64 ((s.write n).2.2 : Int)]) ∧ w' = put w g (powObj (s.write n).1) := by
  by_cases hn : n < 0
  · rw [write_arg s hn]
    refine (write_argAny w _ n hn).mono ?_
    rintro e w1 ⟨rfl, rfl⟩
    exact ⟨rfl, (put_self h).symm⟩
  have hn' : 0 ≤ n := by omega
  have H := Lib.hid h
  have hO := Lib.hid (on_any w g s h)
  by_cases ho : s.on = false
  · rw [write_off hn ho]
    rw [ho] at hO
    have HO := Lib.hid ho
    clear h ho hn
    go_enter Tryz.func101, Tryz.ntmps101
    go_wp2_with fail
    refine hO.out.mono ?_
    rintro e w1 ⟨rfl, rfl⟩
    go_wp2
    go_ret2
    exact ⟨rfl, (put_self H.out).symm⟩
  have ho' : s.on = true := by simpa using ho
  obtain ⟨o, p, c⟩ := s
  simp only at ho ho'
  subst ho'
  have hw1 : IntKind.i64.wrap ((c : Int) + 1) = ((c + 1 : Nat) : Int) := by
    have := hok.2
    simp only at this
    rw [IntKind.wrap_i64] <;> omega
  have f0 := h.soft
  match p, hok with
  | none, hok =>
    rw [write_on hn rfl]
    have h1 : w.cell? ⟨g, 1, none⟩ = some (.bool false) := h.cells.2.1
    have h4 : w.cell? ⟨g, 4, none⟩ = some (.int .i64 (c : Int)) := h.cells.2.2.2.2
    clear h hok ho hn
    go_enter Tryz.func101, Tryz.ntmps101
    go_wp2_with fail
    refine hO.out.mono ?_
    rintro e w1 ⟨rfl, rfl⟩
    go_wp2
    go_ret2
    refine ⟨rfl, ?_⟩
    first
      | exact lay4 H.out ((c + 1 : Nat) : Int)
      | (rw [← hw1]; exact lay4 H.out _)
  | some (0, t), hok =>
    rw [write_fall hn rfl]
    have h1 : w.cell? ⟨g, 1, none⟩ = some (.bool true) := h.cells.2.1
    have h2 : w.cell? ⟨g, 2, none⟩ = some (.int .i64 0) := h.cells.2.2.1
    have h4 : w.cell? ⟨g, 4, none⟩ = some (.int .i64 (c : Int)) := h.cells.2.2.2.2
    have hl : w.setCell ⟨g, 4, none⟩ (.int .i64 ((c + 1 : Nat) : Int)) = put w g (powObj ⟨true, some (0, t), c + 1⟩) := lay4 h _
    have hF := fail_any (put w g (powObj ⟨true, some (0, t), c + 1⟩)) g ⟨true, some (0, t), c + 1⟩ n (put_same h)
    rw [← hl, show put (w.setCell ⟨g, 4, none⟩ (.int .i64 ((c + 1 : Nat) : Int))) g = put (put w g (powObj ⟨true, some (0, t), c + 1⟩)) g from by rw [hl], put_put] at hF
    have HF := Lib.hid hF
    clear h hok ho hn hl hF
    go_enter Tryz.func101, Tryz.ntmps101
    go_wp2_with fail
    refine hO.out.mono ?_
    rintro e w1 ⟨rfl, rfl⟩
    go_wp2_with fail
    refine HF.out.mono ?_
    rintro e w1 ⟨rfl, rfl⟩
    go_wp2
    go_ret2
    exact ⟨rfl, rfl⟩
  | some (k + 1, t), hok =>
    rw [write_less hn rfl]
    have hk := hok.1 (k + 1) t rfl
    have hw2 : IntKind.i64.wrap (((k + 1 : Nat) : Int) - 1) = (k : Int) := by
      rw [IntKind.wrap_i64] <;> omega
    have hz : (((k + 1 : Nat) : Int) == 0) = false := by simp; omega
    have h1 : w.cell? ⟨g, 1, none⟩ = some (.bool true) := h.cells.2.1
    have h2 : w.cell? ⟨g, 2, none⟩ = some (.int .i64 ((k + 1 : Nat) : Int)) := h.cells.2.2.1
    have h4 : w.cell? ⟨g, 4, none⟩ = some (.int .i64 (c : Int)) := h.cells.2.2.2.2
    obtain ⟨K, hK⟩ : ∃ K : Nat, K = k + 1 := ⟨_, rfl⟩
    rw [← hK] at h2 hw2 hz
    clear h hok ho hn hk hK
    go_enter Tryz.func101, Tryz.ntmps101
    go_wp2_with fail
    refine hO.out.mono ?_
    rintro e w1 ⟨rfl, rfl⟩
    go_wp2
    go_ret2
    refine ⟨rfl, ?_⟩
    have e := lay4 (x := ((c + 1 : Nat) : Int)) H.out
    have H2 : (put w1 g (powCells false true ((k + 1 : Nat) : Int) t ((c + 1 : Nat) : Int))).heap[g]? = some (powCells false true ((k + 1 : Nat) : Int) t ((c + 1 : Nat) : Int)) := put_same H.out
    first
      | (refine (congrArg (fun v : World => v.setCell ⟨g, 2, none⟩ (.int .i64 (k : Int))) e).trans ?_; exact (lay2 H2 _).trans (put_put _ _ _ _))
      | trace_state
end Go.Proofs.YtaijjogjohbheaaGreat
