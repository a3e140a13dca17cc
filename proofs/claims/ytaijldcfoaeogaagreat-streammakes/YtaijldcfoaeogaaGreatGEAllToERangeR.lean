/- A set's All as a function that a loop goes over: whatever the loop's body does, as long as it keeps the set and what lies beyond a block. -/
import Derived.Test.YtaijldcfoaeogaaGreatGESortToEHas
import Derived.RangeFuncNested
import Derived.RangeFuncBound
import Derived.RangeFuncCalls
import Derived.RangeFuncLeaves
import Derived.Shelf.Abstract
import Derived.Shelf.RegionOpen
import Derived.OwnWalkIn
import Derived.TacticsInMore
import Derived.LoopNIn
import Derived.LoopIn
namespace Go.Proofs.YtaijldcfoaeogaaGreat
open Go.RowKit Go.Shelf

attribute [local go_sem] Oper.semAt_some

/-- The first numbers of a run. -/
def segR (f : Int) (k : Nat) : List Int := (List.range k).map fun j : Nat => f + (j : Int)

theorem segR_succ (f : Int) (k : Nat) : segR f (k + 1) = segR f k ++ [f + (k : Int)] := by simp [segR, List.range_succ]

/-- The numbers of some runs, one behind the other. -/
def numsR : List Rn → List Int
  | [] => []
  | r :: L => segR r.f (r.t - r.f).toNat ++ numsR L

theorem numsR_append (A B : List Rn) : numsR (A ++ B) = numsR A ++ numsR B := by
  induction A with
  | nil => rfl
  | cons r A ih => simp only [List.cons_append, numsR, ih, List.append_assoc]

theorem numsR_one (r : Rn) : numsR [r] = segR r.f (r.t - r.f).toNat := by simp [numsR]

theorem numsR_take_prefix (M : List Rn) (k : Nat) : numsR (M.take k) <+: numsR M := by
  refine ⟨numsR (M.drop k), ?_⟩
  rw [← numsR_append, List.take_append_drop]

theorem segR_prefix {f : Int} {j k : Nat} (h : j ≤ k) : segR f j <+: segR f k := by
  refine ⟨(List.range (k - j)).map (fun i : Nat => f + ((j + i : Nat) : Int)), ?_⟩
  have : k = j + (k - j) := by omega
  rw [show segR f k = segR f (j + (k - j)) by rw [← this]]
  unfold segR
  rw [List.range_add, List.map_append, List.map_map]
  rfl

/-- What lies from B on stays, but block l. -/
structure KeepA (B l : Nat) (W W' : World) : Prop where
  size : W.heap.size ≤ W'.heap.size
  same : ∀ k, B ≤ k → k ≠ l → k < W.heap.size → W'.heap[k]? = W.heap[k]?

theorem eql_yield (l : Nat) (w : World) : (binOp .eql 99 (.func (.yield l) #[] #[]) .nilFunc).run Tryz.prog w = .ok (.bool false) w := by
  have h : ∀ d : Nat, (Op.equalIn (d + 1) 99 (.func (.yield l) #[] #[]) .nilFunc).run Tryz.prog w = .ok false w := fun d => by
    simp [Op.equalIn, run_underlying Tryz.underlying99]
  simp only [binOp]
  simp [Op.equal, Op.maxDepth, h 9999]

set_option maxHeartbeats 4000000 in
set_option maxRecDepth 100000 in
theorem all_in (F : Fence) (n : Nat) (hF : F.fn 45) (hro : F.round = none) (hn : 1 ≤ n) (sa : Option Addr) (sn sc : Nat) (M : List Rn) (hsn : sn ≤ 1000000) (hok : ∀ r ∈ M, r.ok) (l B : Nat) (J Jx : List Int → World → Prop)
    (hJa : ∀ pre W o, J pre W → J pre (W.alloc o)) (hJG : ∀ pre W, J pre W → RdR W sa sn M ∧ B ≤ W.heap.size ∧ l < W.heap.size)
    (hY : ∀ pre x W1, J pre W1 → pre ++ [x] <+: numsR M → YieldAt F (n - 1) Tryz.prog l #[.int .i64 x] W1 fun e W' => (e = .returned (.bool true) ∧ J (pre ++ [x]) W' ∧ KeepA B l W1 W') ∨ (e = .returned (.bool false) ∧ Jx (pre ++ [x]) W'))
    (W : World) (h0 : J [] W) :
    CallsIn F n Tryz.prog 45 #[.slice sa sn sc, .func (.yield l) #[] #[]] W fun e W' => (∃ v, e = .returned v) ∧ (J (numsR M) W' ∨ ∃ pre, pre <+: numsR M ∧ Jx pre W') := by
  have HJa := Lib.hid hJa
  have HJG := Lib.hid hJG
  have HY := Lib.hid hY
  have HOk := Lib.hid hok
  have HML := Lib.hid (hJG _ _ h0).1.1
  clear hJa hJG hY hok
  have hnil := fun w => eql_yield l w
  refine callsIn_of_wp Tryz.func45 rfl hF ?_ hro
  simp only [Tryz.ntmps45, List.size_toArray, List.length_cons, List.length_nil, Nat.reduceAdd, Nat.reduceSub, Array.replicate_succ, Array.replicate_zero, List.push_toArray, List.append_toArray, List.nil_append, List.cons_append]
  gi_wp2
  gi_loopw [11] (fun i wr => ∃ k : Nat, k ≤ sn ∧ i = .int .i64 (k : Int) ∧ J (numsR (M.take k)) wr) (fun i _ => sn - (intOf i).toNat)
  case atStart => exact ⟨0, Nat.zero_le _, rfl, by simpa [numsR] using h0⟩
  case round =>
    obtain ⟨k, hk, rfl, hJ⟩ := hrel
    by_cases hlt : k < sn
    · obtain ⟨hrd, hBw, hlw⟩ := HJG.out _ _ hJ
      obtain ⟨b, o, r, rfl, hre, hbl, e0, e1⟩ := hrd.at_ (Below.refl _ _) hlt
      have hkl : k < M.length := by have := HML.out; omega
      have hst := takeR_succ hkl hre
      have hrk : r.ok := by rw [hre]; exact HOk.out _ (getD_mem hkl)
      have HST := Lib.hid hst
      have HRK := Lib.hid hrk
      have HJ := Lib.hid (HJa.out _ _ (.cells #[.int .i64 r.f, .int .i64 r.t] 53) hJ)
      obtain ⟨f, t⟩ := r
      simp only at e0 e1
      clear hst hre hkl hrk hrd hJ
      gi_wp2
      obtain ⟨q, hq⟩ : ∃ q, q = (t - f).toNat := ⟨_, rfl⟩
      obtain ⟨bx, hbx⟩ : ∃ bx, bx = wr.heap.size := ⟨_, rfl⟩
      have HBx : Hid (B ≤ bx ∧ bx ≠ l) := Lib.hid (by omega)
      have hrk2 : f + (q : Int) ≤ 1099511627776 := by
        obtain ⟨h1, h2, h3, h4⟩ := HRK.out
        simp only at h1 h2 h3 h4
        omega
      have hrk3 : -1099511627776 ≤ f := HRK.out.1
      have HPre : Hid (∀ j, j < q → (numsR (M.take k) ++ segR f j) ++ [f + (j : Int)] <+: numsR M) := Lib.hid (by
        intro j hj
        have h1 := numsR_take_prefix M (k + 1)
        rw [HST.out, numsR_append, numsR_one] at h1
        refine List.IsPrefix.trans ?_ h1
        rw [List.append_assoc, ← segR_succ]
        have h2 : segR f (j + 1) <+: segR f (t - f).toNat := segR_prefix (by omega)
        obtain ⟨z, hz⟩ := h2
        exact ⟨z, by simp only; rw [List.append_assoc, hz]⟩)
      have HSt2 : Hid (numsR (M.take (k + 1)) = numsR (M.take k) ++ segR f q) := Lib.hid (by rw [HST.out, numsR_append, numsR_one, hq])
      have hc1 : (wr.alloc (.cells #[.int .i64 f, .int .i64 t] 53)).cell? ⟨bx, 1, none⟩ = some (.int .i64 t) := by rw [hbx]; exact (BoxR.new wr f t 53).2
      have hbs : bx < (wr.alloc (.cells #[.int .i64 f, .int .i64 t] 53)).heap.size := by rw [hbx]; simp
      obtain ⟨w0, hw0⟩ : ∃ w0, w0 = wr.alloc (.cells #[.int .i64 f, .int .i64 t] 53) := ⟨_, rfl⟩
      rw [← hw0] at HJ hc1 hbs ⊢
      rw [← hbx]
      clear hw0 hbx e0 e1 hlw hBw
      have HQ := Lib.hid hq
      clear hq
      gi_loopw [6] (fun v wq => ∃ j : Nat, j ≤ q ∧ v = .int .i64 (f + (j : Int)) ∧ Hid (J (numsR (M.take k) ++ segR f j) wq) ∧ wq.cell? ⟨bx, 1, none⟩ = some (.int .i64 t) ∧ bx < wq.heap.size) (fun v _ => (f + (q : Int) - intOf v).toNat)
      case atStart => exact ⟨0, Nat.zero_le _, by simp, Lib.hid (by simpa [segR] using HJ.out), hc1, hbs⟩
      case round =>
        obtain ⟨j, hj, rfl, HJj, hcj, hbj⟩ := hrel
        by_cases hjq : j < q
        · have hlt2 : f + (j : Int) < t := by have := HQ.out; omega
          obtain ⟨fn, tmps, assign, body, hy, hR⟩ := HY.out _ (f + (j : Int)) wr HJj.out (HPre.out j hjq)
          gi_wp2
          refine hR.mono ?_
          rintro e W3 (⟨rfl, hJ3, hk3⟩ | ⟨rfl, hJx3⟩)
          · have hcj3 : W3.cell? ⟨bx, 1, none⟩ = some (.int .i64 t) := (World.cell?_of_block (w := wr) (hk3.same bx HBx.out.1 HBx.out.2 hbj)).trans hcj
            gi_wp2
            go_roundw
            case rel => exact ⟨j + 1, by omega, by congr 1; omega, Lib.hid (by rw [segR_succ, ← List.append_assoc]; exact hJ3), hcj3, Nat.lt_of_lt_of_le hbj hk3.size⟩
            case measure => simp [intOf]; omega
          · gi_wp2
            refine bodyPost_ret (results_none rfl _ _ _) rfl ?_
            exact ⟨⟨_, rfl⟩, .inr ⟨_, HPre.out j hjq, hJx3⟩⟩
        · have hge : t ≤ f + (j : Int) := by have := HQ.out; omega
          obtain rfl : j = q := by omega
          gi_wp2
          go_roundw
          case rel => exact ⟨k + 1, by omega, by simp, by rw [HSt2.out]; exact HJj.out⟩
          case measure => simp [intOf]; omega
    · obtain rfl : k = sn := by omega
      rw [List.take_of_length_le (by have := HML.out; omega)] at hJ
      gi_wp2
      go_end0
      exact ⟨⟨_, rfl⟩, .inl hJ⟩

end Go.Proofs.YtaijldcfoaeogaaGreat

/- The contract of a set's All as an iterator whose body keeps a row of its own (R: where it lies), over any world. -/
namespace Go.Proofs.YtaijldcfoaeogaaGreat
open Go.RowKit Go.Shelf

/-- What lies from B on stays, but block l, and the body's own row, which may move into a new block. -/
structure KeepR (R : World → Nat → Prop) (B l : Nat) (W W' : World) : Prop where
  size : W.heap.size ≤ W'.heap.size
  same : ∀ k, B ≤ k → k ≠ l → k < W.heap.size → ¬ R W k → W'.heap[k]? = W.heap[k]?
  row : ∀ k, R W' k → R W k ∨ W.heap.size ≤ k

set_option maxHeartbeats 4000000 in
set_option maxRecDepth 100000 in
theorem all_inR (F : Fence) (n : Nat) (hF : F.fn 45) (hro : F.round = none) (hn : 1 ≤ n) (sa : Option Addr) (sn sc : Nat) (M : List Rn) (hsn : sn ≤ 1000000) (hok : ∀ r ∈ M, r.ok) (l B : Nat) (R : World → Nat → Prop) (J Jx : List Int → World → Prop)
    (hJa : ∀ pre W o, J pre W → J pre (W.alloc o)) (hRa : ∀ pre W o k, J pre W → R (W.alloc o) k → R W k) (hRc : ∀ pre W k, J pre W → R W k → k < W.heap.size) (hJG : ∀ pre W, J pre W → RdR W sa sn M ∧ B ≤ W.heap.size ∧ l < W.heap.size)
    (hY : ∀ pre x W1, J pre W1 → pre ++ [x] <+: numsR M → YieldAt F (n - 1) Tryz.prog l #[.int .i64 x] W1 fun e W' => (e = .returned (.bool true) ∧ J (pre ++ [x]) W' ∧ KeepR R B l W1 W') ∨ (e = .returned (.bool false) ∧ Jx (pre ++ [x]) W'))
    (W : World) (h0 : J [] W) :
    CallsIn F n Tryz.prog 45 #[.slice sa sn sc, .func (.yield l) #[] #[]] W fun e W' => (∃ v, e = .returned v) ∧ (J (numsR M) W' ∨ ∃ pre, pre <+: numsR M ∧ Jx pre W') := by
  have HJa := Lib.hid hJa
  have HRa := Lib.hid hRa
  have HRc := Lib.hid hRc
  have HJG := Lib.hid hJG
  have HY := Lib.hid hY
  have HOk := Lib.hid hok
  have HML := Lib.hid (hJG _ _ h0).1.1
  clear hJa hJG hY hok hRa hRc
  have hnil := fun w => eql_yield l w
  refine callsIn_of_wp Tryz.func45 rfl hF ?_ hro
  simp only [Tryz.ntmps45, List.size_toArray, List.length_cons, List.length_nil, Nat.reduceAdd, Nat.reduceSub, Array.replicate_succ, Array.replicate_zero, List.push_toArray, List.append_toArray, List.nil_append, List.cons_append]
  gi_wp2
  gi_loopw [11] (fun i wr => ∃ k : Nat, k ≤ sn ∧ i = .int .i64 (k : Int) ∧ J (numsR (M.take k)) wr) (fun i _ => sn - (intOf i).toNat)
  case atStart => exact ⟨0, Nat.zero_le _, rfl, by simpa [numsR] using h0⟩
  case round =>
    obtain ⟨k, hk, rfl, hJ⟩ := hrel
    by_cases hlt : k < sn
    · obtain ⟨hrd, hBw, hlw⟩ := HJG.out _ _ hJ
      obtain ⟨b, o, r, rfl, hre, hbl, e0, e1⟩ := hrd.at_ (Below.refl _ _) hlt
      have hkl : k < M.length := by have := HML.out; omega
      have hst := takeR_succ hkl hre
      have hrk : r.ok := by rw [hre]; exact HOk.out _ (getD_mem hkl)
      have HST := Lib.hid hst
      have HRK := Lib.hid hrk
      have hnR : ¬ R (wr.alloc (.cells #[.int .i64 r.f, .int .i64 r.t] 53)) wr.heap.size := fun hR => Nat.lt_irrefl _ (HRc.out _ _ _ hJ (HRa.out _ _ _ _ hJ hR))
      have HnR := Lib.hid hnR
      have HJ := Lib.hid (HJa.out _ _ (.cells #[.int .i64 r.f, .int .i64 r.t] 53) hJ)
      obtain ⟨f, t⟩ := r
      simp only at e0 e1 HnR
      clear hst hre hkl hrk hrd hJ hnR
      gi_wp2
      obtain ⟨q, hq⟩ : ∃ q, q = (t - f).toNat := ⟨_, rfl⟩
      obtain ⟨bx, hbx⟩ : ∃ bx, bx = wr.heap.size := ⟨_, rfl⟩
      have HBx : Hid (B ≤ bx ∧ bx ≠ l) := Lib.hid (by omega)
      have hrk2 : f + (q : Int) ≤ 1099511627776 := by
        obtain ⟨h1, h2, h3, h4⟩ := HRK.out
        simp only at h1 h2 h3 h4
        omega
      have hrk3 : -1099511627776 ≤ f := HRK.out.1
      have HPre : Hid (∀ j, j < q → (numsR (M.take k) ++ segR f j) ++ [f + (j : Int)] <+: numsR M) := Lib.hid (by
        intro j hj
        have h1 := numsR_take_prefix M (k + 1)
        rw [HST.out, numsR_append, numsR_one] at h1
        refine List.IsPrefix.trans ?_ h1
        rw [List.append_assoc, ← segR_succ]
        have h2 : segR f (j + 1) <+: segR f (t - f).toNat := segR_prefix (by omega)
        obtain ⟨z, hz⟩ := h2
        exact ⟨z, by simp only; rw [List.append_assoc, hz]⟩)
      have HSt2 : Hid (numsR (M.take (k + 1)) = numsR (M.take k) ++ segR f q) := Lib.hid (by rw [HST.out, numsR_append, numsR_one, hq])
      have hc1 : (wr.alloc (.cells #[.int .i64 f, .int .i64 t] 53)).cell? ⟨bx, 1, none⟩ = some (.int .i64 t) := by rw [hbx]; exact (BoxR.new wr f t 53).2
      have hbs : bx < (wr.alloc (.cells #[.int .i64 f, .int .i64 t] 53)).heap.size := by rw [hbx]; simp
      obtain ⟨w0, hw0⟩ : ∃ w0, w0 = wr.alloc (.cells #[.int .i64 f, .int .i64 t] 53) := ⟨_, rfl⟩
      rw [← hbx] at HnR
      rw [← hw0] at HJ hc1 hbs HnR ⊢
      rw [← hbx]
      clear hw0 hbx e0 e1 hlw hBw
      have HQ := Lib.hid hq
      clear hq
      gi_loopw [6] (fun v wq => ∃ j : Nat, j ≤ q ∧ v = .int .i64 (f + (j : Int)) ∧ Hid (J (numsR (M.take k) ++ segR f j) wq) ∧ wq.cell? ⟨bx, 1, none⟩ = some (.int .i64 t) ∧ bx < wq.heap.size ∧ Hid (¬ R wq bx)) (fun v _ => (f + (q : Int) - intOf v).toNat)
      case atStart => exact ⟨0, Nat.zero_le _, by simp, Lib.hid (by simpa [segR] using HJ.out), hc1, hbs, HnR⟩
      case round =>
        obtain ⟨j, hj, rfl, HJj, hcj, hbj, HnRj⟩ := hrel
        by_cases hjq : j < q
        · have hlt2 : f + (j : Int) < t := by have := HQ.out; omega
          obtain ⟨fn, tmps, assign, body, hy, hR⟩ := HY.out _ (f + (j : Int)) wr HJj.out (HPre.out j hjq)
          gi_wp2
          refine hR.mono ?_
          rintro e W3 (⟨rfl, hJ3, hk3⟩ | ⟨rfl, hJx3⟩)
          · have hcj3 : W3.cell? ⟨bx, 1, none⟩ = some (.int .i64 t) := (World.cell?_of_block (w := wr) (hk3.same bx HBx.out.1 HBx.out.2 hbj HnRj.out)).trans hcj
            gi_wp2
            go_roundw
            case rel => exact ⟨j + 1, by omega, by congr 1; omega, Lib.hid (by rw [segR_succ, ← List.append_assoc]; exact hJ3), hcj3, Nat.lt_of_lt_of_le hbj hk3.size, Lib.hid fun hR => (hk3.row bx hR).elim HnRj.out (fun h => by omega)⟩
            case measure => simp [intOf]; omega
          · gi_wp2
            refine bodyPost_ret (results_none rfl _ _ _) rfl ?_
            exact ⟨⟨_, rfl⟩, .inr ⟨_, HPre.out j hjq, hJx3⟩⟩
        · have hge : t ≤ f + (j : Int) := by have := HQ.out; omega
          obtain rfl : j = q := by omega
          gi_wp2
          go_roundw
          case rel => exact ⟨k + 1, by omega, by simp, by rw [HSt2.out]; exact HJj.out⟩
          case measure => simp [intOf]; omega
    · obtain rfl : k = sn := by omega
      rw [List.take_of_length_le (by have := HML.out; omega)] at hJ
      gi_wp2
      go_end0
      exact ⟨⟨_, rfl⟩, .inl hJ⟩

end Go.Proofs.YtaijldcfoaeogaaGreat

/- A loop over a set's All: what its body keeps, number by number, holds behind it. -/
namespace Go.Proofs.YtaijldcfoaeogaaGreat
open Go.RowKit Go.Shelf

/-- What lies from B on stays. -/
structure KeepU (B : Nat) (W W' : World) : Prop where
  size : W.heap.size ≤ W'.heap.size
  same : ∀ k, B ≤ k → k < W.heap.size → W'.heap[k]? = W.heap[k]?

/-- How a round may be left. -/
def rPost (B : Nat) (I : List Int → World → Prop) (Ix : Code → List Int → World → Prop) (xs : List Int) (W : World) : Exit → Act → World → Prop
  | .normal, _, W' => KeepU B W W' ∧ I xs W'
  | .ret, _, W' => KeepU B W W' ∧ Ix .ret xs W'
  | .exit id, _, W' => KeepU B W W' ∧ Ix (.exit id) xs W'
  | _, _, _ => False

theorem below_put {B l : Nat} (h : B ≤ l) (W : World) (o : Obj) : Below B W (W.putObj l o) :=
  ⟨rfl, rfl, rfl, by simp, fun k hk => World.putObj_heap_other (by omega)⟩

theorem range_all {g : Operand} {ps : Array Tmp} {assign body : Code} {Q : Exit → Act → World → Prop} {a : Act} {w : World} (sa : Option Addr) (sn sc : Nat) (M : List Rn) (hsn : sn ≤ 1000000) (hok : ∀ r ∈ M, r.ok)
    (hg : a.eval g = .func (.func 45) #[.slice sa sn sc] #[]) (hps : ps.size = 1) (I : List Int → World → Prop) (Ix : Code → List Int → World → Prop)
    (hI : ∀ pre W W', I pre W → Below w.heap.size W W' → I pre W') (hIx : ∀ c pre W W', Ix c pre W → Below w.heap.size W W' → Ix c pre W') (hG : ∀ pre W, I pre W → RdR W sa sn M) (h0 : I [] w) (a₁ : Int → Act)
    (hassign : ∀ (l : Nat) (x : Int) (W : World) (K : Act → World → Prop), K (a₁ x) W → assign.wpIn (Fence.wide.inRound l) 1 Tryz.prog (Exit.then K (fun _ _ _ => False)) { tmps := (ps.zip #[Value.int .i64 x]).foldl (fun t (p, v) => t.setIfInBounds p v) a.tmps, defers := [] } W)
    (hbody : ∀ (l : Nat) (pre : List Int) (x : Int) (W : World), I pre W → w.heap.size ≤ W.heap.size → pre ++ [x] <+: numsR M → body.wpIn (Fence.wide.inRound l) 1 Tryz.prog (rPost w.heap.size I Ix (pre ++ [x]) W) (a₁ x) W)
    (hdone : ∀ (D : Nat) (W : World), w.heap.size ≤ D → I (numsR M) W → W.heap[D]? = some (.deferred (some [])) → Q .normal { a with defers := { target := .collected D, args := #[] } :: a.defers } W)
    (hstop : ∀ (D : Nat) (c : Code) (pre : List Int) (W : World), w.heap.size ≤ D → pre <+: numsR M → Ix c pre W → W.heap[D]? = some (.deferred (some [])) → c.wpIn Fence.wide 3 Tryz.prog Q { a with defers := { target := .collected D, args := #[] } :: a.defers } W) :
    (Code.rangeFunc g ps assign body).wpIn Fence.wide 3 Tryz.prog Q a w := by
  refine wpIn_rangeFunc ?_
  intro fn hfn
  obtain ⟨B, hB⟩ : ∃ B, B = w.heap.size := ⟨_, rfl⟩
  rw [← hB] at hI hIx hbody hdone hstop
  obtain ⟨rec, hrec⟩ : ∃ rec : LoopState → Option Code → Loop, rec = fun st pe => { state := st, pending := pe, fn, tmps := a.tmps, params := ps, assign, body, defers := B } := ⟨_, rfl⟩
  obtain ⟨W1, hW1⟩ : ∃ W1, W1 = (w.alloc (.deferred (some []))).alloc (.loop (rec .ready none)) := ⟨_, rfl⟩
  have e1 : W1.heap[B + 1]? = some (.loop (rec .ready none)) := by
    have := World.alloc_heap_new (w.alloc (.deferred (some []))) (.loop (rec .ready none))
    rw [World.size_alloc, ← hB, ← hW1] at this
    exact this
  have e0 : W1.heap[B]? = some (.deferred (some [])) := by
    rw [hW1, hB]
    exact (Below.heap_alloc _ _ _ (by simp)).trans (World.alloc_heap_new w _)
  have hI1 : I [] W1 := hI _ _ _ h0 (by rw [hW1, hB]; exact ((Below.refl _ w).alloc (Nat.le_refl _) _).alloc (by simp) _)
  refine ⟨B + 1, [{ target := .collected B, args := #[] }], W1, { target := .fn (.func 45) #[], args := #[.slice sa sn sc, .func (.yield (B + 1)) #[] #[]] }, W1, 45, #[.slice sa sn sc, .func (.yield (B + 1)) #[] #[]], W1, ?_, ?_, ?_, ?_, fun _ => by omega, ?_⟩
  · rw [hW1, hrec, hB]; exact run_enterLoop_outer _ _ _ _ _
  · simp only [resolve, hg]
    simp [go_sem]
  · intro f' _; trivial
  · have eg : ∀ args w, (callFunc 45 args).run Tryz.prog w = .ok (.enter 45 args) w := enters_of Tryz.func45 (by kernel_rfl) rfl
    simp [invoke, go_sem, eg]
  · have lt_of : ∀ {W : World} {o : Obj}, W.heap[B + 1]? = some o → B + 1 < W.heap.size := fun h => (Array.getElem?_eq_some_iff.1 h).1
    refine (all_in Fence.wide 2 trivial rfl (by omega) sa sn sc M hsn hok (B + 1) B
      (fun pre W => I pre W ∧ W.heap[B + 1]? = some (.loop (rec .ready none)) ∧ W.heap[B]? = some (.deferred (some [])))
      (fun pre W => ∃ c, Ix c pre W ∧ W.heap[B + 1]? = some (.loop (rec .done (some c))) ∧ W.heap[B]? = some (.deferred (some [])))
      (fun pre W o h => ?_) (fun pre W h => ⟨hG _ _ h.1, by have := lt_of h.2.1; omega, lt_of h.2.1⟩) ?_ W1 ⟨hI1, e1, e0⟩).mono ?_
    · have hl := lt_of h.2.1
      exact ⟨hI _ _ _ h.1 ((Below.refl _ _).alloc (by omega) _), (Below.heap_alloc _ _ _ (by omega)).trans h.2.1, (Below.heap_alloc _ _ _ (by omega)).trans h.2.2⟩
    · rintro pre x W ⟨hi, hl, hd⟩ hpre
      have hlt := lt_of hl
      have hy := run_yield (P := Tryz.prog) (args := #[Value.int .i64 x]) hl (by rw [hrec]; exact hps.symm)
      rw [hrec] at hy
      obtain ⟨W2, hW2⟩ : ∃ W2, W2 = W.putObj (B + 1) (.loop { rec .ready none with state := .busy }) := ⟨_, rfl⟩
      have hl2 : W2.heap[B + 1]? = some (.loop { rec .ready none with state := .busy }) := by rw [hW2]; exact World.putObj_heap_same hlt
      have hd2 : W2.heap[B]? = some (.deferred (some [])) := by rw [hW2]; exact (World.putObj_heap_other (by omega)).trans hd
      have hs2 : W2.heap.size = W.heap.size := by rw [hW2]; simp
      have hbeg := run_beginRound (P := Tryz.prog) hl (by rw [hrec])
      rw [← hW2] at hbeg
      have hi2 : I pre W2 := hI _ _ _ hi (by rw [hW2]; exact below_put (by omega) _ _)
      refine ⟨fn, _, assign, body, hy, roundIn_of_wpIn hfn (hassign _ x W _ ⟨W2, hbeg, ?_⟩)⟩
      refine wpIn_mono (hbody _ pre x W2 hi2 (by omega) hpre) ?_
      have fin : ∀ (jump : Option Code) (W3 : World), KeepU B W2 W3 →
          (Instr.endRound (B + 1) jump).run Tryz.prog W3 = .ok (.bool jump.isNone) (W3.putObj (B + 1) (.loop (rec (if jump.isNone then .ready else .done) jump))) ∧
          (W3.putObj (B + 1) (.loop (rec (if jump.isNone then .ready else .done) jump))).heap[B + 1]? = some (.loop (rec (if jump.isNone then .ready else .done) jump)) ∧
          (W3.putObj (B + 1) (.loop (rec (if jump.isNone then .ready else .done) jump))).heap[B]? = some (.deferred (some [])) ∧
          KeepA B (B + 1) W (W3.putObj (B + 1) (.loop (rec (if jump.isNone then .ready else .done) jump))) := by
        intro jump W3 hk3
        have hl3 := (hk3.same (B + 1) (by omega) (by omega)).trans hl2
        have hr := run_endRound (P := Tryz.prog) jump hl3
        have hlt3 := lt_of hl3
        refine ⟨?_, World.putObj_heap_same hlt3, ?_, ?_, ?_⟩
        · rw [hrec] at hr ⊢; exact hr
        · exact (World.putObj_heap_other (by omega)).trans ((hk3.same B (Nat.le_refl _) (by omega)).trans hd2)
        · have := hk3.size; simp; omega
        · intro k hk hne hkl
          rw [World.putObj_heap_other hne, hk3.same k hk (by omega), hW2, World.putObj_heap_other hne]
      rintro e a3 W3 hp
      cases e with
      | normal =>
        obtain ⟨hk3, hi3⟩ := hp
        obtain ⟨hr, hl4, hd4, hk4⟩ := fin none W3 hk3
        exact ⟨_, _, hr, .inl ⟨rfl, ⟨hI _ _ _ hi3 (below_put (by omega) _ _), hl4, hd4⟩, hk4⟩⟩
      | ret =>
        obtain ⟨hk3, hi3⟩ := hp
        obtain ⟨hr, hl4, hd4, hk4⟩ := fin (some .ret) W3 hk3
        exact ⟨_, _, hr, .inr ⟨rfl, .ret, hIx _ _ _ _ hi3 (below_put (by omega) _ _), hl4, hd4⟩⟩
      | exit id =>
        obtain ⟨hk3, hi3⟩ := hp
        obtain ⟨hr, hl4, hd4, hk4⟩ := fin (some (.exit id)) W3 hk3
        exact ⟨_, _, hr, .inr ⟨rfl, .exit id, hIx _ _ _ _ hi3 (below_put (by omega) _ _), hl4, hd4⟩⟩
      | goto t => exact hp.elim
      | panic ch => exact hp.elim
      | outgrown => exact hp.elim
    · rintro e W2 ⟨⟨v, rfl⟩, (⟨hi, hl, hd⟩ | ⟨pre, hpre, c, hi, hl, hd⟩)⟩
      · have hr := run_endLoop (P := Tryz.prog) hl (by rw [hrec]; simp)
        exact ⟨none, _, by rw [hrec] at hr; exact hr, hdone B _ (Nat.le_refl _) (hI _ _ _ hi (below_put (by omega) _ _)) ((World.putObj_heap_other (by omega)).trans hd)⟩
      · have hr := run_endLoop (P := Tryz.prog) hl (by rw [hrec]; simp)
        exact ⟨some c, _, by rw [hrec] at hr; exact hr, hstop B c pre _ (Nat.le_refl _) hpre (hIx _ _ _ _ hi (below_put (by omega) _ _)) ((World.putObj_heap_other (by omega)).trans hd)⟩

end Go.Proofs.YtaijldcfoaeogaaGreat

/- A loop over a set's All whose body keeps a row of its own: what it keeps, number by number, holds behind it. -/
namespace Go.Proofs.YtaijldcfoaeogaaGreat
open Go.RowKit Go.Shelf

/-- What lies from B on stays, but the body's own row, which may move into a new block. -/
structure KeepRU (R : World → Nat → Prop) (B : Nat) (W W' : World) : Prop where
  size : W.heap.size ≤ W'.heap.size
  same : ∀ k, B ≤ k → k < W.heap.size → ¬ R W k → W'.heap[k]? = W.heap[k]?
  row : ∀ k, R W' k → R W k ∨ W.heap.size ≤ k

/-- How a round may be left. -/
def rPostR (R : World → Nat → Prop) (B : Nat) (I : List Int → World → Prop) (Ix : Code → List Int → World → Prop) (xs : List Int) (W : World) : Exit → Act → World → Prop
  | .normal, _, W' => KeepRU R B W W' ∧ I xs W'
  | .ret, _, W' => KeepRU R B W W' ∧ Ix .ret xs W'
  | .exit id, _, W' => KeepRU R B W W' ∧ Ix (.exit id) xs W'
  | _, _, _ => False

theorem range_allR {g : Operand} {ps : Array Tmp} {assign body : Code} {Q : Exit → Act → World → Prop} {a : Act} {w : World} (sa : Option Addr) (sn sc : Nat) (M : List Rn) (hsn : sn ≤ 1000000) (hok : ∀ r ∈ M, r.ok)
    (hg : a.eval g = .func (.func 45) #[.slice sa sn sc] #[]) (hps : ps.size = 1) (R : World → Nat → Prop) (I : List Int → World → Prop) (Ix : Code → List Int → World → Prop)
    (hR : ∀ W W' k, Below w.heap.size W W' → R W' k → R W k) (hRc : ∀ pre W k, I pre W → R W k → ∃ cs t fr, W.heap[k]? = some (.cells cs t fr))
    (hI : ∀ pre W W', I pre W → Below w.heap.size W W' → (∀ k, R W k → W'.heap[k]? = W.heap[k]?) → I pre W') (hIx : ∀ c pre W W', Ix c pre W → Below w.heap.size W W' → Ix c pre W') (hG : ∀ pre W, I pre W → RdR W sa sn M) (h0 : I [] w) (a₁ : Int → Act)
    (hassign : ∀ (l : Nat) (x : Int) (W : World) (K : Act → World → Prop), K (a₁ x) W → assign.wpIn (Fence.wide.inRound l) 1 Tryz.prog (Exit.then K (fun _ _ _ => False)) { tmps := (ps.zip #[Value.int .i64 x]).foldl (fun t (p, v) => t.setIfInBounds p v) a.tmps, defers := [] } W)
    (hbody : ∀ (l : Nat) (pre : List Int) (x : Int) (W : World), I pre W → w.heap.size ≤ W.heap.size → pre ++ [x] <+: numsR M → body.wpIn (Fence.wide.inRound l) 1 Tryz.prog (rPostR R w.heap.size I Ix (pre ++ [x]) W) (a₁ x) W)
    (hdone : ∀ (D : Nat) (W : World), w.heap.size ≤ D → I (numsR M) W → W.heap[D]? = some (.deferred (some [])) → Q .normal { a with defers := { target := .collected D, args := #[] } :: a.defers } W)
    (hstop : ∀ (D : Nat) (c : Code) (pre : List Int) (W : World), w.heap.size ≤ D → pre <+: numsR M → Ix c pre W → W.heap[D]? = some (.deferred (some [])) → c.wpIn Fence.wide 3 Tryz.prog Q { a with defers := { target := .collected D, args := #[] } :: a.defers } W) :
    (Code.rangeFunc g ps assign body).wpIn Fence.wide 3 Tryz.prog Q a w := by
  refine wpIn_rangeFunc ?_
  intro fn hfn
  obtain ⟨B, hB⟩ : ∃ B, B = w.heap.size := ⟨_, rfl⟩
  rw [← hB] at hI hIx hR hbody hdone hstop
  obtain ⟨rec, hrec⟩ : ∃ rec : LoopState → Option Code → Loop, rec = fun st pe => { state := st, pending := pe, fn, tmps := a.tmps, params := ps, assign, body, defers := B } := ⟨_, rfl⟩
  obtain ⟨W1, hW1⟩ : ∃ W1, W1 = (w.alloc (.deferred (some []))).alloc (.loop (rec .ready none)) := ⟨_, rfl⟩
  have e1 : W1.heap[B + 1]? = some (.loop (rec .ready none)) := by
    have := World.alloc_heap_new (w.alloc (.deferred (some []))) (.loop (rec .ready none))
    rw [World.size_alloc, ← hB, ← hW1] at this
    exact this
  have e0 : W1.heap[B]? = some (.deferred (some [])) := by
    rw [hW1, hB]
    exact (Below.heap_alloc _ _ _ (by simp)).trans (World.alloc_heap_new w _)
  have hb1 : Below w.heap.size w W1 := by rw [hW1]; exact ((Below.refl _ w).alloc (Nat.le_refl _) _).alloc (by simp) _
  have lt_row : ∀ {pre W k}, I pre W → R W k → k < W.heap.size := fun h hr => by obtain ⟨_, _, _, e⟩ := hRc _ _ _ h hr; exact (Array.getElem?_eq_some_iff.1 e).1
  have ne_row : ∀ {pre W k o}, I pre W → W.heap[B + 1]? = some (.loop o) → R W k → k ≠ B + 1 := fun h hl hr => by
    rintro rfl
    obtain ⟨_, _, _, e⟩ := hRc _ _ _ h hr
    rw [hl] at e
    cases e
  have hI1 : I [] W1 := hI _ _ _ h0 (by rw [hB]; exact hb1) (fun k hr => hb1.block k (lt_row h0 hr))
  refine ⟨B + 1, [{ target := .collected B, args := #[] }], W1, { target := .fn (.func 45) #[], args := #[.slice sa sn sc, .func (.yield (B + 1)) #[] #[]] }, W1, 45, #[.slice sa sn sc, .func (.yield (B + 1)) #[] #[]], W1, ?_, ?_, ?_, ?_, fun _ => by omega, ?_⟩
  · rw [hW1, hrec, hB]; exact run_enterLoop_outer _ _ _ _ _
  · simp only [resolve, hg]
    simp [go_sem]
  · intro f' _; trivial
  · have eg : ∀ args w, (callFunc 45 args).run Tryz.prog w = .ok (.enter 45 args) w := enters_of Tryz.func45 (by kernel_rfl) rfl
    simp [invoke, go_sem, eg]
  · have lt_of : ∀ {W : World} {o : Obj}, W.heap[B + 1]? = some o → B + 1 < W.heap.size := fun h => (Array.getElem?_eq_some_iff.1 h).1
    refine (all_inR Fence.wide 2 trivial rfl (by omega) sa sn sc M hsn hok (B + 1) B R
      (fun pre W => I pre W ∧ W.heap[B + 1]? = some (.loop (rec .ready none)) ∧ W.heap[B]? = some (.deferred (some [])))
      (fun pre W => ∃ c, Ix c pre W ∧ W.heap[B + 1]? = some (.loop (rec .done (some c))) ∧ W.heap[B]? = some (.deferred (some [])))
      (fun pre W o h => ?_) (fun pre W o k h hr => hR W _ k ((Below.refl _ _).alloc (by have := lt_of h.2.1; omega) _) hr) (fun pre W k h hr => by obtain ⟨_, _, _, e⟩ := hRc pre W k h.1 hr; exact (Array.getElem?_eq_some_iff.1 e).1) (fun pre W h => ⟨hG _ _ h.1, by have := lt_of h.2.1; omega, lt_of h.2.1⟩) ?_ W1 ⟨hI1, e1, e0⟩).mono ?_
    · have hl := lt_of h.2.1
      exact ⟨hI _ _ _ h.1 ((Below.refl _ _).alloc (by omega) _) (fun k hr => Below.heap_alloc _ _ _ (lt_row h.1 hr)), (Below.heap_alloc _ _ _ (by omega)).trans h.2.1, (Below.heap_alloc _ _ _ (by omega)).trans h.2.2⟩
    · rintro pre x W ⟨hi, hl, hd⟩ hpre
      have hlt := lt_of hl
      have hy := run_yield (P := Tryz.prog) (args := #[Value.int .i64 x]) hl (by rw [hrec]; exact hps.symm)
      rw [hrec] at hy
      obtain ⟨W2, hW2⟩ : ∃ W2, W2 = W.putObj (B + 1) (.loop { rec .ready none with state := .busy }) := ⟨_, rfl⟩
      have hl2 : W2.heap[B + 1]? = some (.loop { rec .ready none with state := .busy }) := by rw [hW2]; exact World.putObj_heap_same hlt
      have hd2 : W2.heap[B]? = some (.deferred (some [])) := by rw [hW2]; exact (World.putObj_heap_other (by omega)).trans hd
      have hs2 : W2.heap.size = W.heap.size := by rw [hW2]; simp
      have hbeg := run_beginRound (P := Tryz.prog) hl (by rw [hrec])
      rw [← hW2] at hbeg
      have hi2 : I pre W2 := hI _ _ _ hi (by rw [hW2]; exact below_put (by omega) _ _) (fun k hr => by rw [hW2]; exact World.putObj_heap_other (ne_row hi hl hr))
      refine ⟨fn, _, assign, body, hy, roundIn_of_wpIn hfn (hassign _ x W _ ⟨W2, hbeg, ?_⟩)⟩
      refine wpIn_mono (hbody _ pre x W2 hi2 (by omega) hpre) ?_
      have fin : ∀ (jump : Option Code) (W3 : World), KeepRU R B W2 W3 →
          (Instr.endRound (B + 1) jump).run Tryz.prog W3 = .ok (.bool jump.isNone) (W3.putObj (B + 1) (.loop (rec (if jump.isNone then .ready else .done) jump))) ∧
          (W3.putObj (B + 1) (.loop (rec (if jump.isNone then .ready else .done) jump))).heap[B + 1]? = some (.loop (rec (if jump.isNone then .ready else .done) jump)) ∧
          (W3.putObj (B + 1) (.loop (rec (if jump.isNone then .ready else .done) jump))).heap[B]? = some (.deferred (some [])) ∧
          KeepR R B (B + 1) W (W3.putObj (B + 1) (.loop (rec (if jump.isNone then .ready else .done) jump))) ∧ ∃ o, W3.heap[B + 1]? = some (.loop o) := by
        intro jump W3 hk3
        have n1 : ¬ R W2 (B + 1) := fun hr => by obtain ⟨_, _, _, e⟩ := hRc pre W2 _ hi2 hr; rw [hl2] at e; cases e
        have n0 : ¬ R W2 B := fun hr => by obtain ⟨_, _, _, e⟩ := hRc pre W2 _ hi2 hr; rw [hd2] at e; cases e
        have hl3 := (hk3.same (B + 1) (by omega) (by omega) n1).trans hl2
        have hr := run_endRound (P := Tryz.prog) jump hl3
        have hlt3 := lt_of hl3
        refine ⟨?_, World.putObj_heap_same hlt3, ?_, ⟨?_, ?_, ?_⟩, ⟨_, hl3⟩⟩
        · rw [hrec] at hr ⊢; exact hr
        · exact (World.putObj_heap_other (by omega)).trans ((hk3.same B (Nat.le_refl _) (by omega) n0).trans hd2)
        · have := hk3.size; simp; omega
        · intro k hk hne hkl hnr
          have hnr2 : ¬ R W2 k := fun hr => hnr (hR W W2 k (by rw [hW2]; exact below_put (by omega) _ _) hr)
          rw [World.putObj_heap_other hne, hk3.same k hk (by omega) hnr2, hW2, World.putObj_heap_other hne]
        · intro k hr
          rcases hk3.row k (hR W3 _ k (below_put (by omega) _ _) hr) with h1 | h1
          · exact .inl (hR W W2 k (by rw [hW2]; exact below_put (by omega) _ _) h1)
          · exact .inr (by omega)
      rintro e a3 W3 hp
      cases e with
      | normal =>
        obtain ⟨hk3, hi3⟩ := hp
        obtain ⟨hr, hl4, hd4, hk4, o3, hl3⟩ := fin none W3 hk3
        exact ⟨_, _, hr, .inl ⟨rfl, ⟨hI _ _ _ hi3 (below_put (by omega) _ _) (fun k hr => World.putObj_heap_other (ne_row hi3 hl3 hr)), hl4, hd4⟩, hk4⟩⟩
      | ret =>
        obtain ⟨hk3, hi3⟩ := hp
        obtain ⟨hr, hl4, hd4, hk4, _⟩ := fin (some .ret) W3 hk3
        exact ⟨_, _, hr, .inr ⟨rfl, .ret, hIx _ _ _ _ hi3 (below_put (by omega) _ _), hl4, hd4⟩⟩
      | exit id =>
        obtain ⟨hk3, hi3⟩ := hp
        obtain ⟨hr, hl4, hd4, hk4, _⟩ := fin (some (.exit id)) W3 hk3
        exact ⟨_, _, hr, .inr ⟨rfl, .exit id, hIx _ _ _ _ hi3 (below_put (by omega) _ _), hl4, hd4⟩⟩
      | goto t => exact hp.elim
      | panic ch => exact hp.elim
      | outgrown => exact hp.elim
    · rintro e W2 ⟨⟨v, rfl⟩, (⟨hi, hl, hd⟩ | ⟨pre, hpre, c, hi, hl, hd⟩)⟩
      · have hr := run_endLoop (P := Tryz.prog) hl (by rw [hrec]; simp)
        exact ⟨none, _, by rw [hrec] at hr; exact hr, hdone B _ (Nat.le_refl _) (hI _ _ _ hi (below_put (by omega) _ _) (fun k hr => World.putObj_heap_other (ne_row hi hl hr))) ((World.putObj_heap_other (by omega)).trans hd)⟩
      · have hr := run_endLoop (P := Tryz.prog) hl (by rw [hrec]; simp)
        exact ⟨some c, _, by rw [hrec] at hr; exact hr, hstop B c pre _ (Nat.le_refl _) hpre (hIx _ _ _ _ hi (below_put (by omega) _ _)) ((World.putObj_heap_other (by omega)).trans hd)⟩

end Go.Proofs.YtaijldcfoaeogaaGreat
