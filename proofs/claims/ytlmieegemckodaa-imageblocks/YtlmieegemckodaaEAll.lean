/- A set's All as a function that a loop goes over: whatever the loop's body does, as long as it keeps the set and what lies beyond a block. -/
import Derived.Test.YtlmieegemckodaaEHas
import Derived.RangeFuncNested
import Derived.RangeFuncBound
import Derived.RangeFuncCalls
import Derived.RangeFuncLeaves
import Derived.Shelf.Abstract
import Derived.Shelf.RegionOpen
import Derived.OwnWalkIn
import Derived.TacticsInMore
import Derived.LoopNIn
import Derived.LoopIn
namespace Go.Proofs.Ytlmieegemckodaa
open Go.RowKit Go.Shelf

attribute [local go_sem] Oper.semAt_some

/-- The first numbers of a run. -/
def segR (f : Int) (k : Nat) : List Int := (List.range k).map fun j : Nat => f + (j : Int)

theorem segR_succ (f : Int) (k : Nat) : segR f (k + 1) = segR f k ++ [f + (k : Int)] := by simp [segR, List.range_succ]

/-- The numbers of some runs, one behind the other. -/
def numsR : List Rn → List Int
  | [] => []
  | r :: L => segR r.f (r.t - r.f).toNat ++ numsR L

theorem numsR_append (A B : List Rn) : numsR (A ++ B) = numsR A ++ numsR B := by
  induction A with
  | nil => rfl
  | cons r A ih => simp only [List.cons_append, numsR, ih, List.append_assoc]

theorem numsR_one (r : Rn) : numsR [r] = segR r.f (r.t - r.f).toNat := by simp [numsR]

theorem numsR_take_prefix (M : List Rn) (k : Nat) : numsR (M.take k) <+: numsR M := by
  refine ⟨numsR (M.drop k), ?_⟩
  rw [← numsR_append, List.take_append_drop]

theorem segR_prefix {f : Int} {j k : Nat} (h : j ≤ k) : segR f j <+: segR f k := by
  refine ⟨(List.range (k - j)).map (fun i : Nat => f + ((j + i : Nat) : Int)), ?_⟩
  have : k = j + (k - j) := by omega
  rw [show segR f k = segR f (j + (k - j)) by rw [← this]]
  unfold segR
  rw [List.range_add, List.map_append, List.map_map]
  rfl

/-- What lies from B on stays, but block l. -/
structure KeepA (B l : Nat) (W W' : World) : Prop where
  size : W.heap.size ≤ W'.heap.size
  same : ∀ k, B ≤ k → k ≠ l → k < W.heap.size → W'.heap[k]? = W.heap[k]?

theorem eql_yield (l : Nat) (w : World) : (binOp .eql 76 (.func (.yield l) #[] #[]) .nilFunc).run Try.prog w = .ok (.bool false) w := by
  have h : ∀ d : Nat, (Op.equalIn (d + 1) 76 (.func (.yield l) #[] #[]) .nilFunc).run Try.prog w = .ok false w := fun d => by
    simp [Op.equalIn, run_underlying Try.underlying76]
  simp only [binOp]
  simp [Op.equal, Op.maxDepth, h 9999]

set_option maxHeartbeats 4000000 in
set_option maxRecDepth 100000 in
theorem all_in (F : Fence) (n : Nat) (hF : F.fn 33) (hro : F.round = none) (hn : 1 ≤ n) (sa : Option Addr) (sn sc : Nat) (M : List Rn) (hsn : sn ≤ 1000000) (hok : ∀ r ∈ M, r.ok) (l B : Nat) (J Jx : List Int → World → Prop)
    (hJa : ∀ pre W o, J pre W → J pre (W.alloc o)) (hJG : ∀ pre W, J pre W → RdR W sa sn M ∧ B ≤ W.heap.size ∧ l < W.heap.size)
    (hY : ∀ pre x W1, J pre W1 → pre ++ [x] <+: numsR M → YieldAt F (n - 1) Try.prog l #[.int .i64 x] W1 fun e W' => (e = .returned (.bool true) ∧ J (pre ++ [x]) W' ∧ KeepA B l W1 W') ∨ (e = .returned (.bool false) ∧ Jx (pre ++ [x]) W'))
    (W : World) (h0 : J [] W) :
    CallsIn F n Try.prog 33 #[.slice sa sn sc, .func (.yield l) #[] #[]] W fun e W' => (∃ v, e = .returned v) ∧ (J (numsR M) W' ∨ ∃ pre, pre <+: numsR M ∧ Jx pre W') := by
  have HJa := Lib.hid hJa
  have HJG := Lib.hid hJG
  have HY := Lib.hid hY
  have HOk := Lib.hid hok
  have HML := Lib.hid (hJG _ _ h0).1.1
  clear hJa hJG hY hok
  have hnil := fun w => eql_yield l w
  refine callsIn_of_wp Try.func33 rfl hF ?_ hro
  simp only [Try.ntmps33, List.size_toArray, List.length_cons, List.length_nil, Nat.reduceAdd, Nat.reduceSub, Array.replicate_succ, Array.replicate_zero, List.push_toArray, List.append_toArray, List.nil_append, List.cons_append]
  gi_wp2
  gi_loopw [11] (fun i wr => ∃ k : Nat, k ≤ sn ∧ i = .int .i64 (k : Int) ∧ J (numsR (M.take k)) wr) (fun i _ => sn - (intOf i).toNat)
  case atStart => exact ⟨0, Nat.zero_le _, rfl, by simpa [numsR] using h0⟩
  case round =>
    obtain ⟨k, hk, rfl, hJ⟩ := hrel
    by_cases hlt : k < sn
    · obtain ⟨hrd, hBw, hlw⟩ := HJG.out _ _ hJ
      obtain ⟨b, o, r, rfl, hre, hbl, e0, e1⟩ := hrd.at_ (Below.refl _ _) hlt
      have hkl : k < M.length := by have := HML.out; omega
      have hst := takeR_succ hkl hre
      have hrk : r.ok := by rw [hre]; exact HOk.out _ (getD_mem hkl)
      have HST := Lib.hid hst
      have HRK := Lib.hid hrk
      have HJ := Lib.hid (HJa.out _ _ (.cells #[.int .i64 r.f, .int .i64 r.t] 95) hJ)
      obtain ⟨f, t⟩ := r
      simp only at e0 e1
      clear hst hre hkl hrk hrd hJ
      gi_wp2
      obtain ⟨q, hq⟩ : ∃ q, q = (t - f).toNat := ⟨_, rfl⟩
      obtain ⟨bx, hbx⟩ : ∃ bx, bx = wr.heap.size := ⟨_, rfl⟩
      have HBx : Hid (B ≤ bx ∧ bx ≠ l) := Lib.hid (by omega)
      have hrk2 : f + (q : Int) ≤ 1099511627776 := by
        obtain ⟨h1, h2, h3, h4⟩ := HRK.out
        simp only at h1 h2 h3 h4
        omega
      have hrk3 : -1099511627776 ≤ f := HRK.out.1
      have HPre : Hid (∀ j, j < q → (numsR (M.take k) ++ segR f j) ++ [f + (j : Int)] <+: numsR M) := Lib.hid (by
        intro j hj
        have h1 := numsR_take_prefix M (k + 1)
        rw [HST.out, numsR_append, numsR_one] at h1
        refine List.IsPrefix.trans ?_ h1
        rw [List.append_assoc, ← segR_succ]
        have h2 : segR f (j + 1) <+: segR f (t - f).toNat := segR_prefix (by omega)
        obtain ⟨z, hz⟩ := h2
        exact ⟨z, by simp only; rw [List.append_assoc, hz]⟩)
      have HSt2 : Hid (numsR (M.take (k + 1)) = numsR (M.take k) ++ segR f q) := Lib.hid (by rw [HST.out, numsR_append, numsR_one, hq])
      have hc1 : (wr.alloc (.cells #[.int .i64 f, .int .i64 t] 95)).cell? ⟨bx, 1, none⟩ = some (.int .i64 t) := by rw [hbx]; exact (BoxR.new wr f t 95).2
      have hbs : bx < (wr.alloc (.cells #[.int .i64 f, .int .i64 t] 95)).heap.size := by rw [hbx]; simp
      obtain ⟨w0, hw0⟩ : ∃ w0, w0 = wr.alloc (.cells #[.int .i64 f, .int .i64 t] 95) := ⟨_, rfl⟩
      rw [← hw0] at HJ hc1 hbs ⊢
      rw [← hbx]
      clear hw0 hbx e0 e1 hlw hBw
      have HQ := Lib.hid hq
      clear hq
      gi_loopw [6] (fun v wq => ∃ j : Nat, j ≤ q ∧ v = .int .i64 (f + (j : Int)) ∧ Hid (J (numsR (M.take k) ++ segR f j) wq) ∧ wq.cell? ⟨bx, 1, none⟩ = some (.int .i64 t) ∧ bx < wq.heap.size) (fun v _ => (f + (q : Int) - intOf v).toNat)
      case atStart => exact ⟨0, Nat.zero_le _, by simp, Lib.hid (by simpa [segR] using HJ.out), hc1, hbs⟩
      case round =>
        obtain ⟨j, hj, rfl, HJj, hcj, hbj⟩ := hrel
        by_cases hjq : j < q
        · have hlt2 : f + (j : Int) < t := by have := HQ.out; omega
          obtain ⟨fn, tmps, assign, body, hy, hR⟩ := HY.out _ (f + (j : Int)) wr HJj.out (HPre.out j hjq)
          gi_wp2
          refine hR.mono ?_
          rintro e W3 (⟨rfl, hJ3, hk3⟩ | ⟨rfl, hJx3⟩)
          · have hcj3 : W3.cell? ⟨bx, 1, none⟩ = some (.int .i64 t) := (World.cell?_of_block (w := wr) (hk3.same bx HBx.out.1 HBx.out.2 hbj)).trans hcj
            gi_wp2
            go_roundw
            case rel => exact ⟨j + 1, by omega, by congr 1; omega, Lib.hid (by rw [segR_succ, ← List.append_assoc]; exact hJ3), hcj3, Nat.lt_of_lt_of_le hbj hk3.size⟩
            case measure => simp [intOf]; omega
          · gi_wp2
            refine bodyPost_ret (results_none rfl _ _ _) rfl ?_
            exact ⟨⟨_, rfl⟩, .inr ⟨_, HPre.out j hjq, hJx3⟩⟩
        · have hge : t ≤ f + (j : Int) := by have := HQ.out; omega
          obtain rfl : j = q := by omega
          gi_wp2
          go_roundw
          case rel => exact ⟨k + 1, by omega, by simp, by rw [HSt2.out]; exact HJj.out⟩
          case measure => simp [intOf]; omega
    · obtain rfl : k = sn := by omega
      rw [List.take_of_length_le (by have := HML.out; omega)] at hJ
      gi_wp2
      go_end0
      exact ⟨⟨_, rfl⟩, .inl hJ⟩

end Go.Proofs.Ytlmieegemckodaa
