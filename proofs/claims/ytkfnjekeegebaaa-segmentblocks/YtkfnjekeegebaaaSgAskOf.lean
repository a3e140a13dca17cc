/- ask of a block: over any world. -/
import Derived.Test.YtkfnjekeegebaaaSgAsk
import Derived.Test.YtkfnjekeegebaaaSgMem
namespace Go.Proofs.Ytkfnjekeegebaaa
open Go.RowKit
set_option linter.unusedSimpArgs false

set_option maxHeartbeats 1000000 in
set_option maxRecDepth 100000 in
theorem ask_of (T : TypeId) (v : Value) (f : FuncId) (k : Nat) (n0 n1 n2 n3 n4 : Int) (a : Option Addr) (n c : Nat) (w : World)
    (hm : ∀ w : World, (method 231 T v "revenant/segment.numbers").run Try.prog w = .ok (f, v) w)
    (hf : ∀ w : World, (callFunc f #[v]).run Try.prog w = .ok (.enter f #[v]) w)
    (hc : ∀ W : World, Calls Try.prog f #[v] W fun r w' => r = .returned (.tuple #[.int .u8 (k : Int), N5.val ⟨n0, n1, n2, n3, n4⟩, .slice a n c]) ∧ Below W.heap.size W w') :
    Calls Try.prog 25 #[.iface T v] w fun r w' => r = .returned (.tuple #[.int .u8 (k : Int), N5.val ⟨n0, n1, n2, n3, n4⟩, .slice a n c, .bool true]) ∧ Below w.heap.size w w' := by
  have hmf : ∀ (fn : Fn) (first cap : Array Value) (w : World), (Instr.makeFunc fn first cap).run Try.prog w = .ok (.func fn first cap) w := fun _ _ _ _ => rfl
  simp only [N5.val] at hc ⊢
  have HC := Lib.hid hc
  clear hc
  go_enter_defers Try.func25, Try.ntmps25
  go_wp2_with fail
  refine (HC.out _).mono ?_
  rintro e w2 ⟨rfl, hb2⟩
  obtain ⟨p, hp⟩ : ∃ p, p = w.heap.size := ⟨_, rfl⟩
  have hbw : Below p w w2 := by
    rw [hp]
    exact (((Below.alloc0 w _).alloc (by simp) _).trans (hb2.mono (by simp; omega)))
  have hp2 : w2.heap[p]? = some (.cells #[.int .i64 0, .int .i64 0, .int .i64 0, .int .i64 0, .int .i64 0] 38 (0, 0)) := by
    rw [hp]
    exact (hb2.block _ (by simp; omega)).trans ((heap_alloc_old _ _ (by simp)).trans (heap_alloc_new w _))
  have hq2 : w2.heap[p + 1]? = some (.cells #[.bool false] 4 (0, 0)) := by
    rw [hp]
    refine (hb2.block _ (by simp)).trans ?_
    have := heap_alloc_new (w.alloc (.cells #[.int .i64 0, .int .i64 0, .int .i64 0, .int .i64 0, .int .i64 0] 38)) (.cells #[.bool false] 4)
    simpa using this
  rw [← hp]
  have hput := five_put (v0 := .int .i64 n0) (v1 := .int .i64 n1) (v2 := .int .i64 n2) (v3 := .int .i64 n3) (v4 := .int .i64 n4) hp2
  obtain ⟨w3, hw3⟩ : ∃ w3, w3 = put w2 p (.cells #[.int .i64 n0, .int .i64 n1, .int .i64 n2, .int .i64 n3, .int .i64 n4] 38 (0, 0)) := ⟨_, rfl⟩
  rw [← hw3] at hput
  have HPUT := Lib.hid hput
  have HP3 : Hid (w3.heap[p]? = some (.cells #[.int .i64 n0, .int .i64 n1, .int .i64 n2, .int .i64 n3, .int .i64 n4] 38 (0, 0))) := Lib.hid (by rw [hw3]; exact put_same hp2)
  have HQ3 : Hid (w3.heap[p + 1]? = some (.cells #[.bool false] 4 (0, 0))) := Lib.hid (by rw [hw3]; exact (put_other (by omega)).trans hq2)
  have HB3 : Hid (Below p w w3) := Lib.hid (by rw [hw3]; exact hbw.trans (put_below _ (Nat.le_refl _)))
  obtain ⟨c0, c1, c2, c3, c4⟩ := five_cells hp2
  have f0 := fun i => frozen0 (i := i) hp2
  have HPW : Hid (p = w.heap.size) := Lib.hid hp
  clear hp hput hw3 hbw hb2 hp2 hq2
  go_wp2_with fail
  rw [HPUT.out]
  clear c0 c1 c2 c3 c4 f0
  obtain ⟨d0, d1, d2, d3, d4⟩ := five_cells HP3.out
  have g0 := fun i => frozen0 (i := i) HP3.out
  have g1 := fun i => frozen0 (i := i) HQ3.out
  have d5 : w3.cell? ⟨p + 1, 0, none⟩ = some (.bool false) := by simp [World.cell?, HQ3.out]
  go_region
  have hself := five_put (v0 := .int .i64 n0) (v1 := .int .i64 n1) (v2 := .int .i64 n2) (v3 := .int .i64 n3) (v4 := .int .i64 n4) HP3.out
  rw [put_self HP3.out] at hself
  rw [hself, set_put (u := .bool true) HQ3.out]
  obtain ⟨w5, hw5⟩ : ∃ w5, w5 = (put w3 (p + 1) (.cells #[.bool true] 4 (0, 0))).drew := ⟨_, rfl⟩
  have hp5 : w5.heap[p]? = some (.cells #[.int .i64 n0, .int .i64 n1, .int .i64 n2, .int .i64 n3, .int .i64 n4] 38 (0, 0)) := by rw [hw5]; exact (put_other (by omega)).trans HP3.out
  have hq5 : w5.heap[p + 1]? = some (.cells #[.bool true] 4 (0, 0)) := by rw [hw5]; exact put_same HQ3.out
  have hb5 : Below p w w5 := by rw [hw5]; exact (HB3.out.trans (put_below _ (by omega))).drew
  have e5 : (put w3 (p + 1) (.cells ((#[.bool false] : Array Value).setIfInBounds 0 (.bool true)) 4 (0, 0))).drew = w5 := hw5.symm
  rw [e5]
  have HP5 := Lib.hid hp5
  have HQ5 := Lib.hid hq5
  have HB5 := Lib.hid hb5
  clear d0 d1 d2 d3 d4 d5 g0 g1 hself hw5 e5 hp5 hq5 hb5
  go_wp2
  refine leaves_cons (f := 41) (args := #[.pointer (some ⟨p + 1, 0, none⟩)]) (by simp) (by simp [go_sem]) ?_
  refine (catch_idle ⟨p + 1, 0, none⟩ (.bool true) _ (by simp [World.cell?, HQ5.out]) (frozen0 HQ5.out)).mono ?_
  rintro e u' w6 ⟨rfl, rfl, rfl⟩
  have hself : w5.setCell ⟨p + 1, 0, none⟩ (.bool true) = w5 := by
    rw [set_put _ HQ5.out]
    exact put_self HQ5.out
  rw [hself]
  obtain ⟨d0, d1, d2, d3, d4⟩ := five_cells HP5.out
  have d5 : w5.cell? ⟨p + 1, 0, none⟩ = some (.bool true) := by simp [World.cell?, HQ5.out]
  simp [Leaves, settle, results, Try.results25, go_sem, d0, d1, d2, d3, d4, d5]
  rw [← HPW.out]
  exact HB5.out

/-- ask of a block. -/
theorem ask_any (v : Value) (x : Sg) (w : World) (h : SgV w v (some x)) : ∃ a n c, (∀ l, x = .data l → Rd w a n l ∧ n ≤ c) ∧
    Calls Try.prog 25 #[v] w fun r w' => r = .returned (.tuple #[.int .u8 (x.kind : Int), x.nums.val, .slice a n c, .bool true]) ∧ Below w.heap.size w w' := by
  rcases x with ⟨a, b, c, d, e⟩ | ⟨a, b, c, d, z⟩ | ⟨l⟩
  · subst h
    refine ⟨none, 0, 0, (fun l hl => by cases hl), ?_⟩
    exact ask_of _ _ 78 72 a b c d e none 0 0 w (fun _ => by kernel_rfl) (fun _ => by kernel_rfl) (fun W => headNums_any a b c d e W)
  · subst h
    refine ⟨none, 0, 0, (fun l hl => by cases hl), ?_⟩
    exact ask_of _ _ 79 84 a b c d (bit z) none 0 0 w (fun _ => by kernel_rfl) (fun _ => by kernel_rfl) (fun W => tailNums_any a b c d z W)
  · obtain ⟨a, n, c, rfl, hr, hc⟩ := h
    refine ⟨a, n, c, (fun l' hl => by cases hl; exact ⟨hr, hc⟩), ?_⟩
    exact ask_of _ _ 80 68 0 0 0 0 0 a n c w (fun _ => by kernel_rfl) (fun _ => by kernel_rfl) (fun W => dataNums_any a n c W)

end Go.Proofs.Ytkfnjekeegebaaa
