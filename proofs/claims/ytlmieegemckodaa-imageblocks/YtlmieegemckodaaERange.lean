/- A loop over a set's All: what its body keeps, number by number, holds behind it. -/
import Derived.Test.YtlmieegemckodaaEAll
namespace Go.Proofs.Ytlmieegemckodaa
open Go.RowKit Go.Shelf

/-- What lies from B on stays. -/
structure KeepU (B : Nat) (W W' : World) : Prop where
  size : W.heap.size ≤ W'.heap.size
  same : ∀ k, B ≤ k → k < W.heap.size → W'.heap[k]? = W.heap[k]?

/-- How a round may be left. -/
def rPost (B : Nat) (I : List Int → World → Prop) (Ix : Code → List Int → World → Prop) (xs : List Int) (W : World) : Exit → Act → World → Prop
  | .normal, _, W' => KeepU B W W' ∧ I xs W'
  | .ret, _, W' => KeepU B W W' ∧ Ix .ret xs W'
  | .exit id, _, W' => KeepU B W W' ∧ Ix (.exit id) xs W'
  | _, _, _ => False

theorem below_put {B l : Nat} (h : B ≤ l) (W : World) (o : Obj) : Below B W (W.putObj l o) :=
  ⟨rfl, rfl, rfl, by simp, fun k hk => World.putObj_heap_other (by omega)⟩

theorem range_all {g : Operand} {ps : Array Tmp} {assign body : Code} {Q : Exit → Act → World → Prop} {a : Act} {w : World} (sa : Option Addr) (sn sc : Nat) (M : List Rn) (hsn : sn ≤ 1000000) (hok : ∀ r ∈ M, r.ok)
    (hg : a.eval g = .func (.func 33) #[.slice sa sn sc] #[]) (hps : ps.size = 1) (I : List Int → World → Prop) (Ix : Code → List Int → World → Prop)
    (hI : ∀ pre W W', I pre W → Below w.heap.size W W' → I pre W') (hIx : ∀ c pre W W', Ix c pre W → Below w.heap.size W W' → Ix c pre W') (hG : ∀ pre W, I pre W → RdR W sa sn M) (h0 : I [] w) (a₁ : Int → Act)
    (hassign : ∀ (l : Nat) (x : Int) (W : World) (K : Act → World → Prop), K (a₁ x) W → assign.wpIn (Fence.wide.inRound l) 1 Try.prog (Exit.then K (fun _ _ _ => False)) { tmps := (ps.zip #[Value.int .i64 x]).foldl (fun t (p, v) => t.setIfInBounds p v) a.tmps, defers := [] } W)
    (hbody : ∀ (l : Nat) (pre : List Int) (x : Int) (W : World), I pre W → w.heap.size ≤ W.heap.size → pre ++ [x] <+: numsR M → body.wpIn (Fence.wide.inRound l) 1 Try.prog (rPost w.heap.size I Ix (pre ++ [x]) W) (a₁ x) W)
    (hdone : ∀ (D : Nat) (W : World), w.heap.size ≤ D → I (numsR M) W → W.heap[D]? = some (.deferred (some [])) → Q .normal { a with defers := { target := .collected D, args := #[] } :: a.defers } W)
    (hstop : ∀ (D : Nat) (c : Code) (pre : List Int) (W : World), w.heap.size ≤ D → pre <+: numsR M → Ix c pre W → W.heap[D]? = some (.deferred (some [])) → c.wpIn Fence.wide 3 Try.prog Q { a with defers := { target := .collected D, args := #[] } :: a.defers } W) :
    (Code.rangeFunc g ps assign body).wpIn Fence.wide 3 Try.prog Q a w := by
  refine wpIn_rangeFunc ?_
  intro fn hfn
  obtain ⟨B, hB⟩ : ∃ B, B = w.heap.size := ⟨_, rfl⟩
  rw [← hB] at hI hIx hbody hdone hstop
  obtain ⟨rec, hrec⟩ : ∃ rec : LoopState → Option Code → Loop, rec = fun st pe => { state := st, pending := pe, fn, tmps := a.tmps, params := ps, assign, body, defers := B } := ⟨_, rfl⟩
  obtain ⟨W1, hW1⟩ : ∃ W1, W1 = (w.alloc (.deferred (some []))).alloc (.loop (rec .ready none)) := ⟨_, rfl⟩
  have e1 : W1.heap[B + 1]? = some (.loop (rec .ready none)) := by
    have := World.alloc_heap_new (w.alloc (.deferred (some []))) (.loop (rec .ready none))
    rw [World.size_alloc, ← hB, ← hW1] at this
    exact this
  have e0 : W1.heap[B]? = some (.deferred (some [])) := by
    rw [hW1, hB]
    exact (Below.heap_alloc _ _ _ (by simp)).trans (World.alloc_heap_new w _)
  have hI1 : I [] W1 := hI _ _ _ h0 (by rw [hW1, hB]; exact ((Below.refl _ w).alloc (Nat.le_refl _) _).alloc (by simp) _)
  refine ⟨B + 1, [{ target := .collected B, args := #[] }], W1, { target := .fn (.func 33) #[], args := #[.slice sa sn sc, .func (.yield (B + 1)) #[] #[]] }, W1, 33, #[.slice sa sn sc, .func (.yield (B + 1)) #[] #[]], W1, ?_, ?_, ?_, ?_, fun _ => by omega, ?_⟩
  · rw [hW1, hrec, hB]; exact run_enterLoop_outer _ _ _ _ _
  · simp only [resolve, hg]
    simp [go_sem]
  · intro f' _; trivial
  · have eg : ∀ args w, (callFunc 33 args).run Try.prog w = .ok (.enter 33 args) w := enters_of Try.func33 (by kernel_rfl) rfl
    simp [invoke, go_sem, eg]
  · have lt_of : ∀ {W : World} {o : Obj}, W.heap[B + 1]? = some o → B + 1 < W.heap.size := fun h => (Array.getElem?_eq_some_iff.1 h).1
    refine (all_in Fence.wide 2 trivial rfl (by omega) sa sn sc M hsn hok (B + 1) B
      (fun pre W => I pre W ∧ W.heap[B + 1]? = some (.loop (rec .ready none)) ∧ W.heap[B]? = some (.deferred (some [])))
      (fun pre W => ∃ c, Ix c pre W ∧ W.heap[B + 1]? = some (.loop (rec .done (some c))) ∧ W.heap[B]? = some (.deferred (some [])))
      (fun pre W o h => ?_) (fun pre W h => ⟨hG _ _ h.1, by have := lt_of h.2.1; omega, lt_of h.2.1⟩) ?_ W1 ⟨hI1, e1, e0⟩).mono ?_
    · have hl := lt_of h.2.1
      exact ⟨hI _ _ _ h.1 ((Below.refl _ _).alloc (by omega) _), (Below.heap_alloc _ _ _ (by omega)).trans h.2.1, (Below.heap_alloc _ _ _ (by omega)).trans h.2.2⟩
    · rintro pre x W ⟨hi, hl, hd⟩ hpre
      have hlt := lt_of hl
      have hy := run_yield (P := Try.prog) (args := #[Value.int .i64 x]) hl (by rw [hrec]; exact hps.symm)
      rw [hrec] at hy
      obtain ⟨W2, hW2⟩ : ∃ W2, W2 = W.putObj (B + 1) (.loop { rec .ready none with state := .busy }) := ⟨_, rfl⟩
      have hl2 : W2.heap[B + 1]? = some (.loop { rec .ready none with state := .busy }) := by rw [hW2]; exact World.putObj_heap_same hlt
      have hd2 : W2.heap[B]? = some (.deferred (some [])) := by rw [hW2]; exact (World.putObj_heap_other (by omega)).trans hd
      have hs2 : W2.heap.size = W.heap.size := by rw [hW2]; simp
      have hbeg := run_beginRound (P := Try.prog) hl (by rw [hrec])
      rw [← hW2] at hbeg
      have hi2 : I pre W2 := hI _ _ _ hi (by rw [hW2]; exact below_put (by omega) _ _)
      refine ⟨fn, _, assign, body, hy, roundIn_of_wpIn hfn (hassign _ x W _ ⟨W2, hbeg, ?_⟩)⟩
      refine wpIn_mono (hbody _ pre x W2 hi2 (by omega) hpre) ?_
      have fin : ∀ (jump : Option Code) (W3 : World), KeepU B W2 W3 →
          (Instr.endRound (B + 1) jump).run Try.prog W3 = .ok (.bool jump.isNone) (W3.putObj (B + 1) (.loop (rec (if jump.isNone then .ready else .done) jump))) ∧
          (W3.putObj (B + 1) (.loop (rec (if jump.isNone then .ready else .done) jump))).heap[B + 1]? = some (.loop (rec (if jump.isNone then .ready else .done) jump)) ∧
          (W3.putObj (B + 1) (.loop (rec (if jump.isNone then .ready else .done) jump))).heap[B]? = some (.deferred (some [])) ∧
          KeepA B (B + 1) W (W3.putObj (B + 1) (.loop (rec (if jump.isNone then .ready else .done) jump))) := by
        intro jump W3 hk3
        have hl3 := (hk3.same (B + 1) (by omega) (by omega)).trans hl2
        have hr := run_endRound (P := Try.prog) jump hl3
        have hlt3 := lt_of hl3
        refine ⟨?_, World.putObj_heap_same hlt3, ?_, ?_, ?_⟩
        · rw [hrec] at hr ⊢; exact hr
        · exact (World.putObj_heap_other (by omega)).trans ((hk3.same B (Nat.le_refl _) (by omega)).trans hd2)
        · have := hk3.size; simp; omega
        · intro k hk hne hkl
          rw [World.putObj_heap_other hne, hk3.same k hk (by omega), hW2, World.putObj_heap_other hne]
      rintro e a3 W3 hp
      cases e with
      | normal =>
        obtain ⟨hk3, hi3⟩ := hp
        obtain ⟨hr, hl4, hd4, hk4⟩ := fin none W3 hk3
        exact ⟨_, _, hr, .inl ⟨rfl, ⟨hI _ _ _ hi3 (below_put (by omega) _ _), hl4, hd4⟩, hk4⟩⟩
      | ret =>
        obtain ⟨hk3, hi3⟩ := hp
        obtain ⟨hr, hl4, hd4, hk4⟩ := fin (some .ret) W3 hk3
        exact ⟨_, _, hr, .inr ⟨rfl, .ret, hIx _ _ _ _ hi3 (below_put (by omega) _ _), hl4, hd4⟩⟩
      | exit id =>
        obtain ⟨hk3, hi3⟩ := hp
        obtain ⟨hr, hl4, hd4, hk4⟩ := fin (some (.exit id)) W3 hk3
        exact ⟨_, _, hr, .inr ⟨rfl, .exit id, hIx _ _ _ _ hi3 (below_put (by omega) _ _), hl4, hd4⟩⟩
      | goto t => exact hp.elim
      | panic ch => exact hp.elim
      | outgrown => exact hp.elim
    · rintro e W2 ⟨⟨v, rfl⟩, (⟨hi, hl, hd⟩ | ⟨pre, hpre, c, hi, hl, hd⟩)⟩
      · have hr := run_endLoop (P := Try.prog) hl (by rw [hrec]; simp)
        exact ⟨none, _, by rw [hrec] at hr; exact hr, hdone B _ (Nat.le_refl _) (hI _ _ _ hi (below_put (by omega) _ _)) ((World.putObj_heap_other (by omega)).trans hd)⟩
      · have hr := run_endLoop (P := Try.prog) hl (by rw [hrec]; simp)
        exact ⟨some c, _, by rw [hrec] at hr; exact hr, hstop B c pre _ (Nat.le_refl _) hpre (hIx _ _ _ _ hi (below_put (by omega) _ _)) ((World.putObj_heap_other (by omega)).trans hd)⟩

end Go.Proofs.Ytlmieegemckodaa
