/- A loop over maps.Keys of a map of blocks: what its body keeps, key by key, holds behind it. -/
import Derived.Test.YtaijldcfoaeogaaGreatGKeepToINew
import Derived.Test.YtaijldcfoaeogaaGreatGEAllToERangeR
import Derived.Sort.MapsRangeIn
namespace Go.Proofs.YtaijldcfoaeogaaGreat
open Go.RowKit Go.Shelf
set_option linter.unusedSimpArgs false

theorem World.ranges.same {H : Type} {P : Program} {k : TypeId} {R : Value → Option (DataW H × List MemPlace)} {w w' : World} {b r n : Nat} {D : DataW H} {left : Lit → Bool} {cnt : Nat}
    (h : w.ranges P k R b r n D left cnt) (hb' : w'.heap[b]? = w.heap[b]?) (hr' : w'.heap[r]? = w.heap[r]?) : w'.ranges P k R b r n D left cnt := by
  obtain ⟨es, clock, since, seen, c0, hb, F, hs, hD, hr, rest⟩ := h
  exact ⟨es, clock, since, seen, c0, hb'.trans hb, F, hs, hD, hr'.trans hr, rest⟩

/-- The step of a range over a map of blocks, inside a fence. -/
theorem wpListIn_next_img {F0 : Fence} {n0 : Nat} {w : World} {ops : Array Oper} {rest : List Oper} {o : Oper} {a : Act} {Q : Exit → Act → World → Prop} (hg : o.guard = none) (it : Operand) (hop : o.op = Op.next it false)
    (b r n : Nat) (D : DataW (List Nat)) (F : List (List Nat)) (hA : Agr D F) (left : Lit → Bool) (cnt : Nat) (hit : a.eval it = .pointer (some ⟨r, 0, none⟩)) (h : w.ranges Tryz.prog 3 blkR b r n D left cnt)
    (hDone : cnt = 0 → (∀ kl, left kl = false) → wpListIn F0 n0 Tryz.prog ops Q rest (a.put o.dst (.tuple #[.bool false])) w)
    (hMore : ∀ (x : Int) (l : List Nat) (w' : World) (cnt' : Nat), (Lit.int .i64 x).wf = true → fAt F x ≠ [] → left (.int .i64 x) = true → w'.ranges Tryz.prog 3 blkR b r n D (fun z => left z && !z.sameKey (.int .i64 x)) cnt' → cnt' < cnt →
      w.grownBy w' (some r) → w'.heap.size = w.heap.size → (Instr.entry (.pointer (some ⟨r, 0, none⟩))).run Tryz.prog w' = .ok (.tuple #[.int .i64 x, .agg (cB l).toArray]) w' → wpListIn F0 n0 Tryz.prog ops Q rest (a.put o.dst (.tuple #[.bool true, .int .i64 x, .agg (cB l).toArray])) w') :
    wpListIn F0 n0 Tryz.prog ops Q (o :: rest) a w :=
  wpListIn_next_ranges w hg it hop 3 keyedInt blkR (Value.int .i64) (fun l => .agg (cB l).toArray) (fun key kl hkey => by obtain ⟨x, rfl, _⟩ := Maps.keyOf_int_inv Tryz.underlying3 hkey; exact ⟨x, rfl⟩) (fun v y hv => by obtain ⟨c, rfl, _⟩ := blkR_inv hv; exact ⟨c, rfl⟩)
    b r n D left cnt hit h hDone (fun x c kl y w' cnt' hkey hlk hv hat hrg hlt hgr hsz hen => by
      obtain ⟨x', ex, rfl, hwx⟩ := Maps.keyOf_int_inv Tryz.underlying3 hkey
      cases ex
      have hF : fAt F x ≠ [] := by
        have h1 := Maps.has_true_of_atKey hat
        rw [(hA x).1] at h1
        simpa using h1
      exact hMore x c w' cnt' hwx hF hlk hrg hlt hgr hsz hen)

/-- The keys that have come, and those still to come. -/
def KeyS (F : List (List Nat)) (left : Lit → Bool) (pre : List Int) : Prop :=
  pre.Nodup ∧ (∀ x ∈ pre, fAt F x ≠ [] ∧ left (.int .i64 x) = false) ∧ ∀ x : Int, fAt F x ≠ [] → x ∉ pre → left (.int .i64 x) = true

theorem KeyS.start {D : DataW (List Nat)} {F : List (List Nat)} (hA : Agr D F) : KeyS F (Maps.has D) [] :=
  ⟨List.nodup_nil, by simp, fun x hx _ => by rw [(hA x).1]; simp [hx]⟩

theorem sameKey_int (x y : Int) : (Lit.int .i64 x).sameKey (.int .i64 y) = decide (x = y) := by simp [Lit.sameKey]

theorem KeyS.step {F : List (List Nat)} {left : Lit → Bool} {pre : List Int} (h : KeyS F left pre) {x : Int} (hx : fAt F x ≠ []) (hl : left (.int .i64 x) = true) :
    x ∉ pre ∧ KeyS F (fun z => left z && !z.sameKey (.int .i64 x)) (pre ++ [x]) := by
  have hn : x ∉ pre := fun hm => by rw [(h.2.1 x hm).2] at hl; cases hl
  refine ⟨hn, ?_, ?_, ?_⟩
  · rw [List.nodup_append]
    refine ⟨h.1, by simp, ?_⟩
    intro a ha b hb
    simp only [List.mem_singleton] at hb
    subst hb
    rintro rfl
    exact hn ha
  · intro y hy
    simp only [List.mem_append, List.mem_singleton] at hy
    rcases hy with hy | rfl
    · exact ⟨(h.2.1 y hy).1, by show (left (.int .i64 y) && _) = false; rw [(h.2.1 y hy).2]; rfl⟩
    · exact ⟨hx, by show (left (.int .i64 y) && !(Lit.int .i64 y).sameKey (.int .i64 y)) = false; rw [sameKey_int]; simp⟩
  · intro y hy hny
    simp only [List.mem_append, List.mem_singleton, not_or] at hny
    show (left (.int .i64 y) && !(Lit.int .i64 y).sameKey (.int .i64 x)) = true
    rw [h.2.2 y hy hny.1, sameKey_int]
    simp [hny.2]

/-- All keys have come. -/
def Whole (F : List (List Nat)) (pre : List Int) : Prop := pre.Nodup ∧ ∀ x : Int, x ∈ pre ↔ fAt F x ≠ []

theorem KeyS.whole {F : List (List Nat)} {left : Lit → Bool} {pre : List Int} (h : KeyS F left pre) (hl : ∀ kl, left kl = false) : Whole F pre := by
  refine ⟨h.1, fun x => ⟨fun hx => (h.2.1 x hx).1, fun hx => ?_⟩⟩
  apply Classical.byContradiction
  intro hn
  have := h.2.2 x hx hn
  rw [hl] at this
  cases this

set_option maxHeartbeats 4000000 in
set_option maxRecDepth 100000 in
theorem keys_in (F0 : Fence) (n : Nat) (hF : F0.fn 84) (hro : F0.round = none) (hn : 1 ≤ n) (cb mb q : Nat) (D : DataW (List Nat)) (F : List (List Nat)) (hA : Agr D F) (O : Option Obj)
    (l B Bx : Nat) (hlB : l < Bx) (hBx : B ≤ Bx) (R : World → Nat → Prop) (J : List Int → World → Prop)
    (hJa : ∀ pre W W', J pre W → Below Bx W W' → (∀ k, R W k → W'.heap[k]? = W.heap[k]?) → J pre W') (hRa : ∀ W W' k, Below Bx W W' → R W' k → R W k) (hRc : ∀ pre W k, J pre W → R W k → ∃ cs t fr, W.heap[k]? = some (.cells cs t fr))
    (hJG : ∀ pre W, J pre W → W.cell? ⟨cb, 0, none⟩ = some (.map (some mb)) ∧ W.heap[mb]? = O ∧ mb < Bx ∧ Bx ≤ W.heap.size)
    (hY : ∀ pre x W1, J pre W1 → x ∉ pre → fAt F x ≠ [] → YieldAt F0 (n - 1) Tryz.prog l #[.int .i64 x] W1 fun e W' => e = .returned (.bool true) ∧ J (pre ++ [x]) W' ∧ KeepR R B l W1 W')
    (W : World) (h0 : J [] W) (hown : W.ownsMap Tryz.prog 3 blkR mb q D) :
    CallsIn F0 n Tryz.prog 84 #[.func (.yield l) #[] #[], .pointer (some ⟨cb, 0, none⟩)] W fun e W' => (∃ v, e = .returned v) ∧ ∃ pre, Whole F pre ∧ J pre W' := by
  have HJa := Lib.hid hJa
  have HRa := Lib.hid hRa
  have HRc := Lib.hid hRc
  have HJG := Lib.hid hJG
  have HY := Lib.hid hY
  have HAg := Lib.hid hA
  have HO := Lib.hid hown
  have H0 := Lib.hid h0
  obtain ⟨hc0, _, _, _⟩ := hJG _ _ h0
  clear hJa hJG hY hRa hRc hA hown h0
  refine callsIn_of_wp Tryz.func84 rfl hF ?_ hro
  simp only [Tryz.ntmps84, List.size_toArray, List.length_cons, List.length_nil, Nat.reduceAdd, Nat.reduceSub, Array.replicate_succ, Array.replicate_zero, List.push_toArray, List.append_toArray, List.nil_append, List.cons_append]
  obtain ⟨r, hr⟩ : ∃ r, r = W.heap.size := ⟨_, rfl⟩
  gi_wp2_with (gi_at_range; refine wpListIn_range_own _ rfl _ 100 rfl 3 105 keyedInt Tryz.underlying100 _ mb q D rfl HO.out ?_; intro w0 hrg0 hg0 hs0)
  go_frame
  rw [← hr] at hrg0 ⊢
  have hJ0 : J [] w0 := HJa.out _ _ _ H0.out ⟨hg0.os, hg0.tape, hg0.output, hg0.size, fun k hk => hg0.block k (Nat.lt_of_lt_of_le hk (HJG.out _ _ H0.out).2.2.2) (by simp)⟩ (fun k hR => by
    obtain ⟨cs, t, fr, e⟩ := HRc.out _ _ _ H0.out hR
    exact hg0.block k (Array.getElem?_eq_some_iff.1 e).1 (by simp))
  have HR : Hid (Bx ≤ r) := Lib.hid (by rw [hr]; exact (HJG.out _ _ H0.out).2.2.2)
  have hnR : ¬ R w0 r := fun hR => by
    obtain ⟨cs, t, fr, e⟩ := HRc.out _ _ _ hJ0 hR
    obtain ⟨_, _, _, _, _, _, _, _, _, hit, _⟩ := hrg0
    rw [hit] at e
    cases e
  have HR0 := Lib.hid (And.intro hrg0 (And.intro hJ0 hnR))
  clear hr hrg0 hg0 hs0 hJ0 hnR hc0 H0 HO
  gi_loopw [3] (fun _ wr => ∃ (left : Lit → Bool) (cnt : Nat) (pre : List Int), Hid (wr.ranges Tryz.prog 3 blkR mb r q D left cnt) ∧ Hid (J pre wr) ∧ Hid (¬ R wr r) ∧ Hid (KeyS F left pre)) (fun _ wr => wr.rangeLeft mb r)
  case atStart => exact ⟨_, _, [], Lib.hid HR0.out.1, Lib.hid HR0.out.2.1, Lib.hid HR0.out.2.2, Lib.hid (KeyS.start HAg.out)⟩
  case round =>
    obtain ⟨left, cnt, pre, HRg, HJ, HnR, HK⟩ := hrel
    gi_wp2_with (gi_at_next; refine wpListIn_next_img rfl _ rfl mb r q D F HAg.out left cnt rfl HRg.out ?_ ?_)
    · intro hc0 hl0
      have HL0 := Lib.hid hl0
      clear hc0 hl0
      gi_wp2
      go_end0
      exact ⟨⟨_, rfl⟩, pre, HK.out.whole HL0.out, HJ.out⟩
    · intro x lb w1 cnt1 hwx hfx hlx hrg1 hlt hg1 hs1 hen
      have hJ1 : J pre w1 := HJa.out _ _ _ HJ.out ⟨hg1.os, hg1.tape, hg1.output, hg1.size, fun k hk => hg1.block k (Nat.lt_of_lt_of_le hk (HJG.out _ _ HJ.out).2.2.2) (by intro e; injection e with e; have := HR.out; omega)⟩ (fun k hR => by
        obtain ⟨cs, t, fr, e⟩ := HRc.out _ _ _ HJ.out hR
        refine hg1.block k (Array.getElem?_eq_some_iff.1 e).1 ?_
        intro e2
        injection e2 with e2
        subst e2
        exact HnR.out hR)
      have hnR1 : ¬ R w1 r := fun hR => by
        obtain ⟨cs, t, fr, e⟩ := HRc.out _ _ _ hJ1 hR
        obtain ⟨_, _, _, _, _, _, _, _, _, hit, _⟩ := hrg1
        rw [hit] at e
        cases e
      obtain ⟨hxp, hks⟩ := HK.out.step hfx hlx
      obtain ⟨fn, tmps, assign, body, hy, hRy⟩ := HY.out pre x w1 hJ1 hxp hfx
      have H1 := Lib.hid (And.intro hrg1 (And.intro hlt (And.intro hJ1 (And.intro hnR1 hks))))
      clear hwx hfx hlx hrg1 hlt hg1 hs1 hJ1 hnR1 hxp hks
      gi_wp2
      refine hRy.mono ?_
      rintro e W3 ⟨rfl, hJ3, hk3⟩
      have hb3 : W3.heap[mb]? = w1.heap[mb]? := (HJG.out _ _ hJ3).2.1.trans (HJG.out _ _ H1.out.2.2.1).2.1.symm
      have hr3 : W3.heap[r]? = w1.heap[r]? := hk3.same r (by have := HR.out; omega) (by have := HR.out; omega) H1.out.1.lt H1.out.2.2.2.1
      have hrg3 := World.ranges.same H1.out.1 hb3 hr3
      have HF3 := Lib.hid (And.intro hJ3 (And.intro hk3 hrg3))
      clear hJ3 hk3 hb3 hr3 hrg3 hen hy
      gi_wp2
      go_roundw
      case rel =>
        refine ⟨_, cnt1, pre ++ [x], Lib.hid HF3.out.2.2, Lib.hid HF3.out.1, Lib.hid fun hR => ?_, Lib.hid H1.out.2.2.2.2⟩
        rcases HF3.out.2.1.row r hR with h1 | h1
        · exact H1.out.2.2.2.1 h1
        · have := H1.out.1.lt; omega
      case measure => rw [HF3.out.2.2.left_eq, HRg.out.left_eq]; exact H1.out.2.1

end Go.Proofs.YtaijldcfoaeogaaGreat

/- A loop over maps.Keys of a map of blocks, as the loop stands in the Go text. -/
namespace Go.Proofs.YtaijldcfoaeogaaGreat
open Go.RowKit Go.Shelf

theorem range_keys {g : Operand} {ps : Array Tmp} {assign body : Code} {Q : Exit → Act → World → Prop} {a : Act} {w : World} (cb mb q : Nat) (F : List (List Nat)) (hmp : Mp w mb q F)
    (hg : a.eval g = .func (.func 84) #[] #[.pointer (some ⟨cb, 0, none⟩)]) (hps : ps.size = 1) (R : World → Nat → Prop) (I : List Int → World → Prop)
    (hR : ∀ W W' k, Below w.heap.size W W' → R W' k → R W k) (hRc : ∀ pre W k, I pre W → R W k → ∃ cs t fr, W.heap[k]? = some (.cells cs t fr))
    (hI : ∀ pre W W', I pre W → Below w.heap.size W W' → (∀ k, R W k → W'.heap[k]? = W.heap[k]?) → I pre W') (hG : ∀ pre W, I pre W → W.cell? ⟨cb, 0, none⟩ = some (.map (some mb)) ∧ W.heap[mb]? = w.heap[mb]?) (h0 : I [] w) (a₁ : Int → Act)
    (hassign : ∀ (l : Nat) (x : Int) (W : World) (K : Act → World → Prop), K (a₁ x) W → assign.wpIn (Fence.wide.inRound l) 1 Tryz.prog (Exit.then K (fun _ _ _ => False)) { tmps := (ps.zip #[Value.int .i64 x]).foldl (fun t (p, v) => t.setIfInBounds p v) a.tmps, defers := [] } W)
    (hbody : ∀ (l : Nat) (pre : List Int) (x : Int) (W : World), I pre W → w.heap.size ≤ W.heap.size → x ∉ pre → fAt F x ≠ [] → body.wpIn (Fence.wide.inRound l) 1 Tryz.prog (rPostR R w.heap.size I (fun _ _ _ => False) (pre ++ [x]) W) (a₁ x) W)
    (hdone : ∀ (D : Nat) (pre : List Int) (W : World), w.heap.size ≤ D → Whole F pre → I pre W → W.heap[D]? = some (.deferred (some [])) → Q .normal { a with defers := { target := .collected D, args := #[] } :: a.defers } W) :
    (Code.rangeFunc g ps assign body).wpIn Fence.wide 3 Tryz.prog Q a w := by
  refine wpIn_rangeFunc ?_
  intro fn hfn
  obtain ⟨B, hB⟩ : ∃ B, B = w.heap.size := ⟨_, rfl⟩
  obtain ⟨Dm, hown, hAg⟩ := hmp
  have hmlt : mb < B := by rw [hB]; exact hown.lt
  rw [← hB] at hI hR hbody hdone
  obtain ⟨rec, hrec⟩ : ∃ rec : LoopState → Option Code → Loop, rec = fun st pe => { state := st, pending := pe, fn, tmps := a.tmps, params := ps, assign, body, defers := B } := ⟨_, rfl⟩
  obtain ⟨W1, hW1⟩ : ∃ W1, W1 = (w.alloc (.deferred (some []))).alloc (.loop (rec .ready none)) := ⟨_, rfl⟩
  have e1 : W1.heap[B + 1]? = some (.loop (rec .ready none)) := by
    have := World.alloc_heap_new (w.alloc (.deferred (some []))) (.loop (rec .ready none))
    rw [World.size_alloc, ← hB, ← hW1] at this
    exact this
  have e0 : W1.heap[B]? = some (.deferred (some [])) := by
    rw [hW1, hB]
    exact (Below.heap_alloc _ _ _ (by simp)).trans (World.alloc_heap_new w _)
  have hb1 : Below w.heap.size w W1 := by rw [hW1]; exact ((Below.refl _ w).alloc (Nat.le_refl _) _).alloc (by simp) _
  have lt_row : ∀ {pre W k}, I pre W → R W k → k < W.heap.size := fun h hr => by obtain ⟨_, _, _, e⟩ := hRc _ _ _ h hr; exact (Array.getElem?_eq_some_iff.1 e).1
  have ne_row : ∀ {pre W k o}, I pre W → W.heap[B + 1]? = some (.loop o) → R W k → k ≠ B + 1 := fun h hl hr => by
    rintro rfl
    obtain ⟨_, _, _, e⟩ := hRc _ _ _ h hr
    rw [hl] at e
    cases e
  have hI1 : I [] W1 := hI _ _ _ h0 (by rw [hB]; exact hb1) (fun k hr => hb1.block k (lt_row h0 hr))
  refine ⟨B + 1, [{ target := .collected B, args := #[] }], W1, { target := .fn (.func 84) #[.pointer (some ⟨cb, 0, none⟩)], args := #[.func (.yield (B + 1)) #[] #[]] }, W1, 84, #[.func (.yield (B + 1)) #[] #[], .pointer (some ⟨cb, 0, none⟩)], W1, ?_, ?_, ?_, ?_, fun _ => by omega, ?_⟩
  · rw [hW1, hrec, hB]; exact run_enterLoop_outer _ _ _ _ _
  · simp only [resolve, hg]
    simp [go_sem]
  · intro f' _; trivial
  · have eg : ∀ args w, (callFunc 84 args).run Tryz.prog w = .ok (.enter 84 args) w := enters_of Tryz.func84 (by kernel_rfl) rfl
    simp [invoke, go_sem, eg]
  · have lt_of : ∀ {W : World} {o : Obj}, W.heap[B + 1]? = some o → B + 1 < W.heap.size := fun h => (Array.getElem?_eq_some_iff.1 h).1
    refine (keys_in Fence.wide 2 trivial rfl (by omega) cb mb q Dm F hAg (w.heap[mb]?) (B + 1) B (B + 2) (by omega) (by omega) R
      (fun pre W => I pre W ∧ W.heap[B + 1]? = some (.loop (rec .ready none)) ∧ W.heap[B]? = some (.deferred (some [])))
      (fun pre W W' h hb hrw => ?_) (fun W W' k hb hr => hR W W' k (hb.mono (by omega)) hr) (fun pre W k h hr => hRc pre W k h.1 hr) (fun pre W h => ⟨(hG _ _ h.1).1, (hG _ _ h.1).2, by omega, by have := lt_of h.2.1; omega⟩) ?_ W1 ⟨hI1, e1, e0⟩ (hown.kept (row := none) ?_ (by simp))).mono ?_
    · exact ⟨hI _ _ _ h.1 (hb.mono (by omega)) hrw, (hb.block _ (by omega)).trans h.2.1, (hb.block _ (by omega)).trans h.2.2⟩
    · rintro pre x W ⟨hi, hl, hd⟩ hxp hfx
      have hlt := lt_of hl
      have hy := run_yield (P := Tryz.prog) (args := #[Value.int .i64 x]) hl (by rw [hrec]; exact hps.symm)
      rw [hrec] at hy
      obtain ⟨W2, hW2⟩ : ∃ W2, W2 = W.putObj (B + 1) (.loop { rec .ready none with state := .busy }) := ⟨_, rfl⟩
      have hl2 : W2.heap[B + 1]? = some (.loop { rec .ready none with state := .busy }) := by rw [hW2]; exact World.putObj_heap_same hlt
      have hd2 : W2.heap[B]? = some (.deferred (some [])) := by rw [hW2]; exact (World.putObj_heap_other (by omega)).trans hd
      have hs2 : W2.heap.size = W.heap.size := by rw [hW2]; simp
      have hbeg := run_beginRound (P := Tryz.prog) hl (by rw [hrec])
      rw [← hW2] at hbeg
      have hi2 : I pre W2 := hI _ _ _ hi (by rw [hW2]; exact below_put (by omega) _ _) (fun k hr => by rw [hW2]; exact World.putObj_heap_other (ne_row hi hl hr))
      refine ⟨fn, _, assign, body, hy, roundIn_of_wpIn hfn (hassign _ x W _ ⟨W2, hbeg, ?_⟩)⟩
      refine wpIn_mono (hbody _ pre x W2 hi2 (by omega) hxp hfx) ?_
      have fin : ∀ (jump : Option Code) (W3 : World), KeepRU R B W2 W3 →
          (Instr.endRound (B + 1) jump).run Tryz.prog W3 = .ok (.bool jump.isNone) (W3.putObj (B + 1) (.loop (rec (if jump.isNone then .ready else .done) jump))) ∧
          (W3.putObj (B + 1) (.loop (rec (if jump.isNone then .ready else .done) jump))).heap[B + 1]? = some (.loop (rec (if jump.isNone then .ready else .done) jump)) ∧
          (W3.putObj (B + 1) (.loop (rec (if jump.isNone then .ready else .done) jump))).heap[B]? = some (.deferred (some [])) ∧
          KeepR R B (B + 1) W (W3.putObj (B + 1) (.loop (rec (if jump.isNone then .ready else .done) jump))) ∧ ∃ o, W3.heap[B + 1]? = some (.loop o) := by
        intro jump W3 hk3
        have n1 : ¬ R W2 (B + 1) := fun hr => by obtain ⟨_, _, _, e⟩ := hRc pre W2 _ hi2 hr; rw [hl2] at e; cases e
        have n0 : ¬ R W2 B := fun hr => by obtain ⟨_, _, _, e⟩ := hRc pre W2 _ hi2 hr; rw [hd2] at e; cases e
        have hl3 := (hk3.same (B + 1) (by omega) (by omega) n1).trans hl2
        have hr := run_endRound (P := Tryz.prog) jump hl3
        have hlt3 := lt_of hl3
        refine ⟨?_, World.putObj_heap_same hlt3, ?_, ⟨?_, ?_, ?_⟩, ⟨_, hl3⟩⟩
        · rw [hrec] at hr ⊢; exact hr
        · exact (World.putObj_heap_other (by omega)).trans ((hk3.same B (Nat.le_refl _) (by omega) n0).trans hd2)
        · have := hk3.size; simp; omega
        · intro k hk hne hkl hnr
          have hnr2 : ¬ R W2 k := fun hr => hnr (hR W W2 k (by rw [hW2]; exact below_put (by omega) _ _) hr)
          rw [World.putObj_heap_other hne, hk3.same k hk (by omega) hnr2, hW2, World.putObj_heap_other hne]
        · intro k hr
          rcases hk3.row k (hR W3 _ k (below_put (by omega) _ _) hr) with h1 | h1
          · exact .inl (hR W W2 k (by rw [hW2]; exact below_put (by omega) _ _) h1)
          · exact .inr (by omega)
      rintro e a3 W3 hp
      cases e with
      | normal =>
        obtain ⟨hk3, hi3⟩ := hp
        obtain ⟨hr, hl4, hd4, hk4, o3, hl3⟩ := fin none W3 hk3
        exact ⟨_, _, hr, rfl, ⟨hI _ _ _ hi3 (below_put (by omega) _ _) (fun k hr => World.putObj_heap_other (ne_row hi3 hl3 hr)), hl4, hd4⟩, hk4⟩
      | ret => exact hp.2.elim
      | exit id => exact hp.2.elim
      | goto t => exact hp.elim
      | panic ch => exact hp.elim
      | outgrown => exact hp.elim
    · exact ⟨hb1.os, hb1.tape, hb1.output, hb1.size, fun k hk _ => hb1.block k hk⟩
    · rintro e W2 ⟨⟨v, rfl⟩, pre, hwh, hi, hl, hd⟩
      have hr := run_endLoop (P := Tryz.prog) hl (by rw [hrec]; simp)
      exact ⟨none, _, by rw [hrec] at hr; exact hr, hdone B pre _ (Nat.le_refl _) hwh (hI _ _ _ hi (below_put (by omega) _ _) (fun k hr => World.putObj_heap_other (ne_row hi hl hr))) ((World.putObj_heap_other (by omega)).trans hd)⟩

end Go.Proofs.YtaijldcfoaeogaaGreat
