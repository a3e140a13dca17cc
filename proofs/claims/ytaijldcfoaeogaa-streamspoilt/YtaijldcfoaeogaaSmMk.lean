/- A stream that is being made: what is kept while records are added. -/
import Derived.Test.YtaijldcfoaeogaaGRcParseToSmAdd
import Derived.Test.YtaijldcfoaeogaaGSmMathToSmPcs
import Derived.Test.YtaijldcfoaeogaaRoundIn
namespace Go.Proofs.Ytaijldcfoaeogaa
open Go.RowKit Go.Shelf
set_option linter.unusedSimpArgs false

/-- The row of what is ahead lies in block k. -/
def RowS (gs : Nat) (W : World) (k : Nat) : Prop := ∃ v c, W.heap[gs]? = some (.cells #[v, c] 48 (0, 0)) ∧ v.ownBlock = some k

theorem Ahd.row_iff {W : World} {gs base : Nat} {r : Option Nat} {l : List Nat} {c : Nat} (h : Ahd W gs base r l c) (k : Nat) : RowS gs W k ↔ r = some k := by
  obtain ⟨v, h1, h2, _⟩ := h.ex
  constructor
  · rintro ⟨u, c', e1, e2⟩
    rw [h1] at e1
    injection e1 with e1
    injection e1 with e1
    injection e1 with e1
    injection e1 with e1
    subst e1
    exact h2 ▸ e2
  · intro e
    exact ⟨v, _, h1, h2.trans e⟩

theorem RowS.back {W W' : World} {gs k : Nat} (h : RowS gs W' k) (he : W'.heap[gs]? = W.heap[gs]?) : RowS gs W k := by
  obtain ⟨v, c, e1, e2⟩ := h
  exact ⟨v, c, he.symm.trans e1, e2⟩

/-- Behind V: the records xs are ahead; nothing else is another one. -/
structure Mk (V : World) (gs : Nat) (r0 : Option Nat) (xs : List Rec) (W : World) : Prop where
  ahd : ∃ r, Ahd W gs (gs + 1) r (flatB xs) xs.length ∧ ∀ k, r = some k → r0 = some k ∨ V.heap.size ≤ k
  sav : Save (gs :: r0.toList) V W

theorem Mk.lt {V : World} {gs : Nat} {r0 : Option Nat} {xs : List Rec} {W : World} (h : Mk V gs r0 xs W) : gs < W.heap.size := by
  obtain ⟨r, h1, _⟩ := h.ahd
  exact h1.g_lt

theorem Mk.same {V : World} {gs : Nat} {r0 : Option Nat} {xs : List Rec} {W W' : World} (h : Mk V gs r0 xs W) (hb : Below V.heap.size W W') (hgs : gs < V.heap.size) (hr : ∀ k, RowS gs W k → W'.heap[k]? = W.heap[k]?) (hs : W.heap.size ≤ W'.heap.size) : Mk V gs r0 xs W' := by
  obtain ⟨r, h1, h2⟩ := h.ahd
  exact ⟨⟨r, h1.same (hb.block gs hgs) fun k hk => hr k ((h1.row_iff k).2 hk), h2⟩, hb.os.trans h.sav.os, hb.tape.trans h.sav.tape, hb.output.trans h.sav.output, Nat.le_trans h.sav.size hs, fun k hk hx => (hb.block k hk).trans (h.sav.block k hk hx)⟩

theorem Mk.later {V : World} {gs : Nat} {r0 : Option Nat} {xs : List Rec} {W W' : World} (h : Mk V gs r0 xs W) (hb : Below W.heap.size W W') (hgs : gs < V.heap.size) : Mk V gs r0 xs W' :=
  h.same (hb.mono h.sav.size) hgs (fun k hk => by
    obtain ⟨r, h1, _⟩ := h.ahd
    exact hb.block k (h1.row_lt ((h1.row_iff k).1 hk)).2) hb.size

/-- Behind W only the row of what is ahead, and its block, are other ones. -/
structure KeepS (gs : Nat) (W W' : World) : Prop where
  size : W.heap.size ≤ W'.heap.size
  same : ∀ k, k < W.heap.size → k ≠ gs → ¬ RowS gs W k → W'.heap[k]? = W.heap[k]?
  row : ∀ k, RowS gs W' k → RowS gs W k ∨ W.heap.size ≤ k

theorem mk_add {V W : World} {gs : Nat} {r0 : Option Nat} {xs : List Rec} (h : Mk V gs r0 xs W) (x : Rec) (a : Option Addr) (n cap : Nat) (hx : x.ok = true) (hr : Rd W a n x.l) (hxs : ∀ y ∈ xs, y.ok = true) (hl : xs.length ≤ 5000) :
    Calls Try.prog 12 #[.pointer (some ⟨gs, 0, none⟩), rcV x a n cap] W fun e W' => e = .returned (.int .i64 0) ∧ Hid (Mk V gs r0 (xs ++ [x]) W') ∧ Hid (KeepS gs W W') := by
  obtain ⟨r, h1, h2⟩ := h.ahd
  have hfl := flatB_len hxs
  refine (add_any x a n cap W gs (gs + 1) r (flatB xs) xs.length h1 hx hr (by omega) (by omega) h1.g_lt).mono ?_
  rintro e W' ⟨rfl, r', ha, hs, hr'⟩
  have hsz := h.sav.size
  refine ⟨rfl, Lib.hid ⟨⟨r', ?_, fun k hk => ?_⟩, ?_⟩, Lib.hid ⟨hs.out.size, fun k hk hg hnr => ?_, fun k hk => ?_⟩⟩
  · rw [flatB_append, flatB_one, List.length_append]
    exact ha.out
  · rcases hr'.out k hk with h3 | h3
    · exact h2 k h3
    · exact .inr (Nat.le_trans hsz h3)
  · refine ⟨hs.out.os.trans h.sav.os, hs.out.tape.trans h.sav.tape, hs.out.output.trans h.sav.output, Nat.le_trans hsz hs.out.size, fun k hk hxk => ?_⟩
    simp only [List.mem_cons, Option.mem_toList, not_or] at hxk
    refine (hs.out.block k (Nat.lt_of_lt_of_le hk hsz) ?_).trans (h.sav.block k hk (by simpa using hxk))
    simp only [List.mem_cons, Option.mem_toList, not_or]
    exact ⟨hxk.1, fun e => (h2 k e).elim hxk.2 (fun h3 => by omega)⟩
  · refine hs.out.block k hk ?_
    simp only [List.mem_cons, Option.mem_toList, not_or]
    exact ⟨hg, fun e => hnr ((h1.row_iff k).2 e)⟩
  · rcases hr'.out k ((ha.out.row_iff k).1 hk) with h3 | h3
    · exact .inl ((h1.row_iff k).2 h3)
    · exact .inr h3

theorem pieces_any (w : World) (a : Option Addr) (n c : Nat) : Calls Try.prog 14 #[.slice a n c] w fun e w' => e = .returned (.func (.func 29) #[] #[.pointer (some ⟨w.heap.size, 0, none⟩)]) ∧ w' = w.alloc (.cells #[.slice a n c] 59) := by
  have hmf : ∀ (fn : Fn) (first cap : Array Value) (w : World), (Instr.makeFunc fn first cap).run Try.prog w = .ok (.func fn first cap) w := fun _ _ _ _ => rfl
  go_enter Try.func14, Try.ntmps14
  go_wp2
  go_ret
  exact ⟨rfl, rfl⟩

theorem enter_make (args : Array Value) (w : World) (R : Ending → World → Prop) (c : Code) (hb : Try.f6.body = some c)
    (h : c.wp Try.prog (bodyPostM Fence.wide 3 Try.prog Try.f6 R) { tmps := args ++ Array.replicate (Try.f6.ntmps - args.size) undef, defers := [] } w) : Calls Try.prog 6 args w R :=
  (callsIn_wide (n := 3)).1 (callsIn_of_wp_marks Try.func6 hb trivial (wpIn_wide.2 h) rfl)

end Go.Proofs.Ytaijldcfoaeogaa
