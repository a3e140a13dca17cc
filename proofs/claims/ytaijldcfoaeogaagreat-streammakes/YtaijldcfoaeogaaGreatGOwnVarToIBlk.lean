/- A variable that holds a row of the call's own, in a loop over an iterator. -/
import Derived.Test.YtaijldcfoaeogaaGreatGMemToRcEq
import Derived.Test.YtaijldcfoaeogaaGreatGEAllToERangeR
import Derived.Test.YtaijldcfoaeogaaGreatGEInToEInAny
import Derived.Test.YtaijldcfoaeogaaGreatGKeepToINew
import Derived.Test.YtaijldcfoaeogaaGreatGIKeysToIKeysR
import Derived.Test.YtaijldcfoaeogaaGreatGESortToEHas
import Derived.Maps.OwnIn
import Derived.StillTailTactics
import Derived.OrdersIn
import Derived.RangeFuncCalls
namespace Go.Proofs.YtaijldcfoaeogaaGreat
open Go.RowKit Go.Shelf

/-- Block gl (a variable of type T) holds a row of the call's own. -/
def VarR (W : World) (gl : Nat) (T : TypeId) (base : Nat) (E : TypeId) (size n : Nat) (xs : List Value) : Prop :=
  ∃ v, W.heap[gl]? = some (.cells #[v] T (0, 0)) ∧ W.ownsRow base E size v n xs

/-- The variable's row lies in block k. -/
def RowAt (gl : Nat) (T : TypeId) (W : World) (k : Nat) : Prop := ∃ v, W.heap[gl]? = some (.cells #[v] T (0, 0)) ∧ v.ownBlock = some k

theorem var_inj {W : World} {gl : Nat} {T : TypeId} {v u : Value} (h : W.heap[gl]? = some (.cells #[v] T (0, 0))) (h' : W.heap[gl]? = some (.cells #[u] T (0, 0))) : u = v := by
  rw [h] at h'
  injection h' with h'
  injection h' with h'
  injection h' with h'
  injection h' with h'
  exact h'.symm

theorem VarR.cells {W : World} {gl : Nat} {T : TypeId} {base : Nat} {E : TypeId} {size n : Nat} {xs : List Value} (h : VarR W gl T base E size n xs) {k : Nat} (hr : RowAt gl T W k) : base ≤ k ∧ ∃ cs t fr, W.heap[k]? = some (.cells cs t fr) := by
  obtain ⟨v, hv, ho⟩ := h
  obtain ⟨u, hu, hk⟩ := hr
  rw [var_inj hv hu] at hk
  obtain ⟨h1, cs, h2⟩ := owns_block ho hk
  exact ⟨h1, cs, _, _, h2⟩

theorem RowAt.back {W W' : World} {gl : Nat} {T : TypeId} {k : Nat} (h : RowAt gl T W' k) (he : W'.heap[gl]? = W.heap[gl]?) : RowAt gl T W k := by
  obtain ⟨v, hv, hk⟩ := h
  exact ⟨v, he.symm.trans hv, hk⟩

theorem VarR.same {W W' : World} {gl : Nat} {T : TypeId} {base : Nat} {E : TypeId} {size n : Nat} {xs : List Value} (h : VarR W gl T base E size n xs) (he : W'.heap[gl]? = W.heap[gl]?) (hr : ∀ k, RowAt gl T W k → W'.heap[k]? = W.heap[k]?) : VarR W' gl T base E size n xs := by
  obtain ⟨v, hv, ho⟩ := h
  exact ⟨v, he.trans hv, owns_same ho fun k hk => hr k ⟨v, hv, hk⟩⟩

/-- Something is appended to the variable's row. -/
theorem var_appended {W W1 w' : World} {gl : Nat} {T : TypeId} {base : Nat} {E : TypeId} {size n' : Nat} {xs' : List Value} {v v' : Value} (hv : W.heap[gl]? = some (.cells #[v] T (0, 0))) (hgl : gl < base) (hb : Below W.heap.size W W1)
    (hvb : ∀ k, v.ownBlock = some k → base ≤ k) (hown : w'.ownsRow base E size v' n' xs') (hg : W1.grownBy w' v.ownBlock) (hat : v'.ownBlock = v.ownBlock ∨ v'.ownBlock = some W1.heap.size) (hbase : base ≤ W.heap.size) :
    VarR (w'.setCell ⟨gl, 0, none⟩ v') gl T base E size n' xs' ∧ KeepRU (RowAt gl T) base W (w'.setCell ⟨gl, 0, none⟩ v') ∧ Below gl W (w'.setCell ⟨gl, 0, none⟩ v') ∧ (∀ k, k < base → k ≠ gl → (w'.setCell ⟨gl, 0, none⟩ v').heap[k]? = W.heap[k]?) ∧ w'.cell? ⟨gl, 0, none⟩ = some v ∧ w'.frozen? ⟨gl, 0, none⟩ = false := by
  have hlt : gl < W.heap.size := (Array.getElem?_eq_some_iff.1 hv).1
  have hold : ∀ k, k < W.heap.size → v.ownBlock ≠ some k → w'.heap[k]? = W.heap[k]? := fun k hk hne => (hg.block k (Nat.lt_of_lt_of_le hk hb.size) (fun e => hne e.symm)).trans (hb.block k hk)
  have hglne : v.ownBlock ≠ some gl := fun e => by have := hvb gl e; omega
  have hv1 : w'.heap[gl]? = some (.cells #[v] T (0, 0)) := (hold gl hlt hglne).trans hv
  have hsame : (w'.setCell ⟨gl, 0, none⟩ v').heap[gl]? = some (.cells #[v'] T (0, 0)) := by
    rw [heap_setCell_same w' gl 0 _ T v' hv1]
    rfl
  have hoth : ∀ k, k ≠ gl → (w'.setCell ⟨gl, 0, none⟩ v').heap[k]? = w'.heap[k]? := fun k hk => Below.heap_setCell _ _ _ k hk
  have hsz : W.heap.size ≤ w'.heap.size := Nat.le_trans hb.size hg.size
  have hsz2 : (w'.setCell ⟨gl, 0, none⟩ v').heap.size = w'.heap.size := by simp [World.setCell]
  refine ⟨⟨v', hsame, owns_same hown fun k hk => hoth k (by have := (owns_block hown hk).1; omega)⟩, ⟨by omega, fun k hk hkl hnr => ?_, fun k hr => ?_⟩, ?_, fun k hk hne => ?_, by rw [cell_of_row w' gl 0 _ _ _ hv1]; rfl, by simp [World.frozen?, hv1]⟩
  · rw [hoth k (by omega)]
    exact hold k hkl fun e => hnr ⟨v, hv, e⟩
  · obtain ⟨u, hu, hk⟩ := hr
    rw [var_inj hsame hu] at hk
    rcases hat with h1 | h1
    · exact .inl ⟨v, hv, by rw [← h1]; exact hk⟩
    · rw [h1] at hk
      injection hk with hk
      have := hb.size
      exact .inr (by omega)
  · refine ⟨hg.os.trans hb.os, hg.tape.trans hb.tape, hg.output.trans hb.output, by omega, fun k hk => ?_⟩
    rw [hoth k (by omega)]
    exact hold k (by omega) fun e => by have := hvb k e; omega
  · rw [hoth k hne]
    exact hold k (by omega) fun e => by have := hvb k e; omega

/-- Something is appended to the variable's row, wherever that lies. -/
theorem var_appended2 {W W1 w' : World} {gl lo B : Nat} {T : TypeId} {base : Nat} {E : TypeId} {size n' : Nat} {xs' : List Value} {v v' : Value} (hv : W.heap[gl]? = some (.cells #[v] T (0, 0))) (hlo : lo ≤ gl) (hB : gl < B) (hb : Below W.heap.size W W1)
    (hvb : ∀ k, v.ownBlock = some k → lo ≤ k ∧ k ≠ gl) (hown : w'.ownsRow base E size v' n' xs') (hg : W1.grownBy w' v.ownBlock) (hat : v'.ownBlock = v.ownBlock ∨ v'.ownBlock = some W1.heap.size) :
    VarR (w'.setCell ⟨gl, 0, none⟩ v') gl T base E size n' xs' ∧ KeepRU (RowAt gl T) B W (w'.setCell ⟨gl, 0, none⟩ v') ∧ Below lo W (w'.setCell ⟨gl, 0, none⟩ v') ∧ (∀ k, k < W.heap.size → k ≠ gl → v.ownBlock ≠ some k → (w'.setCell ⟨gl, 0, none⟩ v').heap[k]? = W.heap[k]?) ∧
      (∀ k, RowAt gl T (w'.setCell ⟨gl, 0, none⟩ v') k → lo ≤ k ∧ k ≠ gl) ∧ w'.cell? ⟨gl, 0, none⟩ = some v ∧ w'.frozen? ⟨gl, 0, none⟩ = false := by
  have hlt : gl < W.heap.size := (Array.getElem?_eq_some_iff.1 hv).1
  have hold : ∀ k, k < W.heap.size → v.ownBlock ≠ some k → w'.heap[k]? = W.heap[k]? := fun k hk hne => (hg.block k (Nat.lt_of_lt_of_le hk hb.size) (fun e => hne e.symm)).trans (hb.block k hk)
  have hglne : v.ownBlock ≠ some gl := fun e => (hvb gl e).2 rfl
  have hv1 : w'.heap[gl]? = some (.cells #[v] T (0, 0)) := (hold gl hlt hglne).trans hv
  have hsame : (w'.setCell ⟨gl, 0, none⟩ v').heap[gl]? = some (.cells #[v'] T (0, 0)) := by
    rw [heap_setCell_same w' gl 0 _ T v' hv1]
    rfl
  have hoth : ∀ k, k ≠ gl → (w'.setCell ⟨gl, 0, none⟩ v').heap[k]? = w'.heap[k]? := fun k hk => Below.heap_setCell _ _ _ k hk
  have hsz : W.heap.size ≤ w'.heap.size := Nat.le_trans hb.size hg.size
  have hsz2 : (w'.setCell ⟨gl, 0, none⟩ v').heap.size = w'.heap.size := by simp [World.setCell]
  have hnew : ∀ k, v'.ownBlock = some k → lo ≤ k ∧ k ≠ gl := by
    intro k hk
    rcases hat with h1 | h1
    · exact hvb k (by rw [← h1]; exact hk)
    · rw [h1] at hk
      injection hk with hk
      have := hb.size
      omega
  refine ⟨⟨v', hsame, owns_same hown fun k hk => hoth k (hnew k hk).2⟩, ⟨by omega, fun k hk hkl hnr => ?_, fun k hr => ?_⟩, ?_, fun k hk hne hvk => ?_, fun k ⟨u, hu, hk⟩ => hnew k (by rw [← var_inj hsame hu]; exact hk), by rw [cell_of_row w' gl 0 _ _ _ hv1]; rfl, by simp [World.frozen?, hv1]⟩
  · rw [hoth k (by omega)]
    exact hold k hkl fun e => hnr ⟨v, hv, e⟩
  · obtain ⟨u, hu, hk⟩ := hr
    rw [var_inj hsame hu] at hk
    rcases hat with h1 | h1
    · exact .inl ⟨v, hv, by rw [← h1]; exact hk⟩
    · rw [h1] at hk
      injection hk with hk
      have := hb.size
      exact .inr (by omega)
  · refine ⟨hg.os.trans hb.os, hg.tape.trans hb.tape, hg.output.trans hb.output, by omega, fun k hk => ?_⟩
    rw [hoth k (by omega)]
    exact hold k (by omega) fun e => by have := (hvb k e).1; omega
  · rw [hoth k hne]
    exact hold k hk hvk

end Go.Proofs.YtaijldcfoaeogaaGreat

/- The contracts of image's setOf and Blocks, over any world. -/
namespace Go.Proofs.YtaijldcfoaeogaaGreat
open Go.RowKit Go.Shelf
set_option linter.unusedSimpArgs false
attribute [local go_sem] Oper.semAt_some

/-- Whether there is a block at a number. -/
def hasF (F : List (List Nat)) (k : Nat) : Bool := decide (F.getD k [] ≠ [])

/-- A set of the numbers of blocks. -/
structure SetF (F : List (List Nat)) (M : List Rn) : Prop where
  set : IsSet M
  mem : ∀ z : Int, inR M z ↔ fAt F z ≠ []

theorem fAt_in {F : List (List Nat)} (hF : F.length = 256) {z : Int} (h : fAt F z ≠ []) : 0 ≤ z ∧ z < 256 := by
  by_cases h1 : z < 0 ∨ 256 ≤ z
  · exact absurd (fAt_out hF h1) h
  · omega

theorem SetF.ends {F : List (List Nat)} {M : List Rn} (h : SetF F M) (hF : F.length = 256) : ∀ r ∈ M, 0 ≤ r.f ∧ r.f < r.t ∧ r.t ≤ 256 := by
  intro r hr
  have := h.set.ends (lo := 0) (hi := 256) (fun z hz => by
    have := fAt_in hF ((h.mem z).1 hz)
    omega) r hr
  omega

theorem SetF.ok {F : List (List Nat)} {M : List Rn} (h : SetF F M) (hF : F.length = 256) : ∀ r ∈ M, r.ok := fun r hr => by
  have := h.ends hF r hr
  exact ⟨by omega, by omega, by omega, by omega⟩

theorem SetF.unique {F : List (List Nat)} {M N : List Rn} (h : SetF F M) (h' : SetF F N) : M = N := IsSet.unique h.set h'.set fun z => by rw [h.mem, h'.mem]

theorem SetF.of_up {F : List (List Nat)} {M : List Rn} (hF : F.length = 256) (h : Up 0 (hasF F) 256 M) : SetF F M := by
  refine ⟨⟨_, h.can⟩, fun z => ?_⟩
  rw [h.mem z]
  constructor
  · rintro ⟨k, hk, hp, rfl⟩
    rw [Int.zero_add, fAt_nat]
    simpa [hasF] using hp
  · intro hz
    have := fAt_in hF hz
    refine ⟨z.toNat, by omega, ?_, by omega⟩
    unfold fAt at hz
    rw [if_pos (by omega)] at hz
    simpa [hasF] using hz

theorem whole_len {F : List (List Nat)} (hF : F.length = 256) {pre : List Int} (hn : pre.Nodup) (h : ∀ x ∈ pre, fAt F x ≠ []) : pre.length ≤ 256 := by
  have := List.Nodup.length_le_of_subset (l₂ := (List.range 256).map fun k : Nat => (k : Int)) hn (fun x hx => by
    have := fAt_in hF (h x hx)
    simp only [List.mem_map, List.mem_range]
    exact ⟨x.toNat, by omega, by omega⟩)
  simpa using this

theorem enter_setOf (args : Array Value) (w : World) (R : Ending → World → Prop) (c : Code) (hb : Tryz.f40.body = some c)
    (h : c.wp Tryz.prog (bodyPostM Fence.wide 3 Tryz.prog Tryz.f40 R) { tmps := args ++ Array.replicate (Tryz.f40.ntmps - args.size) undef, defers := [] } w) : Calls Tryz.prog 40 args w R :=
  (callsIn_wide (n := 3)).1 (callsIn_of_wp_marks Tryz.func40 hb trivial (wpIn_wide.2 h) rfl)

theorem keysOf_any (w : World) (b : Nat) : Calls Tryz.prog 63 #[.map (some b)] w fun e w' => e = .returned (.func (.func 84) #[] #[.pointer (some ⟨w.heap.size, 0, none⟩)]) ∧ w' = w.alloc (.cells #[.map (some b)] 100) := by
  have hmf : ∀ (fn : Fn) (first cap : Array Value) (w : World), (Instr.makeFunc fn first cap).run Tryz.prog w = .ok (.func fn first cap) w := fun _ _ _ _ => rfl
  go_enter Tryz.func63, Tryz.ntmps63
  go_wp2
  go_ret
  exact ⟨rfl, rfl⟩

/-- The runs of numbers, each alone. -/
def onesR (pre : List Int) : List Rn := pre.map fun x => ⟨x, x + 1⟩

theorem inR_ones {pre : List Int} {z : Int} : inR (onesR pre) z ↔ z ∈ pre := by
  constructor
  · rintro ⟨r, hr, h1, h2⟩
    simp only [onesR, List.mem_map] at hr
    obtain ⟨x, hx, rfl⟩ := hr
    simp only at h1 h2
    have : z = x := by omega
    rw [this]; exact hx
  · intro hz
    exact ⟨⟨z, z + 1⟩, by simp only [onesR, List.mem_map]; exact ⟨z, hz, rfl⟩, by simp only [Rn.has]; omega⟩

/-- What the loop of setOf keeps. -/
structure ISet (w w2 : World) (b gl : Nat) (F : List (List Nat)) (pre : List Int) (W : World) : Prop where
  var : VarR W gl 70 w2.heap.size 53 2 (onesR pre).length (cR (onesR pre))
  cap : W.heap[gl + 1]? = some (.cells #[.map (some b)] 100 (0, 0))
  map : W.heap[b]? = w2.heap[b]?
  nod : pre.Nodup
  mem : ∀ x ∈ pre, fAt F x ≠ []
  bel : Below gl w W

set_option maxHeartbeats 2000000 in
set_option maxRecDepth 100000 in
theorem setOf_any (w : World) (b q : Nat) (F : List (List Nat)) (hok : okF F) (h : Mp w b q F) :
    Calls Tryz.prog 40 #[.map (some b)] w fun e w' => ∃ v M, e = .returned v ∧ OwnR w' w.heap.size 53 v M ∧ SetF F M ∧ Below w.heap.size w w' := by
  have HMp := Lib.hid h
  have HOk := Lib.hid hok
  obtain ⟨gl, hgl⟩ : ∃ gl, gl = w.heap.size := ⟨_, rfl⟩
  obtain ⟨w2, hw2⟩ : ∃ w2, w2 = (w.alloc (.cells #[.slice none 0 0] 70)).alloc (.cells #[.map (some b)] 100) := ⟨_, rfl⟩
  have HK := Lib.hid (keysOf_any (w.alloc (.cells #[.slice none 0 0] 70)) b)
  rw [World.size_alloc, ← hgl, ← hw2] at HK
  have HB2 : Hid (Below gl w w2) := Lib.hid (by rw [hw2, hgl]; exact ((Below.refl _ _).alloc (Nat.le_refl _) _).alloc (by simp) _)
  have HS2 : Hid (w2.heap.size = gl + 1 + 1) := Lib.hid (by rw [hw2, hgl]; simp)
  have HL2 : Hid (w2.heap[gl]? = some (.cells #[.slice none 0 0] 70 (0, 0))) := Lib.hid (by rw [hw2, hgl]; exact (Below.heap_alloc _ _ _ (by simp)).trans (heap_alloc_last _ _))
  have HC2 : Hid (w2.heap[gl + 1]? = some (.cells #[.map (some b)] 100 (0, 0))) := Lib.hid (by rw [hw2, hgl]; exact heap_alloc2 _ _ _)
  have HMp2 := Lib.hid (h.later (by rw [← hgl]; exact HB2.out))
  have HG := Lib.hid hgl
  have hbl := h.lt
  have HBl : Hid (b < gl) := Lib.hid (by rw [hgl]; exact hbl)
  clear h hok hw2 hgl hbl
  refine enter_setOf _ w _ _ rfl ?_
  simp only [Tryz.ntmps40, List.size_toArray, List.length_cons, List.length_nil, Nat.reduceAdd, Nat.reduceSub, Array.replicate_succ, Array.replicate_zero, List.push_toArray, List.append_toArray, List.nil_append, List.cons_append]
  go_wp2_with fail
  refine HK.out.mono ?_
  rintro e w3 ⟨rfl, rfl⟩
  clear HK
  go_wp2_with fail
  rw [← HG.out]
  refine (wpIn_wide (n := 3)).1 ?_
  generalize hact : (Act.mk _ []) = act
  obtain ⟨i0, hi0, hz0, hz1, hz2⟩ := info_parts info_run
  refine range_keys (gl + 1) b q F HMp2.out (by rw [← hact]; rfl) rfl (RowAt gl 70) (ISet w w3 b gl F)
    (fun W W' k hb hr => hr.back (hb.block gl (by rw [HS2.out]; omega)))
    (fun pre W k h hr => (h.var.cells hr).2)
    (fun pre W W' h hb hr => ⟨h.var.same (hb.block gl (by rw [HS2.out]; omega)) hr, (hb.block _ (by rw [HS2.out]; omega)).trans h.cap, (hb.block b (by rw [HS2.out]; have := HBl.out; omega)).trans h.map, h.nod, h.mem, h.bel.trans (hb.mono (by rw [HS2.out]; omega))⟩)
    (fun pre W h => ⟨by rw [cell_of_row W (gl + 1) 0 _ _ _ h.cap]; rfl, h.map⟩)
    ⟨⟨_, HL2.out, World.ownsRow_nil _ _ _ _⟩, HC2.out, rfl, List.nodup_nil, by simp, HB2.out⟩
    (fun x => { tmps := (act.tmps.setIfInBounds 7 (.int .i64 x)).setIfInBounds 4 (.int .i64 x), defers := [] }) ?assign ?body ?done
  case assign =>
    intro l x W K hK
    subst hact
    simp only [List.setIfInBounds_toArray, List.set_cons_succ, List.set_cons_zero] at hK
    gi_wp2
    exact hK
  case body =>
    intro l pre x W hI hsz hxp hfx
    subst hact
    simp only [List.setIfInBounds_toArray, List.set_cons_succ, List.set_cons_zero]
    obtain ⟨v, hv, ho⟩ := hI.var
    have hx := fAt_in HOk.out.1 hfx
    have hlen := whole_len HOk.out.1 hI.nod hI.mem
    have d1 : W.cell? ⟨gl, 0, none⟩ = some v := by rw [cell_of_row W gl 0 _ _ _ hv]; rfl
    have f1 : W.frozen? ⟨gl, 0, none⟩ = false := by simp [World.frozen?, hv]
    have hol : (onesR pre).length = pre.length := by simp [onesR]
    have HV := Lib.hid (And.intro hv ho)
    have HIh := Lib.hid hI
    have HX := Lib.hid (And.intro hxp hfx)
    have HOl := Lib.hid hol
    have HSz := Lib.hid hsz
    have HAft : Hid (∀ v' w', _ → _ → _ → _) := Lib.hid fun v' w' hown' hgr' hat' => var_appended (T := 70) (w' := w') (v' := v') (base := w3.heap.size) (E := 53) (size := 2) (n' := (onesR pre).length + 1) (xs' := cR (onesR pre) ++ cR [⟨x, x + 1⟩]) hv (by rw [HS2.out]; omega) (Below.alloc0 W (.cells #[.int .i64 x, .int .i64 (x + 1)] 53)) (fun k hk => (owns_block ho hk).1) hown' hgr' hat' (by omega)
    clear hv ho hI hxp hfx hol hsz
    gi_wp2_with (gi_at_builtin; refine wpListIn_append_own_at _ rfl (.tmp 8) (.tmp 13) 70 rfl w3.heap.size 53 i0 _ 2 16 Tryz.underlying70 hi0 hz0 hz1 hz2 rfl (by omega) v (onesR pre).length (cR (onesR pre)) rfl (owns_same HV.out.2 (fun k hk => Below.heap_alloc _ _ _ (by obtain ⟨cs, h2⟩ := (owns_block HV.out.2 hk).2; exact (Array.getElem?_eq_some_iff.1 h2).1))) ⟨W.heap.size, 0, none⟩ 1 1 (cR [⟨x, x + 1⟩]) rfl rfl (World.news_of_block (cs := #[.int .i64 x, .int .i64 (x + 1)]) (t := 53) (fr := (0, 0)) (heap_alloc_new W _)) (cR_one _) (by rw [HOl.out]; unfold maxLen; omega) (by rw [HOl.out]; omega) (by have := HSz.out; simp; omega) ?_; intro v' w' hown' hgr' _ hat'; obtain ⟨sa, sc, rfl⟩ := owns_shape hown'; obtain ⟨p1, p2, p3, p4, hcv, hfv⟩ := HAft.out _ _ hown' hgr' hat'; have HAp := Lib.hid (And.intro p1 (And.intro p2 (And.intro p3 p4))); clear hown' hgr' hat' p1 p2 p3 p4)
    obtain ⟨p1, p2, p3, p4⟩ := HAp.out
    have e : onesR (pre ++ [x]) = onesR pre ++ [⟨x, x + 1⟩] := by simp [onesR]
    refine ⟨p2, ⟨?_, ?_, ?_, ?_, ?_, HIh.out.bel.trans p3⟩⟩
    · rw [e, cR_append, List.length_append]
      exact p1
    · exact (p4 (gl + 1) (by rw [HS2.out]; omega) (by omega)).trans HIh.out.cap
    · exact (p4 b (by rw [HS2.out]; have := HBl.out; omega) (by have := HBl.out; omega)).trans HIh.out.map
    · rw [List.nodup_append]
      refine ⟨HIh.out.nod, by simp, ?_⟩
      intro a ha c hc
      simp only [List.mem_singleton] at hc
      subst hc
      rintro rfl
      exact HX.out.1 ha
    · intro y hy
      simp only [List.mem_append, List.mem_singleton] at hy
      rcases hy with hy | rfl
      · exact HIh.out.mem y hy
      · exact HX.out.2
  case done =>
    intro D pre W hD hwh hI hdef
    subst hact
    obtain ⟨v, hv, ho⟩ := hI.var
    have d1 : W.cell? ⟨gl, 0, none⟩ = some v := by rw [cell_of_row W gl 0 _ _ _ hv]; rfl
    obtain ⟨va, vc, rfl⟩ := owns_shape ho
    have hor : OwnR W w3.heap.size 53 (.slice va (onesR pre).length vc) (onesR pre) := ho
    obtain ⟨a2, c2, hv2, hr2, _, _⟩ := hor.rd
    injection hv2 with e1 e2 e3
    subst e1
    have hlen := whole_len HOk.out.1 hI.nod hI.mem
    have hol : (onesR pre).length = pre.length := by simp [onesR]
    have HOf := Lib.hid (of_any va (onesR pre).length vc (onesR pre) W hr2 (by omega) (fun r hr => by
      simp only [onesR, List.mem_map] at hr
      obtain ⟨x, hx, rfl⟩ := hr
      have := fAt_in HOk.out.1 (hI.mem x hx)
      exact ⟨by simp only; omega, by simp only; omega, by simp only; omega, by simp only; omega⟩))
    have HBW := Lib.hid hI.bel
    have HD := Lib.hid (And.intro hD hdef)
    have HWh := Lib.hid hwh
    have HDl : Hid (D < W.heap.size) := Lib.hid (Array.getElem?_eq_some_iff.1 hdef).1
    clear hv ho hor hr2 hI hlen hol hD hdef hwh e2 e3
    go_wp2_with fail
    refine HOf.out.mono ?_
    rintro e w5 ⟨v5, M, rfl, ho5, hs5, hm5, _, hb5⟩
    have H5 := Lib.hid (And.intro ho5 (And.intro hs5 (And.intro hm5 hb5)))
    clear ho5 hs5 hm5 hb5
    go_wp2
    have hd5 : w5.heap[D]? = some (.deferred (some [])) := (H5.out.2.2.2.block D HDl.out).trans HD.out.2
    refine ⟨by simp, .inl ⟨_, _, rfl, run_takeDeferred hd5, ?_⟩⟩
    refine ⟨v5, by simp [results, Tryz.results40, go_sem], v5, M, rfl, ?_, ⟨H5.out.2.1, fun z => ?_⟩, ?_⟩
    · refine owns_same (OwnR.mono H5.out.1 (by have := HBW.out.size; omega)) fun k hk => World.putObj_heap_other (by have := (owns_block H5.out.1 hk).1; have := HDl.out; omega)
    · rw [H5.out.2.2.1 z, inR_ones]
      exact HWh.out.2 z
    · rw [← HG.out]
      exact (HBW.out.trans (H5.out.2.2.2.mono (by have := HBW.out.size; have := HG.out; omega))).trans (below_put (by have := HD.out.1; have := HS2.out; omega) _ _)

end Go.Proofs.YtaijldcfoaeogaaGreat

/- A region that draws its order, in a round of a loop over a function: what it reads comes first, then one operation behind the other. -/
namespace Go.Proofs.YtaijldcfoaeogaaGreat
open Go.RowKit Go.Shelf

def noDefer (ops : Array Oper) : Bool := ops.all fun o => match o.op with | .defer _ => false | _ => true

theorem noDefer_spec {ops : Array Oper} (h : noDefer ops = true) {i : Nat} {o : Oper} (hi : ops[i]? = some o) : ∀ c, o.op ≠ .defer c := by
  intro c hc
  have h1 := Array.all_eq_true_iff_forall_mem.1 h o (by
    obtain ⟨hl, rfl⟩ := Array.getElem?_eq_some_iff.1 hi
    exact Array.getElem_mem hl)
  simp only [hc] at h1
  cases h1

section
variable {P : Program} {ops : Array Oper} {md : Region.Mode} {w : World} {lr nn : Nat}

theorem operIn_of_still {o : Oper} {a : Act} {K : Act → Prop} {K' : Act → World → Prop} {Q' : Exit → Act → World → Prop} (hd : ∀ c, o.op ≠ .defer c) (h : ∀ a, K a → K' a w) (hh : o.still P a w K) : o.wpIn (Fence.wide.inRound lr) nn P a w K' Q' := by
  refine ⟨fun _ _ => trivial, ?_⟩
  rw [Fence.inRound_round, Oper.semAt_some _ _ _ hd]
  unfold Oper.still at hh
  generalize (execOp a.eval o).run P w = r at *
  cases r with
  | ok n w' =>
    cases n <;> simp only [Oper.stillUpon] at hh <;> simp only [Oper.uponIn]
    case enter f args =>
      obtain ⟨rfl, v, hc, hn⟩ := hh
      refine ⟨fun e => ?_, ?_⟩
      · cases e
      · refine (CallsIn.inRound lr (callsIn_wide.2 hc)).mono ?_
        rintro e w'' ⟨he, hw⟩
        subst he
        subst hw
        exact h _ hn
    all_goals (obtain ⟨rfl, h2⟩ := hh; exact h _ h2)
  | halt x w' => simp only [Oper.stillUpon] at hh

theorem wpOpIn_of_stOp {i : Nat} {a : Act} {K : Act → Prop} {K' : Act → World → Prop} {Q' : Exit → Act → World → Prop} (hd : noDefer ops = true) (h : ∀ a, K a → K' a w) (hh : stOp P ops w i K a) : wpOpIn (Fence.wide.inRound lr) nn P ops Q' i K' a w := by
  unfold stOp at hh
  unfold wpOpIn
  split
  · rename_i ho; simp only [ho] at hh; exact h _ hh
  · rename_i o ho
    simp only [ho] at hh
    split
    · rename_i hw; simp only [hw, if_true] at hh; exact operIn_of_still (noDefer_spec hd ho) h hh
    · rename_i hw; simp only [hw] at hh; exact ⟨fun _ _ => trivial, h _ hh⟩

theorem wpAnyIn_of_head {n g : Nat} {L : Array Bool → Act → Prop} {Q' : Exit → Act → World → Prop} (hd : noDefer ops = true) (hL : ∀ listed a, L listed a → wpAnyIn (Fence.wide.inRound lr) nn P md ops Q' g listed a w) :
    ∀ (f : Nat) (listed : Array Bool) (a : Act), wpAnyL P md ops w n L f listed a → wpAnyIn (Fence.wide.inRound lr) nn P md ops Q' (f + g) listed a w
  | 0, listed, a, h => by rw [Nat.zero_add]; exact hL _ _ h
  | f + 1, listed, a, h => by
    rw [show f + 1 + g = (f + g) + 1 by omega]
    exact ⟨fun h0 => absurd h0 h.1, fun i hi => wpOpIn_of_stOp hd (fun a' h' => wpAnyIn_of_head hd hL f _ a' h') (h.2 i hi).2⟩

theorem wpAnyIn_of_seq {F : Fence} {Q' : Exit → Act → World → Prop} : ∀ (l : List Oper) (k : Nat) (listed : Array Bool) (a : Act) (w : World), (∀ j, l[j]? = ops[k + j]?) →
    Region.seqB md ops l.length k listed = true → wpListIn F nn P ops Q' l a w → wpAnyIn F nn P md ops Q' l.length listed a w
  | [], _, _, _, _, _, hB, h => ⟨by simpa [Region.seqB] using hB, h⟩
  | o :: l, k, listed, a, w, hl, hB, h => by
    have h0 : ops[k]? = some o := by simpa using (hl 0).symm
    simp only [List.length_cons, Region.seqB, Bool.and_eq_true, decide_eq_true_eq] at hB
    refine ⟨fun h1 => (by rw [hB.1] at h1; cases h1), fun i hi => ?_⟩
    rw [hB.1] at hi
    have hik : i = k := by simpa using hi
    subst hik
    have hw : wpOpIn F nn P ops Q' i (wpListIn F nn P ops Q' l) a w := by unfold wpOpIn; simp only [h0]; exact h
    exact wpOpIn_mono (fun a' w' h' => wpAnyIn_of_seq l (i + 1) _ a' w' (fun j => by have := hl (j + 1); simpa [Nat.add_assoc, Nat.add_comm 1 j] using this) hB.2 h') hw

end

theorem wpIn_region_still_tail {P : Program} {lr nn id : Nat} {Q : Exit → Act → World → Prop} {a : Act} {w : World} {l : List Oper} (n : Nat) (hm : P.follows .mixedOrders = true) (hB : Region.lexTailB .any l.toArray n = true) (hd : noDefer l.toArray = true)
    (h : wpStill P l.toArray { w with drawn := w.drawn + 1 } (fun a' => wpListIn (Fence.wide.inRound lr) nn P l.toArray Q (l.drop n) a' { w with drawn := w.drawn + 1 }) (l.take n) a) : (Code.region id l.toArray true).wpIn (Fence.wide.inRound lr) nn P Q a w := by
  simp only [Region.lexTailB, Bool.and_eq_true, decide_eq_true_eq] at hB
  obtain ⟨⟨⟨⟨hsel, hn⟩, hs⟩, hc⟩, hlex⟩ := hB
  have hn' : n < l.length := by simpa using hn
  have htl : (l.take n).length = n := by simp; omega
  have hdl : (l.drop n).length = l.toArray.size - n := by simp
  have inv0 : HeadInv .any l.toArray n (Array.replicate l.toArray.size false) :=
    ⟨by simp, fun j oj _ hl => (by rw [getD_replicate_false] at hl; cases hl), fun t _ ht => getD_in (by simpa using ht) (getD_replicate_false _ _)⟩
  have H := wpAnyL_lex (md := .any) (g := l.toArray.size - n) hsel hs hc hn (l.take n) 0 _ a (fun j hj => by
    have hj' : j < n := by rw [htl] at hj; exact hj
    simp [hj']) (by simpa using htl) inv0 (by rw [htl]; exact hlex) h
  refine wpIn_region_any hm ?_
  have := wpAnyIn_of_head (Q' := Q) (lr := lr) (nn := nn) (g := l.toArray.size - n) hd (fun listed a' hL => by
    have := wpAnyIn_of_seq (md := .any) (F := Fence.wide.inRound lr) (nn := nn) (Q' := Q) (l.drop n) n listed a' { w with drawn := w.drawn + 1 } (fun j => by simp [List.getElem?_drop]) (by rw [hdl]; exact hL.1) hL.2
    rwa [hdl] at this) _ _ _ H
  rw [htl, show n + (l.toArray.size - n) = l.toArray.size by omega] at this
  exact this

/-- An operation's value, inside a fence. -/
theorem wpListIn_val {F : Fence} {n : Nat} {P : Program} {ops : Array Oper} {Q : Exit → Act → World → Prop} {a : Act} {w : World} {rest : List Oper} {o : Oper} (hg : o.guard = none) (hc : ∀ c, o.op ≠ .call c) (hd : ∀ c, o.op ≠ .defer c) (v : Value) (w' : World)
    (hrun : (execOp a.eval o).run P w = .ok (.value v) w') (h : wpListIn F n P ops Q rest (a.put o.dst v) w') : wpListIn F n P ops Q (o :: rest) a w := by
  refine wpListIn_plain hg fun K hK => ?_
  unfold Oper.wpIn
  refine ⟨fun f hf => ?_, ?_⟩
  · unfold Oper.about at hf
    split at hf
    · rename_i c e; exact absurd e (hc c)
    · cases hf
  · rw [Oper.semAt_plain F _ _ hd, hrun, Oper.uponIn_value]
    exact hK _ _ h

theorem wpListIn_skp {F : Fence} {n : Nat} {P : Program} {ops : Array Oper} {Q : Exit → Act → World → Prop} {a : Act} {w : World} {rest : List Oper} {o : Oper} (hg : o.guard = none) (hc : ∀ c, o.op ≠ .call c) (hd : ∀ c, o.op ≠ .defer c) (w' : World)
    (hrun : (execOp a.eval o).run P w = .ok .skip w') (h : wpListIn F n P ops Q rest (a.put o.dst undef) w') : wpListIn F n P ops Q (o :: rest) a w := by
  refine wpListIn_plain hg fun K hK => ?_
  unfold Oper.wpIn
  refine ⟨fun f hf => ?_, ?_⟩
  · unfold Oper.about at hf
    split at hf
    · rename_i c e; exact absurd e (hc c)
    · cases hf
  · rw [Oper.semAt_plain F _ _ hd, hrun, Oper.uponIn_skip]
    exact hK _ _ h

end Go.Proofs.YtaijldcfoaeogaaGreat

/- The contract of an image's Blocks, over any world. -/
namespace Go.Proofs.YtaijldcfoaeogaaGreat
open Go.RowKit Go.Shelf
set_option linter.unusedSimpArgs false
attribute [local go_sem] Oper.semAt_some

theorem canon_len {a hi : Int} {M : List Rn} (h : Canon a M) (ht : ∀ r ∈ M, r.t ≤ hi) (ha : a ≤ hi) : 2 * (M.length : Int) ≤ hi - a := by
  induction M generalizing a with
  | nil => simp; omega
  | cons r M ih =>
    have h1 := h.1
    have h2 := h.2.1
    have h3 := ht r (by simp)
    have := ih h.2.2 (fun q hq => ht q (by simp [hq])) h3
    simp only [List.length_cons]
    omega

theorem SetF.pos {F : List (List Nat)} {M : List Rn} (h : SetF F M) (hF : F.length = 256) : Pos M := by
  obtain ⟨a, ha⟩ := h.set
  cases M with
  | nil => trivial
  | cons r M =>
    have := (h.ends hF r (by simp)).1
    exact ⟨by omega, ha.2.1, ha.2.2⟩

theorem SetF.len {F : List (List Nat)} {M : List Rn} (h : SetF F M) (hF : F.length = 256) : M.length ≤ 128 := by
  have := canon_len (h.pos hF) (fun r hr => (h.ends hF r hr).2.2) (by omega)
  omega

theorem blocks_any (w : World) (g b q : Nat) (F : List (List Nat)) (h : Img w g b q F) :
    Calls Tryz.prog 41 #[.pointer (some ⟨g, 0, none⟩)] w fun e w' => ∃ v M, e = .returned v ∧ OwnR w' w.heap.size 53 v M ∧ SetF F M ∧ Below w.heap.size w w' := by
  have HA := Lib.hid (all_any w g b q F h)
  have HC := Lib.hid (setOf_any w b q F h.ok h.map)
  clear h
  go_enter Tryz.func41, Tryz.ntmps41
  go_wp2_with fail
  refine HA.out.mono ?_
  rintro e w2 ⟨rfl, rfl⟩
  go_wp2_with fail
  refine HC.out.mono ?_
  rintro e w1 ⟨v, M, rfl, h1, h2, h3⟩
  have HR := Lib.hid (And.intro h1 (And.intro h2 h3))
  clear h1 h2 h3
  go_wp2
  go_ret
  exact ⟨v, M, rfl, HR.out⟩

end Go.Proofs.YtaijldcfoaeogaaGreat
