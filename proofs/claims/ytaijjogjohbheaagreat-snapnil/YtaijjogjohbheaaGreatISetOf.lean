/- The contracts of image's setOf and Blocks, over any world. -/
import Derived.Test.YtaijjogjohbheaaGreatIOpsAll
import Derived.Test.YtaijjogjohbheaaGreatIKeysAll
import Derived.Test.YtaijjogjohbheaaGreatECount
import Derived.Test.YtaijjogjohbheaaGreatOwnVar
import Derived.Maps.OwnIn
namespace Go.Proofs.YtaijjogjohbheaaGreat
open Go.RowKit Go.Shelf
set_option linter.unusedSimpArgs false
attribute [local go_sem] Oper.semAt_some

/-- Whether there is a block at a number. -/
def hasF (F : List (List Nat)) (k : Nat) : Bool := decide (F.getD k [] ≠ [])

/-- A set of the numbers of blocks. -/
structure SetF (F : List (List Nat)) (M : List Rn) : Prop where
  set : IsSet M
  mem : ∀ z : Int, inR M z ↔ fAt F z ≠ []

theorem fAt_in {F : List (List Nat)} (hF : F.length = 256) {z : Int} (h : fAt F z ≠ []) : 0 ≤ z ∧ z < 256 := by
  by_cases h1 : z < 0 ∨ 256 ≤ z
  · exact absurd (fAt_out hF h1) h
  · omega

theorem SetF.ends {F : List (List Nat)} {M : List Rn} (h : SetF F M) (hF : F.length = 256) : ∀ r ∈ M, 0 ≤ r.f ∧ r.f < r.t ∧ r.t ≤ 256 := by
  intro r hr
  have := h.set.ends (lo := 0) (hi := 256) (fun z hz => by
    have := fAt_in hF ((h.mem z).1 hz)
    omega) r hr
  omega

theorem SetF.ok {F : List (List Nat)} {M : List Rn} (h : SetF F M) (hF : F.length = 256) : ∀ r ∈ M, r.ok := fun r hr => by
  have := h.ends hF r hr
  exact ⟨by omega, by omega, by omega, by omega⟩

theorem SetF.unique {F : List (List Nat)} {M N : List Rn} (h : SetF F M) (h' : SetF F N) : M = N := IsSet.unique h.set h'.set fun z => by rw [h.mem, h'.mem]

theorem SetF.of_up {F : List (List Nat)} {M : List Rn} (hF : F.length = 256) (h : Up 0 (hasF F) 256 M) : SetF F M := by
  refine ⟨⟨_, h.can⟩, fun z => ?_⟩
  rw [h.mem z]
  constructor
  · rintro ⟨k, hk, hp, rfl⟩
    rw [Int.zero_add, fAt_nat]
    simpa [hasF] using hp
  · intro hz
    have := fAt_in hF hz
    refine ⟨z.toNat, by omega, ?_, by omega⟩
    unfold fAt at hz
    rw [if_pos (by omega)] at hz
    simpa [hasF] using hz

theorem whole_len {F : List (List Nat)} (hF : F.length = 256) {pre : List Int} (hn : pre.Nodup) (h : ∀ x ∈ pre, fAt F x ≠ []) : pre.length ≤ 256 := by
  have := List.Nodup.length_le_of_subset (l₂ := (List.range 256).map fun k : Nat => (k : Int)) hn (fun x hx => by
    have := fAt_in hF (h x hx)
    simp only [List.mem_map, List.mem_range]
    exact ⟨x.toNat, by omega, by omega⟩)
  simpa using this

theorem enter_setOf (args : Array Value) (w : World) (R : Ending → World → Prop) (c : Code) (hb : Tryz.f64.body = some c)
    (h : c.wp Tryz.prog (bodyPostM Fence.wide 3 Tryz.prog Tryz.f64 R) { tmps := args ++ Array.replicate (Tryz.f64.ntmps - args.size) undef, defers := [] } w) : Calls Tryz.prog 64 args w R :=
  (callsIn_wide (n := 3)).1 (callsIn_of_wp_marks Tryz.func64 hb trivial (wpIn_wide.2 h) rfl)

theorem keysOf_any (w : World) (b : Nat) : Calls Tryz.prog 92 #[.map (some b)] w fun e w' => e = .returned (.func (.func 105) #[] #[.pointer (some ⟨w.heap.size, 0, none⟩)]) ∧ w' = w.alloc (.cells #[.map (some b)] 121) := by
  have hmf : ∀ (fn : Fn) (first cap : Array Value) (w : World), (Instr.makeFunc fn first cap).run Tryz.prog w = .ok (.func fn first cap) w := fun _ _ _ _ => rfl
  go_enter Tryz.func92, Tryz.ntmps92
  go_wp2
  go_ret
  exact ⟨rfl, rfl⟩

/-- The runs of numbers, each alone. -/
def onesR (pre : List Int) : List Rn := pre.map fun x => ⟨x, x + 1⟩

theorem inR_ones {pre : List Int} {z : Int} : inR (onesR pre) z ↔ z ∈ pre := by
  constructor
  · rintro ⟨r, hr, h1, h2⟩
    simp only [onesR, List.mem_map] at hr
    obtain ⟨x, hx, rfl⟩ := hr
    simp only at h1 h2
    have : z = x := by omega
    rw [this]; exact hx
  · intro hz
    exact ⟨⟨z, z + 1⟩, by simp only [onesR, List.mem_map]; exact ⟨z, hz, rfl⟩, by simp only [Rn.has]; omega⟩

/-- What the loop of setOf keeps. -/
structure ISet (w w2 : World) (b gl : Nat) (F : List (List Nat)) (pre : List Int) (W : World) : Prop where
  var : VarR W gl 58 w2.heap.size 67 2 (onesR pre).length (cR (onesR pre))
  cap : W.heap[gl + 1]? = some (.cells #[.map (some b)] 121 (0, 0))
  map : W.heap[b]? = w2.heap[b]?
  nod : pre.Nodup
  mem : ∀ x ∈ pre, fAt F x ≠ []
  bel : Below gl w W

set_option maxHeartbeats 2000000 in
set_option maxRecDepth 100000 in
theorem setOf_any (w : World) (b q : Nat) (F : List (List Nat)) (hok : okF F) (h : Mp w b q F) :
    Calls Tryz.prog 64 #[.map (some b)] w fun e w' => ∃ v M, e = .returned v ∧ OwnR w' w.heap.size 67 v M ∧ SetF F M ∧ Below w.heap.size w w' := by
  have HMp := Lib.hid h
  have HOk := Lib.hid hok
  obtain ⟨gl, hgl⟩ : ∃ gl, gl = w.heap.size := ⟨_, rfl⟩
  obtain ⟨w2, hw2⟩ : ∃ w2, w2 = (w.alloc (.cells #[.slice none 0 0] 58)).alloc (.cells #[.map (some b)] 121) := ⟨_, rfl⟩
  have HK := Lib.hid (keysOf_any (w.alloc (.cells #[.slice none 0 0] 58)) b)
  rw [World.size_alloc, ← hgl, ← hw2] at HK
  have HB2 : Hid (Below gl w w2) := Lib.hid (by rw [hw2, hgl]; exact ((Below.refl _ _).alloc (Nat.le_refl _) _).alloc (by simp) _)
  have HS2 : Hid (w2.heap.size = gl + 1 + 1) := Lib.hid (by rw [hw2, hgl]; simp)
  have HL2 : Hid (w2.heap[gl]? = some (.cells #[.slice none 0 0] 58 (0, 0))) := Lib.hid (by rw [hw2, hgl]; exact (Below.heap_alloc _ _ _ (by simp)).trans (heap_alloc_last _ _))
  have HC2 : Hid (w2.heap[gl + 1]? = some (.cells #[.map (some b)] 121 (0, 0))) := Lib.hid (by rw [hw2, hgl]; exact heap_alloc2 _ _ _)
  have HMp2 := Lib.hid (h.later (by rw [← hgl]; exact HB2.out))
  have HG := Lib.hid hgl
  have hbl := h.lt
  have HBl : Hid (b < gl) := Lib.hid (by rw [hgl]; exact hbl)
  clear h hok hw2 hgl hbl
  refine enter_setOf _ w _ _ rfl ?_
  simp only [Tryz.ntmps64, List.size_toArray, List.length_cons, List.length_nil, Nat.reduceAdd, Nat.reduceSub, Array.replicate_succ, Array.replicate_zero, List.push_toArray, List.append_toArray, List.nil_append, List.cons_append]
  go_wp2_with fail
  refine HK.out.mono ?_
  rintro e w3 ⟨rfl, rfl⟩
  clear HK
  go_wp2_with fail
  rw [← HG.out]
  refine (wpIn_wide (n := 3)).1 ?_
  generalize hact : (Act.mk _ []) = act
  obtain ⟨i0, hi0, hz0, hz1, hz2⟩ := info_parts info_run
  refine range_keys (gl + 1) b q F HMp2.out (by rw [← hact]; rfl) rfl (RowAt gl 58) (ISet w w3 b gl F)
    (fun W W' k hb hr => hr.back (hb.block gl (by rw [HS2.out]; omega)))
    (fun pre W k h hr => (h.var.cells hr).2)
    (fun pre W W' h hb hr => ⟨h.var.same (hb.block gl (by rw [HS2.out]; omega)) hr, (hb.block _ (by rw [HS2.out]; omega)).trans h.cap, (hb.block b (by rw [HS2.out]; have := HBl.out; omega)).trans h.map, h.nod, h.mem, h.bel.trans (hb.mono (by rw [HS2.out]; omega))⟩)
    (fun pre W h => ⟨by rw [cell_of_row W (gl + 1) 0 _ _ _ h.cap]; rfl, h.map⟩)
    ⟨⟨_, HL2.out, World.ownsRow_nil _ _ _ _⟩, HC2.out, rfl, List.nodup_nil, by simp, HB2.out⟩
    (fun x => { tmps := (act.tmps.setIfInBounds 7 (.int .i64 x)).setIfInBounds 4 (.int .i64 x), defers := [] }) ?assign ?body ?done
  case assign =>
    intro l x W K hK
    subst hact
    simp only [List.setIfInBounds_toArray, List.set_cons_succ, List.set_cons_zero] at hK
    gi_wp2
    exact hK
  case body =>
    intro l pre x W hI hsz hxp hfx
    subst hact
    simp only [List.setIfInBounds_toArray, List.set_cons_succ, List.set_cons_zero]
    obtain ⟨v, hv, ho⟩ := hI.var
    have hx := fAt_in HOk.out.1 hfx
    have hlen := whole_len HOk.out.1 hI.nod hI.mem
    have d1 : W.cell? ⟨gl, 0, none⟩ = some v := by rw [cell_of_row W gl 0 _ _ _ hv]; rfl
    have f1 : W.frozen? ⟨gl, 0, none⟩ = false := by simp [World.frozen?, hv]
    have hol : (onesR pre).length = pre.length := by simp [onesR]
    have HV := Lib.hid (And.intro hv ho)
    have HIh := Lib.hid hI
    have HX := Lib.hid (And.intro hxp hfx)
    have HOl := Lib.hid hol
    have HSz := Lib.hid hsz
    have HAft : Hid (∀ v' w', _ → _ → _ → _) := Lib.hid fun v' w' hown' hgr' hat' => var_appended (T := 58) (w' := w') (v' := v') (base := w3.heap.size) (E := 67) (size := 2) (n' := (onesR pre).length + 1) (xs' := cR (onesR pre) ++ cR [⟨x, x + 1⟩]) hv (by rw [HS2.out]; omega) (Below.alloc0 W (.cells #[.int .i64 x, .int .i64 (x + 1)] 67)) (fun k hk => (owns_block ho hk).1) hown' hgr' hat' (by omega)
    clear hv ho hI hxp hfx hol hsz
    gi_wp2_with (gi_at_builtin; refine wpListIn_append_own_at _ rfl (.tmp 8) (.tmp 13) 58 rfl w3.heap.size 67 i0 _ 2 16 Tryz.underlying58 hi0 hz0 hz1 hz2 rfl (by omega) v (onesR pre).length (cR (onesR pre)) rfl (owns_same HV.out.2 (fun k hk => Below.heap_alloc _ _ _ (by obtain ⟨cs, h2⟩ := (owns_block HV.out.2 hk).2; exact (Array.getElem?_eq_some_iff.1 h2).1))) ⟨W.heap.size, 0, none⟩ 1 1 (cR [⟨x, x + 1⟩]) rfl rfl (World.news_of_block (cs := #[.int .i64 x, .int .i64 (x + 1)]) (t := 67) (fr := (0, 0)) (heap_alloc_new W _)) (cR_one _) (by rw [HOl.out]; unfold maxLen; omega) (by rw [HOl.out]; omega) (by have := HSz.out; simp; omega) ?_; intro v' w' hown' hgr' _ hat'; obtain ⟨sa, sc, rfl⟩ := owns_shape hown'; obtain ⟨p1, p2, p3, p4, hcv, hfv⟩ := HAft.out _ _ hown' hgr' hat'; have HAp := Lib.hid (And.intro p1 (And.intro p2 (And.intro p3 p4))); clear hown' hgr' hat' p1 p2 p3 p4)
    obtain ⟨p1, p2, p3, p4⟩ := HAp.out
    have e : onesR (pre ++ [x]) = onesR pre ++ [⟨x, x + 1⟩] := by simp [onesR]
    refine ⟨p2, ⟨?_, ?_, ?_, ?_, ?_, HIh.out.bel.trans p3⟩⟩
    · rw [e, cR_append, List.length_append]
      exact p1
    · exact (p4 (gl + 1) (by rw [HS2.out]; omega) (by omega)).trans HIh.out.cap
    · exact (p4 b (by rw [HS2.out]; have := HBl.out; omega) (by have := HBl.out; omega)).trans HIh.out.map
    · rw [List.nodup_append]
      refine ⟨HIh.out.nod, by simp, ?_⟩
      intro a ha c hc
      simp only [List.mem_singleton] at hc
      subst hc
      rintro rfl
      exact HX.out.1 ha
    · intro y hy
      simp only [List.mem_append, List.mem_singleton] at hy
      rcases hy with hy | rfl
      · exact HIh.out.mem y hy
      · exact HX.out.2
  case done =>
    intro D pre W hD hwh hI hdef
    subst hact
    obtain ⟨v, hv, ho⟩ := hI.var
    have d1 : W.cell? ⟨gl, 0, none⟩ = some v := by rw [cell_of_row W gl 0 _ _ _ hv]; rfl
    obtain ⟨va, vc, rfl⟩ := owns_shape ho
    have hor : OwnR W w3.heap.size 67 (.slice va (onesR pre).length vc) (onesR pre) := ho
    obtain ⟨a2, c2, hv2, hr2, _, _⟩ := hor.rd
    injection hv2 with e1 e2 e3
    subst e1
    have hlen := whole_len HOk.out.1 hI.nod hI.mem
    have hol : (onesR pre).length = pre.length := by simp [onesR]
    have HOf := Lib.hid (of_any va (onesR pre).length vc (onesR pre) W hr2 (by omega) (fun r hr => by
      simp only [onesR, List.mem_map] at hr
      obtain ⟨x, hx, rfl⟩ := hr
      have := fAt_in HOk.out.1 (hI.mem x hx)
      exact ⟨by simp only; omega, by simp only; omega, by simp only; omega, by simp only; omega⟩))
    have HBW := Lib.hid hI.bel
    have HD := Lib.hid (And.intro hD hdef)
    have HWh := Lib.hid hwh
    have HDl : Hid (D < W.heap.size) := Lib.hid (Array.getElem?_eq_some_iff.1 hdef).1
    clear hv ho hor hr2 hI hlen hol hD hdef hwh e2 e3
    go_wp2_with fail
    refine HOf.out.mono ?_
    rintro e w5 ⟨v5, M, rfl, ho5, hs5, hm5, _, hb5⟩
    have H5 := Lib.hid (And.intro ho5 (And.intro hs5 (And.intro hm5 hb5)))
    clear ho5 hs5 hm5 hb5
    go_wp2
    have hd5 : w5.heap[D]? = some (.deferred (some [])) := (H5.out.2.2.2.block D HDl.out).trans HD.out.2
    refine ⟨by simp, .inl ⟨_, _, rfl, run_takeDeferred hd5, ?_⟩⟩
    refine ⟨v5, by simp [results, Tryz.results64, go_sem], v5, M, rfl, ?_, ⟨H5.out.2.1, fun z => ?_⟩, ?_⟩
    · refine owns_same (OwnR.mono H5.out.1 (by have := HBW.out.size; omega)) fun k hk => World.putObj_heap_other (by have := (owns_block H5.out.1 hk).1; have := HDl.out; omega)
    · rw [H5.out.2.2.1 z, inR_ones]
      exact HWh.out.2 z
    · rw [← HG.out]
      exact (HBW.out.trans (H5.out.2.2.2.mono (by have := HBW.out.size; have := HG.out; omega))).trans (below_put (by have := HD.out.1; have := HS2.out; omega) _ _)

end Go.Proofs.YtaijjogjohbheaaGreat
