/- The document's own tape: Put. -/
import Derived.Test.YtcmbnijjkpfhlaaGTModel
import Derived.Deep.RegionLaw
namespace Go.Proofs.Ytcmbnijjkpfhlaa
open Go.RowKit
set_option linter.unusedSimpArgs false

theorem infoM : (Try.prog.info? 77).map (fun i => (i.zero, i.size, i.bytes)) = some (some (.agg #[.slice none 0 0, .bool false]), 2, 32) := by kernel_rfl

theorem elemM : Try.prog.elem 55 = 77 := by kernel_rfl

theorem sliceM_to (a : Option Addr) (n c k : Nat) (q : IntKind) (hk : k ≤ c) (w : World) :
    (Instr.slice 55 (.slice a n c) none (some (.int q (k : Int))) none).run Try.prog w = .ok (.slice a k c) w := by
  obtain ⟨i0, hi0, hz0, hz1, hz2⟩ := info_parts infoM
  rw [run_slice_h w 55 a n c (by kernel_rfl) q k (by omega) (by omega)]
  simp [sizeOf, typeInfo, elemM, hi0, sliced]
  intro _
  cases a <;> simp [Addr.add]

/-- The first pieces, appended to an empty row. -/
theorem run_copyM (W : World) (g0 : Nat) (hg : W.heap[g0]? = some (.cells #[] 77 (0, 0))) (A : Option Addr) (k c : Nat) (cs : List Value) (hl : cs.length = k * 2)
    (hA : 0 < k → ∃ ad, A = some ad ∧ ∀ j u, cs[j]? = some u → W.cell? (ad.add j) = some u) (h1 : ∀ u ∈ cs, u.oneCell' = true) (hk : k ≤ 16777216) (ty : TypeId) :
    ∃ gg cap W', (Builtin.append_ #[55, 55] ty #[.slice (some ⟨g0, 0, none⟩) 0 0, .slice A k c]).run Try.prog W = .ok (.slice (some ⟨gg, 0, none⟩) k cap) W' ∧ W'.ownsRow 0 77 2 (.slice (some ⟨gg, 0, none⟩) k cap) k cs ∧ W.grownBy W' (some g0) ∧ (gg = g0 ∨ W.heap.size ≤ gg) ∧ gg < W'.heap.size := by
  obtain ⟨i0, hi0, hz0, hz1, hz2⟩ := info_parts infoM
  have h0 : W.ownsRow 0 77 2 (.slice (some ⟨g0, 0, none⟩) 0 0) 0 [] := ⟨rfl, .inr ⟨g0, 0, #[], rfl, Nat.zero_le _, hg, Nat.le_refl _, Nat.zero_le _, rfl, rfl⟩⟩
  rcases Nat.eq_zero_or_pos k with hk0 | hk0
  · subst hk0
    have : cs = [] := List.eq_nil_of_length_eq_zero (by omega)
    subst this
    refine ⟨g0, 0, W, ?_, h0, World.grownBy.refl _ _, .inl rfl, lt_of_block hg⟩
    cases A <;> simp [Builtin.append_, run_underlying Try.underlying55, sizeOf, typeInfo, hi0, Builtin.lenOf, Builtin.firstCells, storeCells, loadCells, loadCellsFrom]
  · obtain ⟨ad, rfl, hc⟩ := hA hk0
    obtain ⟨v', w', hrun, h2, h3, h4, h5⟩ := run_append_own_at (P := Try.prog) W 0 55 ty 77 i0 _ 2 32 Try.underlying55 hi0 hz0 hz1 hz2 rfl (by omega) (.slice (some ⟨g0, 0, none⟩) 0 0) 0 [] h0 ad k c cs hl hc h1 (by unfold maxLen; omega) (by omega) (Nat.zero_le _)
    simp only [Nat.zero_add, List.nil_append] at h2
    obtain ⟨gg, cap, rfl, hlt⟩ : ∃ gg cap, v' = .slice (some ⟨gg, 0, none⟩) k cap ∧ gg < w'.heap.size := by
      rcases h2.2 with ⟨_, h⟩ | ⟨g, cap, cur, hv, _, hgo, _⟩
      · omega
      · exact ⟨g, cap, hv, lt_of_block hgo⟩
    refine ⟨gg, cap, w', hrun, h2, h3, ?_, hlt⟩
    rcases h5 with h5 | h5
    · injection h5 with h5
      exact .inl h5
    · injection h5 with h5
      exact .inr (Nat.le_of_eq h5.symm)

theorem step_copyM {ops : Array Oper} {o : Oper} {a : Act} {W : World} {K : Act → World → Prop} {Q : Exit → Act → World → Prop} {E : Prop} (hgd : o.guard = none) (s x : Operand)
    (ho : o.op = .call { callee := .builtin .append, args := #[s, x], argTypes := #[55, 55] }) (g0 : Nat) (hs : a.eval s = .slice (some ⟨g0, 0, none⟩) 0 0) (A : Option Addr) (k c : Nat) (hx : a.eval x = .slice A k c)
    (hg : W.heap[g0]? = some (.cells #[] 77 (0, 0))) (cs : List Value) (hl : cs.length = k * 2) (hA : 0 < k → ∃ ad, A = some ad ∧ ∀ j u, cs[j]? = some u → W.cell? (ad.add j) = some u) (h1 : ∀ u ∈ cs, u.oneCell' = true) (hk : k ≤ 16777216)
    (h : ∀ gg cap W', W'.ownsRow 0 77 2 (.slice (some ⟨gg, 0, none⟩) k cap) k cs → W.grownBy W' (some g0) → (gg = g0 ∨ W.heap.size ≤ gg) → gg < W'.heap.size → K (a.put o.dst (.slice (some ⟨gg, 0, none⟩) k cap)) W') :
    if Region.wanted o (yielded ops a.tmps) = true then Oper.wp Try.prog o a W K Q else E := by
  have hw : Region.wanted o (yielded ops a.tmps) = true := by simp [Region.wanted, hgd]
  rw [if_pos hw]
  obtain ⟨gg, cap, W', hrun, h2, h3, h4, h5⟩ := run_copyM W g0 hg A k c cs hl hA h1 hk o.type
  unfold Oper.wp execOp
  simp only [ho, resolve, invoke, builtin, Sem.run_bind, Sem.run_pure, Result.andThen_ok, List.map_toArray, List.map_cons, List.map_nil, hs, hx, hrun]
  exact h gg cap W' h2 h3 h4 h5

/-- The document's tape with its pieces laid anew. -/
theorem Mt.lay {w w' : World} {gm gq : Nat} {t : Tst} {F A : List Nat} {v v' : Value} {X X' : List MC} {aW aR : Option Addr} {nW cW nR cR : Nat} (h : Mt w gm t F v X aW aR nW cW nR cR) {P' : List (List Nat)} {pos' : Nat}
    (hobj : w'.heap[gm]? = some (mtObj t.room t.early (.slice aW nW cW) (.slice aR nR cR) v' pos')) (hrow : w'.ownsRow 0 77 2 v' X'.length (cM X')) (hl : X'.map MC.l = P') (hpos : pos' ≤ P'.length) (hfits : usedOf P' ≤ t.room)
    (hsz : w.heap.size ≤ w'.heap.size) (hgq : gq ∉ F) (hk : ∀ k, k < w.heap.size → k ≠ gm → k ≠ gq → w'.heap[k]? = w.heap[k]?)
    (hpcs : ∀ p ∈ X', p ∈ X ∨ (Rd w' p.a p.l.length p.l ∧ p.l.length ≤ p.c ∧ (0 < p.l.length → ∀ b o, p.a = some ⟨b, o, none⟩ → (b ∈ A ∨ w.heap.size ≤ b) ∧ b ≠ gm ∧ b < w'.heap.size)))
    (hv : ∀ g, v'.ownBlock = some g → w.heap.size ≤ g) :
    ∃ F', Mt w' gm { t with P := P', pos := pos' } F' v' X' aW aR nW cW nR cR ∧ ∀ k ∈ F', k ∈ F ∨ k ∈ A ∨ w.heap.size ≤ k := by
  have hold : ∀ b, b ∈ F → b ≠ gm → w'.heap[b]? = w.heap[b]? := fun b hb hne => hk b (h.fl b hb) hne (by rintro rfl; exact hgq hb)
  have hall : ∀ p ∈ X', Rd w' p.a p.l.length p.l ∧ p.l.length ≤ p.c ∧ (0 < p.l.length → ∀ b o, p.a = some ⟨b, o, none⟩ → (b ∈ F ∨ b ∈ A ∨ w.heap.size ≤ b) ∧ b ≠ gm ∧ b < w'.heap.size) := by
    intro p hp
    rcases hpcs p hp with hX | ⟨h1, h2, h3⟩
    · obtain ⟨h1, h2, h3⟩ := h.pcs p hX
      refine ⟨⟨h1.1, h1.2.1, fun hn => ?_⟩, h2, fun hn b o e => ⟨.inl (h3 hn b o e).1, (h3 hn b o e).2, Nat.lt_of_lt_of_le (h.fl b (h3 hn b o e).1) hsz⟩⟩
      obtain ⟨b, o, e, hc⟩ := h1.2.2 hn
      refine ⟨b, o, e, fun j hj => ?_⟩
      rw [← hc j hj]
      simp only [World.cell?, hold b (h3 hn b o e).1 (h3 hn b o e).2]
    · exact ⟨h1, h2, fun hn b o e => ⟨.inr (h3 hn b o e).1, (h3 hn b o e).2⟩⟩
  obtain ⟨bl, hbl1, hbl2⟩ : ∃ bl : List Nat, (∀ k ∈ bl, (k ∈ F ∨ k ∈ A ∨ w.heap.size ≤ k) ∧ k < w'.heap.size) ∧ (∀ p ∈ X', 0 < p.l.length → ∀ b o, p.a = some ⟨b, o, none⟩ → b ∈ bl) := by
    clear hpcs hrow hl hobj
    induction X' with
    | nil => exact ⟨[], by simp, by simp⟩
    | cons p r ih =>
      obtain ⟨bl, h1, h2⟩ := ih (fun p hp => hall p (by simp [hp]))
      by_cases hn : 0 < p.l.length
      · obtain ⟨b, o, e, _⟩ := (hall p (by simp)).1.2.2 hn
        obtain ⟨h3, _, h5⟩ := (hall p (by simp)).2.2 hn b o e
        refine ⟨b :: bl, ?_, ?_⟩
        · intro k hk
          simp only [List.mem_cons] at hk
          rcases hk with rfl | hk
          · exact ⟨h3, h5⟩
          · exact h1 k hk
        · intro q hq hqn b' o' e'
          simp only [List.mem_cons] at hq
          rcases hq with rfl | hq
          · rw [e] at e'
            injection e' with e'
            injection e' with e'
            simp [e']
          · simp [h2 q hq hqn b' o' e']
      · refine ⟨bl, h1, ?_⟩
        intro q hq hqn b' o' e'
        simp only [List.mem_cons] at hq
        rcases hq with rfl | hq
        · exact absurd hqn hn
        · exact h2 q hq hqn b' o' e'
  have hI : ∀ a n L, RdI w a n L → (∀ b o, a = some ⟨b, o, none⟩ → b ∈ F ∧ b ≠ gm) → RdI w' a n L := by
    intro a n L h1 h2
    refine ⟨h1.1, h1.2.1, fun hn => ?_⟩
    obtain ⟨b, o, e, hc⟩ := h1.2.2 hn
    refine ⟨b, o, e, fun j hj => ?_⟩
    rw [← hc j hj]
    simp only [World.cell?, hold b (h2 b o e).1 (h2 b o e).2]
  refine ⟨F ++ v'.ownBlock.toList ++ bl, ⟨hobj, hI _ _ _ h.rw_ h.fw, hI _ _ _ h.rr h.fr, hrow, ?_, hl, hpos, hfits, h.roomle, by simp [h.ft], ?_, ?_, ?_, ?_⟩, ?_⟩
  · intro p hp
    obtain ⟨h1, h2, h3⟩ := hall p hp
    exact ⟨h1, h2, fun hn b o e => ⟨by simp [hbl2 p hp hn b o e], (h3 hn b o e).2.1⟩⟩
  · intro g hg
    simp [hg]
  · intro b o e
    exact ⟨by simp [(h.fw b o e).1], (h.fw b o e).2⟩
  · intro b o e
    exact ⟨by simp [(h.fr b o e).1], (h.fr b o e).2⟩
  · intro k hk
    simp only [List.mem_append, Option.mem_toList] at hk
    rcases hk with (hk | hk) | hk
    · exact Nat.lt_of_lt_of_le (h.fl k hk) hsz
    · exact (hrow.lt k hk).2
    · exact (hbl1 k hk).2
  · intro k hk
    simp only [List.mem_append, Option.mem_toList] at hk
    rcases hk with (hk | hk) | hk
    · exact .inl hk
    · exact .inr (.inr (hv k hk))
    · exact (hbl1 k hk).1

/-- Put, whatever the piece. -/
def Tst.mput (s : Pw) (t : Tst) (mk : Bool) (l : List Nat) : Pw × Tst × Nat := if mk = false ∧ l.length = 0 then (s, t, 1) else if 200 < l.length then (s, t, 5) else Tst.write s t l

theorem mput_arg (w : World) (gm gq : Nat) (a : Option Addr) (c : Nat) :
    Calls Try.prog 25 #[.pointer (some ⟨gm, 0, none⟩), .pointer (some ⟨gq, 0, none⟩), .agg #[.slice a 0 c, .bool false]] w fun e w' => e = .returned (.int .i64 1) ∧ Save [] w w' := by
  have HB : Hid (∀ o, Save [] w (w.alloc o)) := Lib.hid fun o => (Save.refl _ _).alloc o
  go_enter Try.func25, Try.ntmps25
  go_wp2
  go_ret
  exact ⟨rfl, HB.out _⟩

theorem mput_long (w : World) (gm gq : Nat) (a : Option Addr) (n c : Nat) (mk : Bool) (h : 200 < n) :
    Calls Try.prog 25 #[.pointer (some ⟨gm, 0, none⟩), .pointer (some ⟨gq, 0, none⟩), .agg #[.slice a n c, .bool mk]] w fun e w' => e = .returned (.int .i64 5) ∧ Save [] w w' := by
  have HB : Hid (∀ o, Save [] w (w.alloc o)) := Lib.hid fun o => (Save.refl _ _).alloc o
  have hne : ((n : Int) == 0) = false := by simp; omega
  cases mk <;>
  · go_enter Try.func25, Try.ntmps25
    go_wp2
    go_ret
    exact ⟨rfl, HB.out _⟩

theorem mput_off (w : World) (gm gq : Nat) (s : Pw) (hP : MP w gq s) (a : Option Addr) (n c : Nat) (mk : Bool) (h : n ≤ 200) (hmk : mk = true ∨ 0 < n) (ho : s.on = false) :
    Calls Try.prog 25 #[.pointer (some ⟨gm, 0, none⟩), .pointer (some ⟨gq, 0, none⟩), .agg #[.slice a n c, .bool mk]] w fun e w' => e = .returned (.int .i64 11) ∧ Save [] w w' := by
  have HB : Hid (∀ o, Save [] w (w.alloc o)) := Lib.hid fun o => (Save.refl _ _).alloc o
  have d0 := hP.on
  rw [ho] at d0
  have d1 := fun o => Lib.cell?_alloc_some (W := w) o d0
  clear hP ho
  cases mk with
  | true =>
    clear hmk
    go_enter Try.func25, Try.ntmps25
    go_wp2
    go_ret
    exact ⟨rfl, HB.out _⟩
  | false =>
    have hne : ((n : Int) == 0) = false := by
      rcases hmk with h | h
      · cases h
      · simp; omega
    clear hmk
    go_enter Try.func25, Try.ntmps25
    go_wp2
    go_ret
    exact ⟨rfl, HB.out _⟩

theorem mput_end (w : World) (gm gq : Nat) (s : Pw) (t : Tst) (F : List Nat) (hM : Mta w gm t F) (hP : MP w gq s) (a : Option Addr) (n c : Nat) (mk : Bool) (h : n ≤ 200) (hmk : mk = true ∨ 0 < n) (ho : s.on = true) (hfull : t.room < t.used + (4 + n)) :
    Calls Try.prog 25 #[.pointer (some ⟨gm, 0, none⟩), .pointer (some ⟨gq, 0, none⟩), .agg #[.slice a n c, .bool mk]] w fun e w' => e = .returned (.int .i64 9) ∧ Save [] w w' := by
  obtain ⟨w1, h1⟩ : ∃ w1, w1 = w.alloc (.cells #[.slice a n c, .bool mk] 77) := ⟨_, rfl⟩
  obtain ⟨gx, hgx⟩ : ∃ gx, gx = w.heap.size := ⟨_, rfl⟩
  have hob : w1.heap[gx]? = some (.cells #[.slice a n c, .bool mk] 77 (0, 0)) := by rw [h1, hgx]; exact heap_alloc_new w _
  have hs1 : Save [] w w1 := by rw [h1]; exact (Save.refl _ _).alloc _
  have x0 : w1.cell? ⟨gx, 0, none⟩ = some (.slice a n c) := by rw [cell_of_row w1 gx _ _ 77 (0, 0) hob]; rfl
  have x1 : w1.cell? ⟨gx, 1, none⟩ = some (.bool mk) := by rw [cell_of_row w1 gx _ _ 77 (0, 0) hob]; rfl
  have hM1 := hM.save hs1 (by simp)
  have d0 := (hP.save hs1 (by simp)).on
  rw [ho] at d0
  have HU : Hid (∀ k, _) := Lib.hid fun k => mused_any (w1.drewN k) gm t F (hM1.save (Y := []) ((Save.refl _ _).drewN k) (by simp))
  obtain ⟨v, X, aW, aR, nW, cW, nR, cR, hM2⟩ := hM1
  have c0 := hM2.cells.1
  have hr := hM2.roomle
  have hu : t.used ≤ t.room := Nat.le_trans (usedOf_take_le _ _) hM2.fits
  obtain ⟨u, hu0⟩ : ∃ u, u = t.used := ⟨_, rfl⟩
  obtain ⟨r, hr0⟩ : ∃ r, r = t.room := ⟨_, rfl⟩
  rw [← hu0] at HU hfull hu
  rw [← hr0] at c0 hfull hr hu
  obtain ⟨u4, hu4⟩ : ∃ u4, u4 = u + 4 := ⟨_, rfl⟩
  have hw1 : IntKind.i64.wrap ((u : Int) + 4) = (u4 : Int) := by rw [IntKind.wrap_i64] <;> omega
  obtain ⟨q, hq⟩ : ∃ q, q = u4 + n := ⟨_, rfl⟩
  have hw2 : IntKind.i64.wrap ((u4 : Int) + (n : Int)) = (q : Int) := by rw [IntKind.wrap_i64] <;> omega
  have hgt : r < q := by omega
  have HS1 := Lib.hid hs1
  have HW1 := Lib.hid (And.intro h1 hgx)
  have hne : mk = false → ((n : Int) == 0) = false := by
    intro e
    rcases hmk with h | h
    · rw [e] at h; cases h
    · simp; omega
  clear hM hM2 hP hob hs1 h1 hgx hr hu hu0 hr0 hfull hu4 hq ho hmk
  cases mk with
  | true =>
    clear hne
    go_enter Try.func25, Try.ntmps25
    go_upto_region 1 with fail
    rw [← HW1.out.1, ← HW1.out.2]
    go_upto_region 7 with fail
    go_quiet ((go_at_call 50; exact Calls.quiet_of_same (HU.out _)))
    go_wp2
    go_ret
    exact ⟨rfl, HS1.out.drewN _⟩
  | false =>
    have hne' := hne rfl
    clear hne
    go_enter Try.func25, Try.ntmps25
    go_upto_region 1 with fail
    rw [← HW1.out.1, ← HW1.out.2]
    go_upto_region 7 with fail
    go_quiet ((go_at_call 50; exact Calls.quiet_of_same (HU.out _)))
    go_wp2
    go_ret
    exact ⟨rfl, HS1.out.drewN _⟩

end Go.Proofs.Ytcmbnijjkpfhlaa

/- The document's own tape: Put of a piece that has room. -/
namespace Go.Proofs.Ytcmbnijjkpfhlaa
open Go.RowKit
set_option linter.unusedSimpArgs false
set_option maxRecDepth 100000

theorem Save.grown {Y : List Nat} {w W W' : World} {g0 : Nat} (h : Save Y w W) (hg : W.grownBy W' (some g0)) (hge : w.heap.size ≤ g0) : Save Y w W' :=
  ⟨hg.os.trans h.os, hg.tape.trans h.tape, hg.output.trans h.output, Nat.le_trans h.size hg.size, fun k hk hx => (hg.block k (Nat.lt_of_lt_of_le hk h.size) (fun e => by injection e with e; omega)).trans (h.block k hk hx)⟩

theorem Save.none {Y : List Nat} {w W W' : World} (h : Save Y w W) (h' : Save [] W W') : Save Y w W' := h.trans (h'.mono (by simp))

section
variable {w w1 W : World} {gm gq : Nat} {t : Tst} {F A : List Nat} {v : Value} {X : List MC} {aW aR : Option Addr} {nW cW nR cR gg cap p : Nat}

theorem mend0 (h : Mt w1 gm t F v X aW aR nW cW nR cR) (hs1 : Save [] w w1) (hgq : gq ∉ F) (hS : Save [gq] w1 W) (hgg : w1.heap.size ≤ gg)
    (hown : W.ownsRow 0 77 2 (.slice (some ⟨gg, 0, none⟩) p cap) p (cM (X.take p))) (hp : p = t.pos) :
    (∃ F', Mta (W.setCell ⟨gm, 4, none⟩ (.slice (some ⟨gg, 0, none⟩) p cap)) gm t.cut F' ∧ ∀ k ∈ F', k ∈ F ∨ k ∈ A ∨ w.heap.size ≤ k) ∧ Save [gm, gq] w (W.setCell ⟨gm, 4, none⟩ (.slice (some ⟨gg, 0, none⟩) p cap)) := by
  have hgm := lt_of_block h.obj
  have hgmq : gm ≠ gq := by rintro rfl; exact hgq h.ft
  have hoW : W.heap[gm]? = some (mtObj t.room t.early (.slice aW nW cW) (.slice aR nR cR) v t.pos) := (hS.block gm hgm (by simpa using hgmq)).trans h.obj
  have hl : (X.take p).length = p := by rw [List.length_take, h.len]; have := h.pos_le; omega
  refine ⟨?_, ?_⟩
  · rw [mtlay4 hoW]
    have hggm : gg ≠ gm := by omega
    obtain ⟨F', h1, h2⟩ := h.lay (A := A) (gq := gq) (w' := put W gm (mtObj t.room t.early (.slice aW nW cW) (.slice aR nR cR) (.slice (some ⟨gg, 0, none⟩) p cap) t.pos)) (v' := .slice (some ⟨gg, 0, none⟩) p cap) (X' := X.take p) (P' := t.P.take t.pos) (pos' := t.pos) (put_same hoW)
      (by
        rw [hl]
        refine ⟨hown.1, hown.2.imp id ?_⟩
        rintro ⟨g, cap', cur, hv, h0, hg, rest⟩
        refine ⟨g, cap', cur, hv, h0, (put_other ?_).trans hg, rest⟩
        injection hv with hv
        injection hv with hv
        injection hv with hv
        omega)
      (by rw [hp, List.map_take, h.lst]) (by rw [List.length_take]; have := h.pos_le; omega) (Nat.le_trans (usedOf_take_le _ _) h.fits) (by rw [put_size]; exact hS.size) hgq
      (fun k hk h1 h2 => (put_other h1).trans (hS.block k hk (by simpa using h2))) (fun p hp => .inl (List.mem_of_mem_take hp)) (fun g hg => by injection hg with hg; rw [← hg]; exact hgg)
    refine ⟨F', ⟨_, _, _, _, _, _, _, _, h1⟩, fun k hk => (h2 k hk).imp id (Or.imp id (fun h => Nat.le_trans hs1.size h))⟩
  · exact ((hs1.mono (by simp)).trans (hS.mono (by simp))).trans ((Save.set W gm 4 _).mono (by simp))

theorem mend1 (h : Mt w1 gm t F v X aW aR nW cW nR cR) (hs1 : Save [] w w1) (hgq : gq ∉ F) (hS : Save [gq] w1 W) (hgg : w1.heap.size ≤ gg) (q : MC)
    (hown : W.ownsRow 0 77 2 (.slice (some ⟨gg, 0, none⟩) (p + 1) cap) (p + 1) (cM (X.take p) ++ mcC q)) (hp : p = t.pos)
    (hrd : Rd W q.a q.l.length q.l) (hqc : q.l.length ≤ q.c) (hqa : 0 < q.l.length → ∀ b o, q.a = some ⟨b, o, none⟩ → (b ∈ A ∨ w1.heap.size ≤ b) ∧ b ≠ gm ∧ b < W.heap.size) (hfit : t.used + (4 + q.l.length) ≤ t.room) :
    (∃ F' X', Mt (W.setCell ⟨gm, 4, none⟩ (.slice (some ⟨gg, 0, none⟩) (p + 1) cap)) gm (t.cut.add q.l) F' (.slice (some ⟨gg, 0, none⟩) (p + 1) cap) X' aW aR nW cW nR cR ∧ ∀ k ∈ F', k ∈ F ∨ k ∈ A ∨ w.heap.size ≤ k) ∧ Save [gm, gq] w (W.setCell ⟨gm, 4, none⟩ (.slice (some ⟨gg, 0, none⟩) (p + 1) cap)) := by
  have hgm := lt_of_block h.obj
  have hgmq : gm ≠ gq := by rintro rfl; exact hgq h.ft
  have hoW : W.heap[gm]? = some (mtObj t.room t.early (.slice aW nW cW) (.slice aR nR cR) v t.pos) := (hS.block gm hgm (by simpa using hgmq)).trans h.obj
  have hl : (X.take p).length = p := by rw [List.length_take, h.len]; have := h.pos_le; omega
  refine ⟨?_, ?_⟩
  · rw [mtlay4 hoW]
    obtain ⟨F', h1, h2⟩ := h.lay (A := A) (gq := gq) (w' := put W gm (mtObj t.room t.early (.slice aW nW cW) (.slice aR nR cR) (.slice (some ⟨gg, 0, none⟩) (p + 1) cap) t.pos)) (v' := .slice (some ⟨gg, 0, none⟩) (p + 1) cap) (X' := X.take p ++ [q]) (P' := t.P.take t.pos ++ [q.l]) (pos' := t.pos) (put_same hoW)
      (by
        have e1 : (X.take p ++ [q]).length = p + 1 := by rw [List.length_append, hl]; rfl
        have e2 : cM (X.take p ++ [q]) = cM (X.take p) ++ mcC q := by rw [cM_append]; simp [cM]
        rw [e1, e2]
        refine ⟨hown.1, hown.2.imp id ?_⟩
        rintro ⟨g, cap', cur, hv, h0, hg, rest⟩
        refine ⟨g, cap', cur, hv, h0, (put_other ?_).trans hg, rest⟩
        injection hv with hv
        injection hv with hv
        injection hv with hv
        omega)
      (by rw [List.map_append, hp, List.map_take, h.lst]; rfl) (by rw [List.length_append, List.length_take]; have := h.pos_le; omega) (by rw [usedOf_snoc]; exact hfit) (by rw [put_size]; exact hS.size) hgq
      (fun k hk h1 h2 => (put_other h1).trans (hS.block k hk (by simpa using h2)))
      (by
        intro p' hp'
        simp only [List.mem_append, List.mem_singleton] at hp'
        rcases hp' with hp' | rfl
        · exact .inl (List.mem_of_mem_take hp')
        · refine .inr ⟨?_, hqc, fun hn b o e => ⟨(hqa hn b o e).1, (hqa hn b o e).2.1, by rw [put_size]; exact (hqa hn b o e).2.2⟩⟩
          refine ⟨hrd.1, hrd.2.1, fun hn => ?_⟩
          obtain ⟨b, o, e, hc⟩ := hrd.2.2 hn
          refine ⟨b, o, e, fun j hj => ?_⟩
          rw [← hc j hj]
          simp only [World.cell?, (put_other (hqa hn b o e).2.1 : (put W gm _).heap[b]? = _)])
      (fun g hg => by injection hg with hg; rw [← hg]; exact hgg)
    exact ⟨F', _, h1, fun k hk => (h2 k hk).imp id (Or.imp id (fun h => Nat.le_trans hs1.size h))⟩
  · exact ((hs1.mono (by simp)).trans (hS.mono (by simp))).trans ((Save.set W gm 4 _).mono (by simp))

end

set_option maxHeartbeats 4000000 in
theorem mroom_in_t (w : World) (gm gq : Nat) (s : Pw) (t : Tst) (F A : List Nat) (hM : Mta w gm t F) (hP : MP w gq s) (hgq : gq ∉ F) (a : Option Addr) (n c : Nat) (l : List Nat) (hrd : Rd w a n l) (hab : 0 < n → ∀ b o, a = some ⟨b, o, none⟩ → b ∈ A ∧ b ≠ gm ∧ b ≠ gq) (hnc : n ≤ c) (ho : s.on = true) (hok : s.ok) (hn : n ≤ 200) (hn0 : n = 0) (hfit : t.used + (4 + n) ≤ t.room) (hnw : t.nw.length ≤ 1000000) (hE : (s.write ((4 + n : Nat) : Int)).2.2 = 0) (hM0 : (s.write ((4 + n : Nat) : Int)).2.1 = ((4 + n : Nat) : Int)) (hin : (t.pos : Int) ∈ t.nw) :
    Calls Try.prog 25 #[.pointer (some ⟨gm, 0, none⟩), .pointer (some ⟨gq, 0, none⟩), .agg #[.slice a n c, .bool true]] w fun e w' => e = .returned (.int .i64 ((Tst.write s t l).2.2 : Int)) ∧ ∃ F', Mta w' gm (Tst.write s t l).2.1 F' ∧ MP w' gq (Tst.write s t l).1 ∧ Save [gm, gq] w w' ∧ ∀ k ∈ F', k ∈ F ∨ k ∈ A ∨ w.heap.size ≤ k := by
  obtain ⟨i0, hi0, hz0, hz1, hz2⟩ := info_parts infoM
  have hln := hrd.1
  have hW0 : Tst.write s t l = if (s.write ((4 + n : Nat) : Int)).2.2 = 0 then
      if (t.pos : Int) ∈ t.nw then ((s.write ((4 + n : Nat) : Int)).1, t.cut, 8)
      else ((s.write ((4 + n : Nat) : Int)).1, { t.cut.add l with pos := t.pos + 1 }, 0)
    else if 4 < (s.write ((4 + n : Nat) : Int)).2.1 then ((s.write ((4 + n : Nat) : Int)).1, t.cut.add (l.take ((s.write ((4 + n : Nat) : Int)).2.1.toNat - 4)), 11)
    else ((s.write ((4 + n : Nat) : Int)).1, t.cut, 11) := by
    unfold Tst.write
    rw [hln, if_neg (by simp [ho]), if_neg (by omega)]
  obtain ⟨w1, h1⟩ : ∃ w1, w1 = w.alloc (.cells #[.slice a n c, .bool true] 77) := ⟨_, rfl⟩
  obtain ⟨gx, hgx⟩ : ∃ gx, gx = w.heap.size := ⟨_, rfl⟩
  have hob : w1.heap[gx]? = some (.cells #[.slice a n c, .bool true] 77 (0, 0)) := by rw [h1, hgx]; exact heap_alloc_new w _
  have hs1 : Save [] w w1 := by rw [h1]; exact (Save.refl _ _).alloc _
  have x0 : w1.cell? ⟨gx, 0, none⟩ = some (.slice a n c) := by rw [cell_of_row w1 gx _ _ 77 (0, 0) hob]; rfl
  have x1 : w1.cell? ⟨gx, 1, none⟩ = some (.bool true) := by rw [cell_of_row w1 gx _ _ 77 (0, 0) hob]; rfl
  have hM1 := hM.save hs1 (by simp)
  have hP1 := hP.save hs1 (by simp)
  have HMP := Lib.hid hP1
  have d0 := hP1.on
  rw [ho] at d0
  have hgqlt := hP.lt
  have hgxq : gx ≠ gq := by omega
  have HU : Hid (∀ k, _) := Lib.hid fun k => mused_any (w1.drewN k) gm t F (hM1.save (Y := []) ((Save.refl _ _).drewN k) (by simp))
  obtain ⟨v, X, aW, aR, nW, cW, nR, cR, h⟩ := hM1
  have HH := Lib.hid h
  have hgmq : gm ≠ gq := by rintro rfl; exact hgq h.ft
  have c0 := h.cells.1
  have hr := h.roomle
  have hpl := h.pos_le
  have hps0 := h.pos_small
  have hu : t.used ≤ t.room := Nat.le_trans (usedOf_take_le _ _) h.fits
  obtain ⟨av, cv, hv0, hcv, hsh⟩ := h.shape
  obtain ⟨u, hu0⟩ : ∃ u, u = t.used := ⟨_, rfl⟩
  obtain ⟨r, hr0⟩ : ∃ r, r = t.room := ⟨_, rfl⟩
  obtain ⟨p, hp⟩ : ∃ p, p = t.pos := ⟨_, rfl⟩
  obtain ⟨pn, hpn⟩ : ∃ pn, pn = t.P.length := ⟨_, rfl⟩
  have HFIT := Lib.hid hfit
  rw [← hu0] at HU hfit hu
  rw [← hr0] at c0 hfit hr hu
  obtain ⟨u4, hu4⟩ : ∃ u4, u4 = u + 4 := ⟨_, rfl⟩
  have hw1 : IntKind.i64.wrap ((u : Int) + 4) = (u4 : Int) := by rw [IntKind.wrap_i64] <;> omega
  obtain ⟨q, hq⟩ : ∃ q, q = u4 + n := ⟨_, rfl⟩
  have hw2 : IntKind.i64.wrap ((u4 : Int) + (n : Int)) = (q : Int) := by rw [IntKind.wrap_i64] <;> omega
  have hle : q ≤ r := by omega
  have hd : decide (r < q) = false := by simp; omega
  obtain ⟨z, hz⟩ : ∃ z, z = 4 + n := ⟨_, rfl⟩
  have hw3 : IntKind.i64.wrap (4 + (n : Int)) = (z : Int) := by rw [IntKind.wrap_i64] <;> omega
  rw [← hz] at hW0 hE hM0
  rw [← hp] at hW0
  have hps : p ≤ 16777216 := by omega
  have hsl := sliceM_to av pn cv p .i64 (by omega)
  obtain ⟨s', hs'⟩ : ∃ s', s' = (s.write (z : Int)).1 := ⟨_, rfl⟩
  rw [← hs'] at hW0
  have hkq : ∀ k ∈ F, k ∉ [gq] := by
    intro k hk
    simp only [List.mem_singleton]
    rintro rfl
    exact hgq hk
  have HK : Hid (∀ W, Save [gq] w1 W → W.cell? ⟨gx, 0, none⟩ = some (.slice a n c) ∧ W.cell? ⟨gx, 1, none⟩ = some (.bool true) ∧ W.cell? ⟨gm, 2, none⟩ = some (.slice aW nW cW) ∧ W.cell? ⟨gm, 4, none⟩ = some (.slice av pn cv) ∧ W.cell? ⟨gm, 5, none⟩ = some (.int .i64 (p : Int)) ∧ W.frozen? ⟨gm, 4, none⟩ = false ∧ W.frozen? ⟨gm, 5, none⟩ = false) := by
    refine Lib.hid fun W hW => ?_
    have hx := h.save hW hkq
    have hb := (hW.block gx (lt_of_block hob) (by simpa using hgxq)).trans hob
    refine ⟨?_, ?_, hx.cells.2.1, by rw [hpn, ← hv0]; exact hx.cells.2.2.2.1, by rw [hp]; exact hx.cells.2.2.2.2, hx.soft 4, hx.soft 5⟩
    · rw [cell_of_row W gx _ _ 77 (0, 0) hb]; rfl
    · rw [cell_of_row W gx _ _ 77 (0, 0) hb]; rfl
  have HIN : Hid (∀ W : World, Save [gq] w1 W → Calls Try.prog 52 #[.slice aW nW cW, .int .i64 (p : Int)] W fun e w' => e = .returned (.bool (decide ((p : Int) ∈ t.nw))) ∧ w' = W) := Lib.hid fun W hW => min_any W aW nW cW t.nw p (h.save hW hkq).rw_ (by rw [← h.rw_.1]; exact hnw)
  have hlX : (X.take p).length = p := by rw [List.length_take, h.len]; omega
  have HCL : Hid ((cM (X.take p)).length = p * 2) := Lib.hid (by rw [cM_length, hlX])
  have HCS : Hid (∀ W, Save [gq] w1 W → 0 < p → ∃ ad, av = some ad ∧ ∀ j u, (cM (X.take p))[j]? = some u → W.cell? (ad.add j) = some u) := by
    refine Lib.hid fun W hW h0 => ?_
    have hx := h.save hW hkq
    rcases hx.row.2 with ⟨_, h2⟩ | ⟨g, cap, cur, hv, _, hgo, _, _, hcs, ht⟩
    · have := h.len; omega
    · rw [hv0] at hv
      injection hv with hv1 hv2 hv3
      refine ⟨_, hv1, fun j u hju => ?_⟩
      rw [add_plain, Nat.zero_add, cell_of_row W g j cur 77 (0, 0) hgo, ← Array.getElem?_toList]
      rw [← cM_take, ← ht, List.take_take] at hju
      have hj : j < min (p * 2) (X.length * 2) := by
        rcases Nat.lt_or_ge j (min (p * 2) (X.length * 2)) with h | h
        · exact h
        · rw [List.getElem?_eq_none (by rw [List.length_take]; omega)] at hju; cases hju
      rw [List.getElem?_take_of_lt hj] at hju
      exact hju
  have HWR : Hid (∀ W, MP W gq s → Calls Try.prog 51 #[.pointer (some ⟨gq, 0, none⟩), .int .i64 (z : Int)] W fun e w' => e = .returned (.tuple #[.int .i64 (s.write (z : Int)).2.1, .bool (decide ((s.write (z : Int)).2.2 ≠ 0))]) ∧ Hid (MP w' gq s' ∧ Save [gq] W w')) := by
    refine Lib.hid fun W hW => (mwrite_any W gq s z hW ho hok).mono ?_
    rintro e w' ⟨rfl, h2, h3⟩
    rw [hs']
    exact ⟨rfl, Lib.hid ⟨h2, h3⟩⟩
  have HRD : Hid (∀ W, Save [gq] w1 W → Rd W a n l) := Lib.hid fun W hW => hrd.off ((hs1.mono (by simp)).trans hW) (fun h0 b o e => by simpa using (hab h0 b o e).2.2)
  have HAB : Hid (∀ (W : World), Save [gq] w1 W → 0 < n → ∀ b o, a = some ⟨b, o, none⟩ → (b ∈ A ∨ w1.heap.size ≤ b) ∧ b ≠ gm ∧ b < W.heap.size) := by
    refine Lib.hid fun W hW h0 b o e => ⟨.inl (hab h0 b o e).1, (hab h0 b o e).2.1, ?_⟩
    obtain ⟨b', o', e', hc⟩ := hrd.2.2 h0
    have hlt : b' < w.heap.size := World.block_lt_of_cell? w _ (hc 0 h0)
    rw [e] at e'
    injection e' with e'
    injection e' with e'
    have h3 := hs1.size
    have h4 := hW.size
    omega
  have HS1 := Lib.hid (And.intro hs1 (And.intro hgq hgmq))
  have HW1 := Lib.hid (And.intro h1 hgx)
  have HN := Lib.hid (And.intro hp (And.intro hpn (And.intro hpl (And.intro hln hnc))))
  have hmx : p + 1 ≤ maxLen := by unfold maxLen; omega
  have hby : (p + 1) * 32 ≤ 140737488355328 := by omega
  have hwf0 : decide ((s.write (z : Int)).2.2 ≠ 0) = false := by rw [hE]; rfl
  rw [hwf0, hM0] at HWR
  rw [if_pos hE, if_pos (by rw [hp]; exact hin)] at hW0
  rw [hW0]
  rw [decide_eq_true (show (p : Int) ∈ t.nw by rw [hp]; exact hin)] at HIN
  clear hM hP hP1 h hob hs1 h1 hgx hr hu hu0 hr0 hfit hu4 hq ho hok hgqlt hcv hsh hv0 hp hpn hpl hps0 hlX hrd hab hgq hgxq hkq hs' hgmq hnw hE hM0 hin hW0 hwf0 hz hln hnc hn0
  go_enter Try.func25, Try.ntmps25
  go_upto_region 1 with fail
  rw [← HW1.out.1, ← HW1.out.2]
  go_upto_region 7 with fail
  go_quiet ((go_at_call 50; exact Calls.quiet_of_same (HU.out _)))
  obtain ⟨w2, hw2⟩ : ∃ w2, w2 = w1.drewN nq := ⟨_, rfl⟩
  rw [← hw2]
  have HS2 : Hid (Save [gq] w1 w2 ∧ MP w2 gq s) := by
    rw [hw2]
    exact Lib.hid ⟨(Save.refl _ _).drewN _, HMP.out.save (Y := []) ((Save.refl _ _).drewN _) (by simp)⟩
  clear hw2 x0 x1 d0 c0
  obtain ⟨y0, y1, e2, e4, e5, f4, f5⟩ := HK.out w2 HS2.out.1
  go_wp2_with fail
  refine (HWR.out w2 HS2.out.2).mono ?_
  rintro e w3 ⟨rfl, H3⟩
  have HS3 : Hid (Save [gq] w1 w3) := Lib.hid (HS2.out.1.trans H3.out.2)
  clear y0 y1 e2 e4 e5 f4 f5
  obtain ⟨y0, y1, e2, e4, e5, f4, f5⟩ := HK.out w3 HS3.out
  go_upto_region 10 with fail
  go_region_held3 (fun W => W.cell? ⟨gm, 4, none⟩ = some (.slice av pn cv) ∧ W.cell? ⟨gm, 5, none⟩ = some (.int .i64 (p : Int)))
    (first | exact ⟨e4, e5⟩ | exact ⟨Lib.cell?_alloc_some _ e4, Lib.cell?_alloc_some _ e5⟩ | exact ⟨k4, k5⟩ | go_keep)
    (first
      | (refine step_copyM (by rfl) _ _ (by rfl) w3.heap.size (by rfl) av p cv (by rfl) (heap_alloc_new w3 _) (cM (X.take p)) HCL.out (HCS.out _ ?_) (cM_one _) hps ?_; exact (HS3.out.alloc _).drew; intro gg cap w5 hown hgrow hloc hlt; have HS5 := Lib.hid (And.intro ((((Save.refl [] w3).alloc _).drew).grown hgrow (Nat.le_refl _)) (And.intro (show w3.heap.size ≤ gg from hloc.elim (fun e => Nat.le_of_eq e.symm) (fun h => Nat.le_trans (by simp) h)) hown)); obtain ⟨_, _, _, k4, k5, _, _⟩ := HK.out w5 (HS3.out.none HS5.out.1); clear hown hgrow hloc hlt))
  clear k4 k5 y0 y1 e2 e4 e5 f4 f5
  obtain ⟨y0, y1, e2, e4, e5, f4, f5⟩ := HK.out w5 (HS3.out.none HS5.out.1)
  go_upto_region 11 with fail
  go_quiet ((go_at_call 52; exact Calls.quiet_of_same (HIN.out _ ((HS3.out.none HS5.out.1).drewN _))))
  obtain ⟨w6, hw6⟩ : ∃ w6, w6 = w5.drewN nq := ⟨_, rfl⟩
  rw [← hw6]
  have HS6 : Hid (Save [gq] w1 w6 ∧ w1.heap.size ≤ gg ∧ w6.ownsRow 0 77 2 (.slice (some ⟨gg, 0, none⟩) p cap) p (cM (X.take p)) ∧ MP w6 gq s') := by
    rw [hw6]
    exact Lib.hid ⟨(HS3.out.none HS5.out.1).drewN _, Nat.le_trans HS3.out.size HS5.out.2.1, HS5.out.2.2, H3.out.1.save (HS5.out.1.drewN _) (by simp)⟩
  clear hw6 y0 y1 e2 e4 e5 f4 f5 HS5 H3 HS3 HS2
  obtain ⟨y0, y1, e2, e4, e5, f4, f5⟩ := HK.out w6 HS6.out.1
  go_wp2
  go_ret
  obtain ⟨⟨F', m1, m2⟩, m3⟩ := mend0 (A := A) HH.out HS1.out.1 HS1.out.2.1 HS6.out.1 HS6.out.2.1 HS6.out.2.2.1 HN.out.1
  exact ⟨rfl, F', m1, HS6.out.2.2.2.save (Save.set _ gm 4 _) (by simpa using Ne.symm HS1.out.2.2), m3, m2⟩
set_option maxHeartbeats 4000000 in
theorem mroom_ok_t (w : World) (gm gq : Nat) (s : Pw) (t : Tst) (F A : List Nat) (hM : Mta w gm t F) (hP : MP w gq s) (hgq : gq ∉ F) (a : Option Addr) (n c : Nat) (l : List Nat) (hrd : Rd w a n l) (hab : 0 < n → ∀ b o, a = some ⟨b, o, none⟩ → b ∈ A ∧ b ≠ gm ∧ b ≠ gq) (hnc : n ≤ c) (ho : s.on = true) (hok : s.ok) (hn : n ≤ 200) (hn0 : n = 0) (hfit : t.used + (4 + n) ≤ t.room) (hnw : t.nw.length ≤ 1000000) (hE : (s.write ((4 + n : Nat) : Int)).2.2 = 0) (hM0 : (s.write ((4 + n : Nat) : Int)).2.1 = ((4 + n : Nat) : Int)) (hin : (t.pos : Int) ∉ t.nw) :
    Calls Try.prog 25 #[.pointer (some ⟨gm, 0, none⟩), .pointer (some ⟨gq, 0, none⟩), .agg #[.slice a n c, .bool true]] w fun e w' => e = .returned (.int .i64 ((Tst.write s t l).2.2 : Int)) ∧ ∃ F', Mta w' gm (Tst.write s t l).2.1 F' ∧ MP w' gq (Tst.write s t l).1 ∧ Save [gm, gq] w w' ∧ ∀ k ∈ F', k ∈ F ∨ k ∈ A ∨ w.heap.size ≤ k := by
  obtain ⟨i0, hi0, hz0, hz1, hz2⟩ := info_parts infoM
  have hln := hrd.1
  have hW0 : Tst.write s t l = if (s.write ((4 + n : Nat) : Int)).2.2 = 0 then
      if (t.pos : Int) ∈ t.nw then ((s.write ((4 + n : Nat) : Int)).1, t.cut, 8)
      else ((s.write ((4 + n : Nat) : Int)).1, { t.cut.add l with pos := t.pos + 1 }, 0)
    else if 4 < (s.write ((4 + n : Nat) : Int)).2.1 then ((s.write ((4 + n : Nat) : Int)).1, t.cut.add (l.take ((s.write ((4 + n : Nat) : Int)).2.1.toNat - 4)), 11)
    else ((s.write ((4 + n : Nat) : Int)).1, t.cut, 11) := by
    unfold Tst.write
    rw [hln, if_neg (by simp [ho]), if_neg (by omega)]
  obtain ⟨w1, h1⟩ : ∃ w1, w1 = w.alloc (.cells #[.slice a n c, .bool true] 77) := ⟨_, rfl⟩
  obtain ⟨gx, hgx⟩ : ∃ gx, gx = w.heap.size := ⟨_, rfl⟩
  have hob : w1.heap[gx]? = some (.cells #[.slice a n c, .bool true] 77 (0, 0)) := by rw [h1, hgx]; exact heap_alloc_new w _
  have hs1 : Save [] w w1 := by rw [h1]; exact (Save.refl _ _).alloc _
  have x0 : w1.cell? ⟨gx, 0, none⟩ = some (.slice a n c) := by rw [cell_of_row w1 gx _ _ 77 (0, 0) hob]; rfl
  have x1 : w1.cell? ⟨gx, 1, none⟩ = some (.bool true) := by rw [cell_of_row w1 gx _ _ 77 (0, 0) hob]; rfl
  have hM1 := hM.save hs1 (by simp)
  have hP1 := hP.save hs1 (by simp)
  have HMP := Lib.hid hP1
  have d0 := hP1.on
  rw [ho] at d0
  have hgqlt := hP.lt
  have hgxq : gx ≠ gq := by omega
  have HU : Hid (∀ k, _) := Lib.hid fun k => mused_any (w1.drewN k) gm t F (hM1.save (Y := []) ((Save.refl _ _).drewN k) (by simp))
  obtain ⟨v, X, aW, aR, nW, cW, nR, cR, h⟩ := hM1
  have HH := Lib.hid h
  have hgmq : gm ≠ gq := by rintro rfl; exact hgq h.ft
  have c0 := h.cells.1
  have hr := h.roomle
  have hpl := h.pos_le
  have hps0 := h.pos_small
  have hu : t.used ≤ t.room := Nat.le_trans (usedOf_take_le _ _) h.fits
  obtain ⟨av, cv, hv0, hcv, hsh⟩ := h.shape
  obtain ⟨u, hu0⟩ : ∃ u, u = t.used := ⟨_, rfl⟩
  obtain ⟨r, hr0⟩ : ∃ r, r = t.room := ⟨_, rfl⟩
  obtain ⟨p, hp⟩ : ∃ p, p = t.pos := ⟨_, rfl⟩
  obtain ⟨pn, hpn⟩ : ∃ pn, pn = t.P.length := ⟨_, rfl⟩
  have HFIT := Lib.hid hfit
  rw [← hu0] at HU hfit hu
  rw [← hr0] at c0 hfit hr hu
  obtain ⟨u4, hu4⟩ : ∃ u4, u4 = u + 4 := ⟨_, rfl⟩
  have hw1 : IntKind.i64.wrap ((u : Int) + 4) = (u4 : Int) := by rw [IntKind.wrap_i64] <;> omega
  obtain ⟨q, hq⟩ : ∃ q, q = u4 + n := ⟨_, rfl⟩
  have hw2 : IntKind.i64.wrap ((u4 : Int) + (n : Int)) = (q : Int) := by rw [IntKind.wrap_i64] <;> omega
  have hle : q ≤ r := by omega
  have hd : decide (r < q) = false := by simp; omega
  obtain ⟨z, hz⟩ : ∃ z, z = 4 + n := ⟨_, rfl⟩
  have hw3 : IntKind.i64.wrap (4 + (n : Int)) = (z : Int) := by rw [IntKind.wrap_i64] <;> omega
  rw [← hz] at hW0 hE hM0
  rw [← hp] at hW0
  have hps : p ≤ 16777216 := by omega
  have hsl := sliceM_to av pn cv p .i64 (by omega)
  obtain ⟨s', hs'⟩ : ∃ s', s' = (s.write (z : Int)).1 := ⟨_, rfl⟩
  rw [← hs'] at hW0
  have hkq : ∀ k ∈ F, k ∉ [gq] := by
    intro k hk
    simp only [List.mem_singleton]
    rintro rfl
    exact hgq hk
  have HK : Hid (∀ W, Save [gq] w1 W → W.cell? ⟨gx, 0, none⟩ = some (.slice a n c) ∧ W.cell? ⟨gx, 1, none⟩ = some (.bool true) ∧ W.cell? ⟨gm, 2, none⟩ = some (.slice aW nW cW) ∧ W.cell? ⟨gm, 4, none⟩ = some (.slice av pn cv) ∧ W.cell? ⟨gm, 5, none⟩ = some (.int .i64 (p : Int)) ∧ W.frozen? ⟨gm, 4, none⟩ = false ∧ W.frozen? ⟨gm, 5, none⟩ = false) := by
    refine Lib.hid fun W hW => ?_
    have hx := h.save hW hkq
    have hb := (hW.block gx (lt_of_block hob) (by simpa using hgxq)).trans hob
    refine ⟨?_, ?_, hx.cells.2.1, by rw [hpn, ← hv0]; exact hx.cells.2.2.2.1, by rw [hp]; exact hx.cells.2.2.2.2, hx.soft 4, hx.soft 5⟩
    · rw [cell_of_row W gx _ _ 77 (0, 0) hb]; rfl
    · rw [cell_of_row W gx _ _ 77 (0, 0) hb]; rfl
  have HIN : Hid (∀ W : World, Save [gq] w1 W → Calls Try.prog 52 #[.slice aW nW cW, .int .i64 (p : Int)] W fun e w' => e = .returned (.bool (decide ((p : Int) ∈ t.nw))) ∧ w' = W) := Lib.hid fun W hW => min_any W aW nW cW t.nw p (h.save hW hkq).rw_ (by rw [← h.rw_.1]; exact hnw)
  have hlX : (X.take p).length = p := by rw [List.length_take, h.len]; omega
  have HCL : Hid ((cM (X.take p)).length = p * 2) := Lib.hid (by rw [cM_length, hlX])
  have HCS : Hid (∀ W, Save [gq] w1 W → 0 < p → ∃ ad, av = some ad ∧ ∀ j u, (cM (X.take p))[j]? = some u → W.cell? (ad.add j) = some u) := by
    refine Lib.hid fun W hW h0 => ?_
    have hx := h.save hW hkq
    rcases hx.row.2 with ⟨_, h2⟩ | ⟨g, cap, cur, hv, _, hgo, _, _, hcs, ht⟩
    · have := h.len; omega
    · rw [hv0] at hv
      injection hv with hv1 hv2 hv3
      refine ⟨_, hv1, fun j u hju => ?_⟩
      rw [add_plain, Nat.zero_add, cell_of_row W g j cur 77 (0, 0) hgo, ← Array.getElem?_toList]
      rw [← cM_take, ← ht, List.take_take] at hju
      have hj : j < min (p * 2) (X.length * 2) := by
        rcases Nat.lt_or_ge j (min (p * 2) (X.length * 2)) with h | h
        · exact h
        · rw [List.getElem?_eq_none (by rw [List.length_take]; omega)] at hju; cases hju
      rw [List.getElem?_take_of_lt hj] at hju
      exact hju
  have HWR : Hid (∀ W, MP W gq s → Calls Try.prog 51 #[.pointer (some ⟨gq, 0, none⟩), .int .i64 (z : Int)] W fun e w' => e = .returned (.tuple #[.int .i64 (s.write (z : Int)).2.1, .bool (decide ((s.write (z : Int)).2.2 ≠ 0))]) ∧ Hid (MP w' gq s' ∧ Save [gq] W w')) := by
    refine Lib.hid fun W hW => (mwrite_any W gq s z hW ho hok).mono ?_
    rintro e w' ⟨rfl, h2, h3⟩
    rw [hs']
    exact ⟨rfl, Lib.hid ⟨h2, h3⟩⟩
  have HRD : Hid (∀ W, Save [gq] w1 W → Rd W a n l) := Lib.hid fun W hW => hrd.off ((hs1.mono (by simp)).trans hW) (fun h0 b o e => by simpa using (hab h0 b o e).2.2)
  have HAB : Hid (∀ (W : World), Save [gq] w1 W → 0 < n → ∀ b o, a = some ⟨b, o, none⟩ → (b ∈ A ∨ w1.heap.size ≤ b) ∧ b ≠ gm ∧ b < W.heap.size) := by
    refine Lib.hid fun W hW h0 b o e => ⟨.inl (hab h0 b o e).1, (hab h0 b o e).2.1, ?_⟩
    obtain ⟨b', o', e', hc⟩ := hrd.2.2 h0
    have hlt : b' < w.heap.size := World.block_lt_of_cell? w _ (hc 0 h0)
    rw [e] at e'
    injection e' with e'
    injection e' with e'
    have h3 := hs1.size
    have h4 := hW.size
    omega
  have HS1 := Lib.hid (And.intro hs1 (And.intro hgq hgmq))
  have HW1 := Lib.hid (And.intro h1 hgx)
  have HN := Lib.hid (And.intro hp (And.intro hpn (And.intro hpl (And.intro hln hnc))))
  have hmx : p + 1 ≤ maxLen := by unfold maxLen; omega
  have hby : (p + 1) * 32 ≤ 140737488355328 := by omega
  have hwf0 : decide ((s.write (z : Int)).2.2 ≠ 0) = false := by rw [hE]; rfl
  rw [hwf0, hM0] at HWR
  rw [if_pos hE, if_neg (by rw [hp]; exact hin)] at hW0
  rw [hW0]
  rw [decide_eq_false (show (p : Int) ∉ t.nw by rw [hp]; exact hin)] at HIN
  have hw5 : IntKind.i64.wrap ((p : Int) + 1) = ((p + 1 : Nat) : Int) := by rw [IntKind.wrap_i64] <;> omega
  obtain ⟨p1, hp1⟩ : ∃ p1, p1 = p + 1 := ⟨_, rfl⟩
  rw [← hp1] at hw5 ⊢
  have HP1 := Lib.hid hp1
  have HMC : Hid (mcC ⟨a, c, l⟩ = [.slice a n c, .bool true]) := by
    simp only [mcC, hln]
    have : (n == 0) = true := by simp; omega
    rw [this]
    exact Lib.hid rfl
  clear hM hP hP1 h hob hs1 h1 hgx hr hu hu0 hr0 hfit hu4 hq ho hok hgqlt hcv hsh hv0 hp hpn hpl hps0 hlX hrd hab hgq hgxq hkq hs' hgmq hnw hE hM0 hin hW0 hwf0 hz hln hnc hp1 hn0
  go_enter Try.func25, Try.ntmps25
  go_upto_region 1 with fail
  rw [← HW1.out.1, ← HW1.out.2]
  go_upto_region 7 with fail
  go_quiet ((go_at_call 50; exact Calls.quiet_of_same (HU.out _)))
  obtain ⟨w2, hw2⟩ : ∃ w2, w2 = w1.drewN nq := ⟨_, rfl⟩
  rw [← hw2]
  have HS2 : Hid (Save [gq] w1 w2 ∧ MP w2 gq s) := by
    rw [hw2]
    exact Lib.hid ⟨(Save.refl _ _).drewN _, HMP.out.save (Y := []) ((Save.refl _ _).drewN _) (by simp)⟩
  clear hw2 x0 x1 d0 c0
  obtain ⟨y0, y1, e2, e4, e5, f4, f5⟩ := HK.out w2 HS2.out.1
  go_wp2_with fail
  refine (HWR.out w2 HS2.out.2).mono ?_
  rintro e w3 ⟨rfl, H3⟩
  have HS3 : Hid (Save [gq] w1 w3) := Lib.hid (HS2.out.1.trans H3.out.2)
  clear y0 y1 e2 e4 e5 f4 f5
  obtain ⟨y0, y1, e2, e4, e5, f4, f5⟩ := HK.out w3 HS3.out
  go_upto_region 10 with fail
  go_region_held3 (fun W => W.cell? ⟨gm, 4, none⟩ = some (.slice av pn cv) ∧ W.cell? ⟨gm, 5, none⟩ = some (.int .i64 (p : Int)))
    (first | exact ⟨e4, e5⟩ | exact ⟨Lib.cell?_alloc_some _ e4, Lib.cell?_alloc_some _ e5⟩ | exact ⟨k4, k5⟩ | go_keep)
    (first
      | (refine step_copyM (by rfl) _ _ (by rfl) w3.heap.size (by rfl) av p cv (by rfl) (heap_alloc_new w3 _) (cM (X.take p)) HCL.out (HCS.out _ ?_) (cM_one _) hps ?_; exact (HS3.out.alloc _).drew; intro gg cap w5 hown hgrow hloc hlt; have HS5 := Lib.hid (And.intro ((((Save.refl [] w3).alloc _).drew).grown hgrow (Nat.le_refl _)) (And.intro (show w3.heap.size ≤ gg from hloc.elim (fun e => Nat.le_of_eq e.symm) (fun h => Nat.le_trans (by simp) h)) hown)); obtain ⟨_, _, _, k4, k5, _, _⟩ := HK.out w5 (HS3.out.none HS5.out.1); clear hown hgrow hloc hlt))
  clear k4 k5 y0 y1 e2 e4 e5 f4 f5
  obtain ⟨y0, y1, e2, e4, e5, f4, f5⟩ := HK.out w5 (HS3.out.none HS5.out.1)
  go_upto_region 11 with fail
  go_quiet ((go_at_call 52; exact Calls.quiet_of_same (HIN.out _ ((HS3.out.none HS5.out.1).drewN _))))
  obtain ⟨w6, hw6⟩ : ∃ w6, w6 = w5.drewN nq := ⟨_, rfl⟩
  rw [← hw6]
  have HS6 : Hid (Save [gq] w1 w6 ∧ w1.heap.size ≤ gg ∧ w6.ownsRow 0 77 2 (.slice (some ⟨gg, 0, none⟩) p cap) p (cM (X.take p)) ∧ MP w6 gq s') := by
    rw [hw6]
    exact Lib.hid ⟨(HS3.out.none HS5.out.1).drewN _, Nat.le_trans HS3.out.size HS5.out.2.1, HS5.out.2.2, H3.out.1.save (HS5.out.1.drewN _) (by simp)⟩
  clear hw6 y0 y1 e2 e4 e5 f4 f5 HS5 H3 HS3 HS2
  obtain ⟨y0, y1, e2, e4, e5, f4, f5⟩ := HK.out w6 HS6.out.1
  go_wp2_with (at_builtin; refine wpList_append_lies _ rfl (.tmp 94) (.tmp 96) 55 rfl 0 77 i0 _ 2 32 Try.underlying55 hi0 hz0 hz1 hz2 rfl (by omega) (.slice (some ⟨gg, 0, none⟩) p cap) p (cM (X.take p)) rfl ?own ⟨w6.heap.size, 0, none⟩ 1 1 [.slice a n c, .bool true] rfl rfl (World.news_of_block (cs := #[.slice a n c, .bool true]) (t := 77) (fr := (0, 0)) (heap_alloc_new w6 _)) (by simp [Value.oneCell']) (by omega) hmx hby (Nat.zero_le _) _ rfl ?nxt)
  case own => exact HS6.out.2.2.1.alloc _
  case nxt =>
    intro g8 cap8 w8 hown hgrow hloc hlt
    have HO8 := Lib.hid hown
    have H8 : Hid (Save [] w6 w8 ∨ True) := Lib.hid (.inr trivial)
    have hS8 : Save [gq] w1 w8 := (HS6.out.1.alloc _).grown hgrow HS6.out.2.1
    have hg8 : w1.heap.size ≤ g8 := hloc.elim (fun e => by injection e with e; have e' : gg = g8 := e; have := HS6.out.2.1; omega) (fun e => by have := HS6.out.1.size; first | omega | (simp at e; omega))
    have HMP8 : Hid (MP w8 gq s') := by
      obtain ⟨tt, h1, h2⟩ := HS6.out.2.2.2
      have hlt6 := lt_of_block h1
      refine Lib.hid ⟨tt, ?_, h2⟩
      rw [hgrow.block gq (by simp; omega) (fun e => by injection e with e; have e' : gq = gg := e; have := HS6.out.2.1; have := HMP.out.lt; omega), heap_alloc_old w6 _ hlt6]
      exact h1
    have HG8 := Lib.hid (And.intro hS8 hg8)
    clear hown hgrow hloc hlt y0 y1 e2 e4 e5 f4 f5 hS8 hg8 H8
    obtain ⟨y0, y1, e2, e4, e5, f4, f5⟩ := HK.out w8 HG8.out.1
    go_wp2
    go_ret
    obtain ⟨hp, hpn, hpl, hln, hnc⟩ := HN.out
    obtain ⟨⟨F', X9, m1, m2⟩, m3⟩ := mend1 (A := A) HH.out HS1.out.1 HS1.out.2.1 HG8.out.1 HG8.out.2 ⟨a, c, l⟩ (by rw [HMC.out]; exact HO8.out) hp (by simp only [hln]; exact HRD.out w8 HG8.out.1) (by simp only [hln]; exact hnc) (by simp only [hln]; exact HAB.out w8 HG8.out.1) (by simp only [hln]; exact HFIT.out)
    refine ⟨rfl, F', ⟨_, _, _, _, _, _, _, _, m1.setPos p1 ?_⟩, ?_, ?_, m2⟩
    · rw [HP1.out]
      simp only [Tst.add, Tst.cut, List.length_append, List.length_take, List.length_singleton]
      omega
    · refine (HMP8.out.save (Save.set _ gm 4 _) (by simpa using Ne.symm HS1.out.2.2)).save (Save.set _ gm 5 _) (by simpa using Ne.symm HS1.out.2.2)
    · exact m3.trans ((Save.set _ gm 5 _).mono (by simp))
set_option maxHeartbeats 4000000 in
theorem mroom_fall_t (w : World) (gm gq : Nat) (s : Pw) (t : Tst) (F A : List Nat) (hM : Mta w gm t F) (hP : MP w gq s) (hgq : gq ∉ F) (a : Option Addr) (n c : Nat) (l : List Nat) (hrd : Rd w a n l) (hab : 0 < n → ∀ b o, a = some ⟨b, o, none⟩ → b ∈ A ∧ b ≠ gm ∧ b ≠ gq) (hnc : n ≤ c) (ho : s.on = true) (hok : s.ok) (hn : n ≤ 200) (hn0 : n = 0) (hfit : t.used + (4 + n) ≤ t.room) (hnw : t.nw.length ≤ 1000000) (k : Nat) (hE : (s.write ((4 + n : Nat) : Int)).2.2 = 11) (hM0 : (s.write ((4 + n : Nat) : Int)).2.1 = (k : Int)) (hk4 : k ≤ 4) :
    Calls Try.prog 25 #[.pointer (some ⟨gm, 0, none⟩), .pointer (some ⟨gq, 0, none⟩), .agg #[.slice a n c, .bool true]] w fun e w' => e = .returned (.int .i64 ((Tst.write s t l).2.2 : Int)) ∧ ∃ F', Mta w' gm (Tst.write s t l).2.1 F' ∧ MP w' gq (Tst.write s t l).1 ∧ Save [gm, gq] w w' ∧ ∀ k ∈ F', k ∈ F ∨ k ∈ A ∨ w.heap.size ≤ k := by
  obtain ⟨i0, hi0, hz0, hz1, hz2⟩ := info_parts infoM
  have hln := hrd.1
  have hW0 : Tst.write s t l = if (s.write ((4 + n : Nat) : Int)).2.2 = 0 then
      if (t.pos : Int) ∈ t.nw then ((s.write ((4 + n : Nat) : Int)).1, t.cut, 8)
      else ((s.write ((4 + n : Nat) : Int)).1, { t.cut.add l with pos := t.pos + 1 }, 0)
    else if 4 < (s.write ((4 + n : Nat) : Int)).2.1 then ((s.write ((4 + n : Nat) : Int)).1, t.cut.add (l.take ((s.write ((4 + n : Nat) : Int)).2.1.toNat - 4)), 11)
    else ((s.write ((4 + n : Nat) : Int)).1, t.cut, 11) := by
    unfold Tst.write
    rw [hln, if_neg (by simp [ho]), if_neg (by omega)]
  obtain ⟨w1, h1⟩ : ∃ w1, w1 = w.alloc (.cells #[.slice a n c, .bool true] 77) := ⟨_, rfl⟩
  obtain ⟨gx, hgx⟩ : ∃ gx, gx = w.heap.size := ⟨_, rfl⟩
  have hob : w1.heap[gx]? = some (.cells #[.slice a n c, .bool true] 77 (0, 0)) := by rw [h1, hgx]; exact heap_alloc_new w _
  have hs1 : Save [] w w1 := by rw [h1]; exact (Save.refl _ _).alloc _
  have x0 : w1.cell? ⟨gx, 0, none⟩ = some (.slice a n c) := by rw [cell_of_row w1 gx _ _ 77 (0, 0) hob]; rfl
  have x1 : w1.cell? ⟨gx, 1, none⟩ = some (.bool true) := by rw [cell_of_row w1 gx _ _ 77 (0, 0) hob]; rfl
  have hM1 := hM.save hs1 (by simp)
  have hP1 := hP.save hs1 (by simp)
  have HMP := Lib.hid hP1
  have d0 := hP1.on
  rw [ho] at d0
  have hgqlt := hP.lt
  have hgxq : gx ≠ gq := by omega
  have HU : Hid (∀ k, _) := Lib.hid fun k => mused_any (w1.drewN k) gm t F (hM1.save (Y := []) ((Save.refl _ _).drewN k) (by simp))
  obtain ⟨v, X, aW, aR, nW, cW, nR, cR, h⟩ := hM1
  have HH := Lib.hid h
  have hgmq : gm ≠ gq := by rintro rfl; exact hgq h.ft
  have c0 := h.cells.1
  have hr := h.roomle
  have hpl := h.pos_le
  have hps0 := h.pos_small
  have hu : t.used ≤ t.room := Nat.le_trans (usedOf_take_le _ _) h.fits
  obtain ⟨av, cv, hv0, hcv, hsh⟩ := h.shape
  obtain ⟨u, hu0⟩ : ∃ u, u = t.used := ⟨_, rfl⟩
  obtain ⟨r, hr0⟩ : ∃ r, r = t.room := ⟨_, rfl⟩
  obtain ⟨p, hp⟩ : ∃ p, p = t.pos := ⟨_, rfl⟩
  obtain ⟨pn, hpn⟩ : ∃ pn, pn = t.P.length := ⟨_, rfl⟩
  have HFIT := Lib.hid hfit
  rw [← hu0] at HU hfit hu
  rw [← hr0] at c0 hfit hr hu
  obtain ⟨u4, hu4⟩ : ∃ u4, u4 = u + 4 := ⟨_, rfl⟩
  have hw1 : IntKind.i64.wrap ((u : Int) + 4) = (u4 : Int) := by rw [IntKind.wrap_i64] <;> omega
  obtain ⟨q, hq⟩ : ∃ q, q = u4 + n := ⟨_, rfl⟩
  have hw2 : IntKind.i64.wrap ((u4 : Int) + (n : Int)) = (q : Int) := by rw [IntKind.wrap_i64] <;> omega
  have hle : q ≤ r := by omega
  have hd : decide (r < q) = false := by simp; omega
  obtain ⟨z, hz⟩ : ∃ z, z = 4 + n := ⟨_, rfl⟩
  have hw3 : IntKind.i64.wrap (4 + (n : Int)) = (z : Int) := by rw [IntKind.wrap_i64] <;> omega
  rw [← hz] at hW0 hE hM0
  rw [← hp] at hW0
  have hps : p ≤ 16777216 := by omega
  have hsl := sliceM_to av pn cv p .i64 (by omega)
  obtain ⟨s', hs'⟩ : ∃ s', s' = (s.write (z : Int)).1 := ⟨_, rfl⟩
  rw [← hs'] at hW0
  have hkq : ∀ k ∈ F, k ∉ [gq] := by
    intro k hk
    simp only [List.mem_singleton]
    rintro rfl
    exact hgq hk
  have HK : Hid (∀ W, Save [gq] w1 W → W.cell? ⟨gx, 0, none⟩ = some (.slice a n c) ∧ W.cell? ⟨gx, 1, none⟩ = some (.bool true) ∧ W.cell? ⟨gm, 2, none⟩ = some (.slice aW nW cW) ∧ W.cell? ⟨gm, 4, none⟩ = some (.slice av pn cv) ∧ W.cell? ⟨gm, 5, none⟩ = some (.int .i64 (p : Int)) ∧ W.frozen? ⟨gm, 4, none⟩ = false ∧ W.frozen? ⟨gm, 5, none⟩ = false) := by
    refine Lib.hid fun W hW => ?_
    have hx := h.save hW hkq
    have hb := (hW.block gx (lt_of_block hob) (by simpa using hgxq)).trans hob
    refine ⟨?_, ?_, hx.cells.2.1, by rw [hpn, ← hv0]; exact hx.cells.2.2.2.1, by rw [hp]; exact hx.cells.2.2.2.2, hx.soft 4, hx.soft 5⟩
    · rw [cell_of_row W gx _ _ 77 (0, 0) hb]; rfl
    · rw [cell_of_row W gx _ _ 77 (0, 0) hb]; rfl
  have HIN : Hid (∀ W : World, Save [gq] w1 W → Calls Try.prog 52 #[.slice aW nW cW, .int .i64 (p : Int)] W fun e w' => e = .returned (.bool (decide ((p : Int) ∈ t.nw))) ∧ w' = W) := Lib.hid fun W hW => min_any W aW nW cW t.nw p (h.save hW hkq).rw_ (by rw [← h.rw_.1]; exact hnw)
  have hlX : (X.take p).length = p := by rw [List.length_take, h.len]; omega
  have HCL : Hid ((cM (X.take p)).length = p * 2) := Lib.hid (by rw [cM_length, hlX])
  have HCS : Hid (∀ W, Save [gq] w1 W → 0 < p → ∃ ad, av = some ad ∧ ∀ j u, (cM (X.take p))[j]? = some u → W.cell? (ad.add j) = some u) := by
    refine Lib.hid fun W hW h0 => ?_
    have hx := h.save hW hkq
    rcases hx.row.2 with ⟨_, h2⟩ | ⟨g, cap, cur, hv, _, hgo, _, _, hcs, ht⟩
    · have := h.len; omega
    · rw [hv0] at hv
      injection hv with hv1 hv2 hv3
      refine ⟨_, hv1, fun j u hju => ?_⟩
      rw [add_plain, Nat.zero_add, cell_of_row W g j cur 77 (0, 0) hgo, ← Array.getElem?_toList]
      rw [← cM_take, ← ht, List.take_take] at hju
      have hj : j < min (p * 2) (X.length * 2) := by
        rcases Nat.lt_or_ge j (min (p * 2) (X.length * 2)) with h | h
        · exact h
        · rw [List.getElem?_eq_none (by rw [List.length_take]; omega)] at hju; cases hju
      rw [List.getElem?_take_of_lt hj] at hju
      exact hju
  have HWR : Hid (∀ W, MP W gq s → Calls Try.prog 51 #[.pointer (some ⟨gq, 0, none⟩), .int .i64 (z : Int)] W fun e w' => e = .returned (.tuple #[.int .i64 (s.write (z : Int)).2.1, .bool (decide ((s.write (z : Int)).2.2 ≠ 0))]) ∧ Hid (MP w' gq s' ∧ Save [gq] W w')) := by
    refine Lib.hid fun W hW => (mwrite_any W gq s z hW ho hok).mono ?_
    rintro e w' ⟨rfl, h2, h3⟩
    rw [hs']
    exact ⟨rfl, Lib.hid ⟨h2, h3⟩⟩
  have HRD : Hid (∀ W, Save [gq] w1 W → Rd W a n l) := Lib.hid fun W hW => hrd.off ((hs1.mono (by simp)).trans hW) (fun h0 b o e => by simpa using (hab h0 b o e).2.2)
  have HAB : Hid (∀ (W : World), Save [gq] w1 W → 0 < n → ∀ b o, a = some ⟨b, o, none⟩ → (b ∈ A ∨ w1.heap.size ≤ b) ∧ b ≠ gm ∧ b < W.heap.size) := by
    refine Lib.hid fun W hW h0 b o e => ⟨.inl (hab h0 b o e).1, (hab h0 b o e).2.1, ?_⟩
    obtain ⟨b', o', e', hc⟩ := hrd.2.2 h0
    have hlt : b' < w.heap.size := World.block_lt_of_cell? w _ (hc 0 h0)
    rw [e] at e'
    injection e' with e'
    injection e' with e'
    have h3 := hs1.size
    have h4 := hW.size
    omega
  have HS1 := Lib.hid (And.intro hs1 (And.intro hgq hgmq))
  have HW1 := Lib.hid (And.intro h1 hgx)
  have HN := Lib.hid (And.intro hp (And.intro hpn (And.intro hpl (And.intro hln hnc))))
  have hmx : p + 1 ≤ maxLen := by unfold maxLen; omega
  have hby : (p + 1) * 32 ≤ 140737488355328 := by omega
  have hwf0 : decide ((s.write (z : Int)).2.2 ≠ 0) = true := by rw [hE]; rfl
  rw [hwf0, hM0] at HWR
  rw [if_neg (by rw [hE]; decide), if_neg (by rw [hM0]; omega)] at hW0
  rw [hW0]
  obtain ⟨bb, hbb⟩ : ∃ bb, bb = decide ((p : Int) ∈ t.nw) := ⟨_, rfl⟩
  rw [← hbb] at HIN
  clear hM hP hP1 h hob hs1 h1 hgx hr hu hu0 hr0 hfit hu4 hq ho hok hgqlt hcv hsh hv0 hp hpn hpl hps0 hlX hrd hab hgq hgxq hkq hs' hgmq hnw hE hM0 hW0 hwf0 hz hln hnc hbb hn0
  go_enter Try.func25, Try.ntmps25
  go_upto_region 1 with fail
  rw [← HW1.out.1, ← HW1.out.2]
  go_upto_region 7 with fail
  go_quiet ((go_at_call 50; exact Calls.quiet_of_same (HU.out _)))
  obtain ⟨w2, hw2⟩ : ∃ w2, w2 = w1.drewN nq := ⟨_, rfl⟩
  rw [← hw2]
  have HS2 : Hid (Save [gq] w1 w2 ∧ MP w2 gq s) := by
    rw [hw2]
    exact Lib.hid ⟨(Save.refl _ _).drewN _, HMP.out.save (Y := []) ((Save.refl _ _).drewN _) (by simp)⟩
  clear hw2 x0 x1 d0 c0
  obtain ⟨y0, y1, e2, e4, e5, f4, f5⟩ := HK.out w2 HS2.out.1
  go_wp2_with fail
  refine (HWR.out w2 HS2.out.2).mono ?_
  rintro e w3 ⟨rfl, H3⟩
  have HS3 : Hid (Save [gq] w1 w3) := Lib.hid (HS2.out.1.trans H3.out.2)
  clear y0 y1 e2 e4 e5 f4 f5
  obtain ⟨y0, y1, e2, e4, e5, f4, f5⟩ := HK.out w3 HS3.out
  go_upto_region 10 with fail
  go_region_held3 (fun W => W.cell? ⟨gm, 4, none⟩ = some (.slice av pn cv) ∧ W.cell? ⟨gm, 5, none⟩ = some (.int .i64 (p : Int)))
    (first | exact ⟨e4, e5⟩ | exact ⟨Lib.cell?_alloc_some _ e4, Lib.cell?_alloc_some _ e5⟩ | exact ⟨k4, k5⟩ | go_keep)
    (first
      | (refine step_copyM (by rfl) _ _ (by rfl) w3.heap.size (by rfl) av p cv (by rfl) (heap_alloc_new w3 _) (cM (X.take p)) HCL.out (HCS.out _ ?_) (cM_one _) hps ?_; exact (HS3.out.alloc _).drew; intro gg cap w5 hown hgrow hloc hlt; have HS5 := Lib.hid (And.intro ((((Save.refl [] w3).alloc _).drew).grown hgrow (Nat.le_refl _)) (And.intro (show w3.heap.size ≤ gg from hloc.elim (fun e => Nat.le_of_eq e.symm) (fun h => Nat.le_trans (by simp) h)) hown)); obtain ⟨_, _, _, k4, k5, _, _⟩ := HK.out w5 (HS3.out.none HS5.out.1); clear hown hgrow hloc hlt))
  clear k4 k5 y0 y1 e2 e4 e5 f4 f5
  obtain ⟨y0, y1, e2, e4, e5, f4, f5⟩ := HK.out w5 (HS3.out.none HS5.out.1)
  go_upto_region 11 with fail
  go_quiet ((go_at_call 52; exact Calls.quiet_of_same (HIN.out _ ((HS3.out.none HS5.out.1).drewN _))))
  obtain ⟨w6, hw6⟩ : ∃ w6, w6 = w5.drewN nq := ⟨_, rfl⟩
  rw [← hw6]
  have HS6 : Hid (Save [gq] w1 w6 ∧ w1.heap.size ≤ gg ∧ w6.ownsRow 0 77 2 (.slice (some ⟨gg, 0, none⟩) p cap) p (cM (X.take p)) ∧ MP w6 gq s') := by
    rw [hw6]
    exact Lib.hid ⟨(HS3.out.none HS5.out.1).drewN _, Nat.le_trans HS3.out.size HS5.out.2.1, HS5.out.2.2, H3.out.1.save (HS5.out.1.drewN _) (by simp)⟩
  clear hw6 y0 y1 e2 e4 e5 f4 f5 HS5 H3 HS3 HS2
  obtain ⟨y0, y1, e2, e4, e5, f4, f5⟩ := HK.out w6 HS6.out.1
  go_wp2
  go_ret
  obtain ⟨⟨F', m1, m2⟩, m3⟩ := mend0 (A := A) HH.out HS1.out.1 HS1.out.2.1 HS6.out.1 HS6.out.2.1 HS6.out.2.2.1 HN.out.1
  exact ⟨rfl, F', m1, HS6.out.2.2.2.save (Save.set _ gm 4 _) (by simpa using Ne.symm HS1.out.2.2), m3, m2⟩
set_option maxHeartbeats 4000000 in
theorem mroom_in_f (w : World) (gm gq : Nat) (s : Pw) (t : Tst) (F A : List Nat) (hM : Mta w gm t F) (hP : MP w gq s) (hgq : gq ∉ F) (a : Option Addr) (n c : Nat) (l : List Nat) (hrd : Rd w a n l) (hab : 0 < n → ∀ b o, a = some ⟨b, o, none⟩ → b ∈ A ∧ b ≠ gm ∧ b ≠ gq) (hnc : n ≤ c) (ho : s.on = true) (hok : s.ok) (hn : n ≤ 200) (hn0 : 0 < n) (hfit : t.used + (4 + n) ≤ t.room) (hnw : t.nw.length ≤ 1000000) (hE : (s.write ((4 + n : Nat) : Int)).2.2 = 0) (hM0 : (s.write ((4 + n : Nat) : Int)).2.1 = ((4 + n : Nat) : Int)) (hin : (t.pos : Int) ∈ t.nw) :
    Calls Try.prog 25 #[.pointer (some ⟨gm, 0, none⟩), .pointer (some ⟨gq, 0, none⟩), .agg #[.slice a n c, .bool false]] w fun e w' => e = .returned (.int .i64 ((Tst.write s t l).2.2 : Int)) ∧ ∃ F', Mta w' gm (Tst.write s t l).2.1 F' ∧ MP w' gq (Tst.write s t l).1 ∧ Save [gm, gq] w w' ∧ ∀ k ∈ F', k ∈ F ∨ k ∈ A ∨ w.heap.size ≤ k := by
  obtain ⟨i0, hi0, hz0, hz1, hz2⟩ := info_parts infoM
  have hln := hrd.1
  have hW0 : Tst.write s t l = if (s.write ((4 + n : Nat) : Int)).2.2 = 0 then
      if (t.pos : Int) ∈ t.nw then ((s.write ((4 + n : Nat) : Int)).1, t.cut, 8)
      else ((s.write ((4 + n : Nat) : Int)).1, { t.cut.add l with pos := t.pos + 1 }, 0)
    else if 4 < (s.write ((4 + n : Nat) : Int)).2.1 then ((s.write ((4 + n : Nat) : Int)).1, t.cut.add (l.take ((s.write ((4 + n : Nat) : Int)).2.1.toNat - 4)), 11)
    else ((s.write ((4 + n : Nat) : Int)).1, t.cut, 11) := by
    unfold Tst.write
    rw [hln, if_neg (by simp [ho]), if_neg (by omega)]
  obtain ⟨w1, h1⟩ : ∃ w1, w1 = w.alloc (.cells #[.slice a n c, .bool false] 77) := ⟨_, rfl⟩
  obtain ⟨gx, hgx⟩ : ∃ gx, gx = w.heap.size := ⟨_, rfl⟩
  have hob : w1.heap[gx]? = some (.cells #[.slice a n c, .bool false] 77 (0, 0)) := by rw [h1, hgx]; exact heap_alloc_new w _
  have hs1 : Save [] w w1 := by rw [h1]; exact (Save.refl _ _).alloc _
  have x0 : w1.cell? ⟨gx, 0, none⟩ = some (.slice a n c) := by rw [cell_of_row w1 gx _ _ 77 (0, 0) hob]; rfl
  have x1 : w1.cell? ⟨gx, 1, none⟩ = some (.bool false) := by rw [cell_of_row w1 gx _ _ 77 (0, 0) hob]; rfl
  have hM1 := hM.save hs1 (by simp)
  have hP1 := hP.save hs1 (by simp)
  have HMP := Lib.hid hP1
  have d0 := hP1.on
  rw [ho] at d0
  have hgqlt := hP.lt
  have hgxq : gx ≠ gq := by omega
  have HU : Hid (∀ k, _) := Lib.hid fun k => mused_any (w1.drewN k) gm t F (hM1.save (Y := []) ((Save.refl _ _).drewN k) (by simp))
  obtain ⟨v, X, aW, aR, nW, cW, nR, cR, h⟩ := hM1
  have HH := Lib.hid h
  have hgmq : gm ≠ gq := by rintro rfl; exact hgq h.ft
  have c0 := h.cells.1
  have hr := h.roomle
  have hpl := h.pos_le
  have hps0 := h.pos_small
  have hu : t.used ≤ t.room := Nat.le_trans (usedOf_take_le _ _) h.fits
  obtain ⟨av, cv, hv0, hcv, hsh⟩ := h.shape
  obtain ⟨u, hu0⟩ : ∃ u, u = t.used := ⟨_, rfl⟩
  obtain ⟨r, hr0⟩ : ∃ r, r = t.room := ⟨_, rfl⟩
  obtain ⟨p, hp⟩ : ∃ p, p = t.pos := ⟨_, rfl⟩
  obtain ⟨pn, hpn⟩ : ∃ pn, pn = t.P.length := ⟨_, rfl⟩
  have HFIT := Lib.hid hfit
  rw [← hu0] at HU hfit hu
  rw [← hr0] at c0 hfit hr hu
  obtain ⟨u4, hu4⟩ : ∃ u4, u4 = u + 4 := ⟨_, rfl⟩
  have hw1 : IntKind.i64.wrap ((u : Int) + 4) = (u4 : Int) := by rw [IntKind.wrap_i64] <;> omega
  obtain ⟨q, hq⟩ : ∃ q, q = u4 + n := ⟨_, rfl⟩
  have hw2 : IntKind.i64.wrap ((u4 : Int) + (n : Int)) = (q : Int) := by rw [IntKind.wrap_i64] <;> omega
  have hle : q ≤ r := by omega
  have hd : decide (r < q) = false := by simp; omega
  obtain ⟨z, hz⟩ : ∃ z, z = 4 + n := ⟨_, rfl⟩
  have hw3 : IntKind.i64.wrap (4 + (n : Int)) = (z : Int) := by rw [IntKind.wrap_i64] <;> omega
  rw [← hz] at hW0 hE hM0
  rw [← hp] at hW0
  have hps : p ≤ 16777216 := by omega
  have hsl := sliceM_to av pn cv p .i64 (by omega)
  obtain ⟨s', hs'⟩ : ∃ s', s' = (s.write (z : Int)).1 := ⟨_, rfl⟩
  rw [← hs'] at hW0
  have hkq : ∀ k ∈ F, k ∉ [gq] := by
    intro k hk
    simp only [List.mem_singleton]
    rintro rfl
    exact hgq hk
  have HK : Hid (∀ W, Save [gq] w1 W → W.cell? ⟨gx, 0, none⟩ = some (.slice a n c) ∧ W.cell? ⟨gx, 1, none⟩ = some (.bool false) ∧ W.cell? ⟨gm, 2, none⟩ = some (.slice aW nW cW) ∧ W.cell? ⟨gm, 4, none⟩ = some (.slice av pn cv) ∧ W.cell? ⟨gm, 5, none⟩ = some (.int .i64 (p : Int)) ∧ W.frozen? ⟨gm, 4, none⟩ = false ∧ W.frozen? ⟨gm, 5, none⟩ = false) := by
    refine Lib.hid fun W hW => ?_
    have hx := h.save hW hkq
    have hb := (hW.block gx (lt_of_block hob) (by simpa using hgxq)).trans hob
    refine ⟨?_, ?_, hx.cells.2.1, by rw [hpn, ← hv0]; exact hx.cells.2.2.2.1, by rw [hp]; exact hx.cells.2.2.2.2, hx.soft 4, hx.soft 5⟩
    · rw [cell_of_row W gx _ _ 77 (0, 0) hb]; rfl
    · rw [cell_of_row W gx _ _ 77 (0, 0) hb]; rfl
  have HIN : Hid (∀ W : World, Save [gq] w1 W → Calls Try.prog 52 #[.slice aW nW cW, .int .i64 (p : Int)] W fun e w' => e = .returned (.bool (decide ((p : Int) ∈ t.nw))) ∧ w' = W) := Lib.hid fun W hW => min_any W aW nW cW t.nw p (h.save hW hkq).rw_ (by rw [← h.rw_.1]; exact hnw)
  have hlX : (X.take p).length = p := by rw [List.length_take, h.len]; omega
  have HCL : Hid ((cM (X.take p)).length = p * 2) := Lib.hid (by rw [cM_length, hlX])
  have HCS : Hid (∀ W, Save [gq] w1 W → 0 < p → ∃ ad, av = some ad ∧ ∀ j u, (cM (X.take p))[j]? = some u → W.cell? (ad.add j) = some u) := by
    refine Lib.hid fun W hW h0 => ?_
    have hx := h.save hW hkq
    rcases hx.row.2 with ⟨_, h2⟩ | ⟨g, cap, cur, hv, _, hgo, _, _, hcs, ht⟩
    · have := h.len; omega
    · rw [hv0] at hv
      injection hv with hv1 hv2 hv3
      refine ⟨_, hv1, fun j u hju => ?_⟩
      rw [add_plain, Nat.zero_add, cell_of_row W g j cur 77 (0, 0) hgo, ← Array.getElem?_toList]
      rw [← cM_take, ← ht, List.take_take] at hju
      have hj : j < min (p * 2) (X.length * 2) := by
        rcases Nat.lt_or_ge j (min (p * 2) (X.length * 2)) with h | h
        · exact h
        · rw [List.getElem?_eq_none (by rw [List.length_take]; omega)] at hju; cases hju
      rw [List.getElem?_take_of_lt hj] at hju
      exact hju
  have HWR : Hid (∀ W, MP W gq s → Calls Try.prog 51 #[.pointer (some ⟨gq, 0, none⟩), .int .i64 (z : Int)] W fun e w' => e = .returned (.tuple #[.int .i64 (s.write (z : Int)).2.1, .bool (decide ((s.write (z : Int)).2.2 ≠ 0))]) ∧ Hid (MP w' gq s' ∧ Save [gq] W w')) := by
    refine Lib.hid fun W hW => (mwrite_any W gq s z hW ho hok).mono ?_
    rintro e w' ⟨rfl, h2, h3⟩
    rw [hs']
    exact ⟨rfl, Lib.hid ⟨h2, h3⟩⟩
  have HRD : Hid (∀ W, Save [gq] w1 W → Rd W a n l) := Lib.hid fun W hW => hrd.off ((hs1.mono (by simp)).trans hW) (fun h0 b o e => by simpa using (hab h0 b o e).2.2)
  have HAB : Hid (∀ (W : World), Save [gq] w1 W → 0 < n → ∀ b o, a = some ⟨b, o, none⟩ → (b ∈ A ∨ w1.heap.size ≤ b) ∧ b ≠ gm ∧ b < W.heap.size) := by
    refine Lib.hid fun W hW h0 b o e => ⟨.inl (hab h0 b o e).1, (hab h0 b o e).2.1, ?_⟩
    obtain ⟨b', o', e', hc⟩ := hrd.2.2 h0
    have hlt : b' < w.heap.size := World.block_lt_of_cell? w _ (hc 0 h0)
    rw [e] at e'
    injection e' with e'
    injection e' with e'
    have h3 := hs1.size
    have h4 := hW.size
    omega
  have HS1 := Lib.hid (And.intro hs1 (And.intro hgq hgmq))
  have HW1 := Lib.hid (And.intro h1 hgx)
  have HN := Lib.hid (And.intro hp (And.intro hpn (And.intro hpl (And.intro hln hnc))))
  have hmx : p + 1 ≤ maxLen := by unfold maxLen; omega
  have hby : (p + 1) * 32 ≤ 140737488355328 := by omega
  have hwf0 : decide ((s.write (z : Int)).2.2 ≠ 0) = false := by rw [hE]; rfl
  rw [hwf0, hM0] at HWR
  have hne0 : ((n : Int) == 0) = false := by simp; omega
  rw [if_pos hE, if_pos (by rw [hp]; exact hin)] at hW0
  rw [hW0]
  rw [decide_eq_true (show (p : Int) ∈ t.nw by rw [hp]; exact hin)] at HIN
  clear hM hP hP1 h hob hs1 h1 hgx hr hu hu0 hr0 hfit hu4 hq ho hok hgqlt hcv hsh hv0 hp hpn hpl hps0 hlX hrd hab hgq hgxq hkq hs' hgmq hnw hE hM0 hin hW0 hwf0 hz hln hnc hn0
  go_enter Try.func25, Try.ntmps25
  go_upto_region 1 with fail
  rw [← HW1.out.1, ← HW1.out.2]
  go_upto_region 7 with fail
  go_quiet ((go_at_call 50; exact Calls.quiet_of_same (HU.out _)))
  obtain ⟨w2, hw2⟩ : ∃ w2, w2 = w1.drewN nq := ⟨_, rfl⟩
  rw [← hw2]
  have HS2 : Hid (Save [gq] w1 w2 ∧ MP w2 gq s) := by
    rw [hw2]
    exact Lib.hid ⟨(Save.refl _ _).drewN _, HMP.out.save (Y := []) ((Save.refl _ _).drewN _) (by simp)⟩
  clear hw2 x0 x1 d0 c0
  obtain ⟨y0, y1, e2, e4, e5, f4, f5⟩ := HK.out w2 HS2.out.1
  go_wp2_with fail
  refine (HWR.out w2 HS2.out.2).mono ?_
  rintro e w3 ⟨rfl, H3⟩
  have HS3 : Hid (Save [gq] w1 w3) := Lib.hid (HS2.out.1.trans H3.out.2)
  clear y0 y1 e2 e4 e5 f4 f5
  obtain ⟨y0, y1, e2, e4, e5, f4, f5⟩ := HK.out w3 HS3.out
  go_upto_region 10 with fail
  go_region_held3 (fun W => W.cell? ⟨gm, 4, none⟩ = some (.slice av pn cv) ∧ W.cell? ⟨gm, 5, none⟩ = some (.int .i64 (p : Int)))
    (first | exact ⟨e4, e5⟩ | exact ⟨Lib.cell?_alloc_some _ e4, Lib.cell?_alloc_some _ e5⟩ | exact ⟨k4, k5⟩ | go_keep)
    (first
      | (refine step_copyM (by rfl) _ _ (by rfl) w3.heap.size (by rfl) av p cv (by rfl) (heap_alloc_new w3 _) (cM (X.take p)) HCL.out (HCS.out _ ?_) (cM_one _) hps ?_; exact (HS3.out.alloc _).drew; intro gg cap w5 hown hgrow hloc hlt; have HS5 := Lib.hid (And.intro ((((Save.refl [] w3).alloc _).drew).grown hgrow (Nat.le_refl _)) (And.intro (show w3.heap.size ≤ gg from hloc.elim (fun e => Nat.le_of_eq e.symm) (fun h => Nat.le_trans (by simp) h)) hown)); obtain ⟨_, _, _, k4, k5, _, _⟩ := HK.out w5 (HS3.out.none HS5.out.1); clear hown hgrow hloc hlt))
  clear k4 k5 y0 y1 e2 e4 e5 f4 f5
  obtain ⟨y0, y1, e2, e4, e5, f4, f5⟩ := HK.out w5 (HS3.out.none HS5.out.1)
  go_upto_region 11 with fail
  go_quiet ((go_at_call 52; exact Calls.quiet_of_same (HIN.out _ ((HS3.out.none HS5.out.1).drewN _))))
  obtain ⟨w6, hw6⟩ : ∃ w6, w6 = w5.drewN nq := ⟨_, rfl⟩
  rw [← hw6]
  have HS6 : Hid (Save [gq] w1 w6 ∧ w1.heap.size ≤ gg ∧ w6.ownsRow 0 77 2 (.slice (some ⟨gg, 0, none⟩) p cap) p (cM (X.take p)) ∧ MP w6 gq s') := by
    rw [hw6]
    exact Lib.hid ⟨(HS3.out.none HS5.out.1).drewN _, Nat.le_trans HS3.out.size HS5.out.2.1, HS5.out.2.2, H3.out.1.save (HS5.out.1.drewN _) (by simp)⟩
  clear hw6 y0 y1 e2 e4 e5 f4 f5 HS5 H3 HS3 HS2
  obtain ⟨y0, y1, e2, e4, e5, f4, f5⟩ := HK.out w6 HS6.out.1
  go_wp2
  go_ret
  obtain ⟨⟨F', m1, m2⟩, m3⟩ := mend0 (A := A) HH.out HS1.out.1 HS1.out.2.1 HS6.out.1 HS6.out.2.1 HS6.out.2.2.1 HN.out.1
  exact ⟨rfl, F', m1, HS6.out.2.2.2.save (Save.set _ gm 4 _) (by simpa using Ne.symm HS1.out.2.2), m3, m2⟩
set_option maxHeartbeats 4000000 in
theorem mroom_ok_f (w : World) (gm gq : Nat) (s : Pw) (t : Tst) (F A : List Nat) (hM : Mta w gm t F) (hP : MP w gq s) (hgq : gq ∉ F) (a : Option Addr) (n c : Nat) (l : List Nat) (hrd : Rd w a n l) (hab : 0 < n → ∀ b o, a = some ⟨b, o, none⟩ → b ∈ A ∧ b ≠ gm ∧ b ≠ gq) (hnc : n ≤ c) (ho : s.on = true) (hok : s.ok) (hn : n ≤ 200) (hn0 : 0 < n) (hfit : t.used + (4 + n) ≤ t.room) (hnw : t.nw.length ≤ 1000000) (hE : (s.write ((4 + n : Nat) : Int)).2.2 = 0) (hM0 : (s.write ((4 + n : Nat) : Int)).2.1 = ((4 + n : Nat) : Int)) (hin : (t.pos : Int) ∉ t.nw) :
    Calls Try.prog 25 #[.pointer (some ⟨gm, 0, none⟩), .pointer (some ⟨gq, 0, none⟩), .agg #[.slice a n c, .bool false]] w fun e w' => e = .returned (.int .i64 ((Tst.write s t l).2.2 : Int)) ∧ ∃ F', Mta w' gm (Tst.write s t l).2.1 F' ∧ MP w' gq (Tst.write s t l).1 ∧ Save [gm, gq] w w' ∧ ∀ k ∈ F', k ∈ F ∨ k ∈ A ∨ w.heap.size ≤ k := by
  obtain ⟨i0, hi0, hz0, hz1, hz2⟩ := info_parts infoM
  have hln := hrd.1
  have hW0 : Tst.write s t l = if (s.write ((4 + n : Nat) : Int)).2.2 = 0 then
      if (t.pos : Int) ∈ t.nw then ((s.write ((4 + n : Nat) : Int)).1, t.cut, 8)
      else ((s.write ((4 + n : Nat) : Int)).1, { t.cut.add l with pos := t.pos + 1 }, 0)
    else if 4 < (s.write ((4 + n : Nat) : Int)).2.1 then ((s.write ((4 + n : Nat) : Int)).1, t.cut.add (l.take ((s.write ((4 + n : Nat) : Int)).2.1.toNat - 4)), 11)
    else ((s.write ((4 + n : Nat) : Int)).1, t.cut, 11) := by
    unfold Tst.write
    rw [hln, if_neg (by simp [ho]), if_neg (by omega)]
  obtain ⟨w1, h1⟩ : ∃ w1, w1 = w.alloc (.cells #[.slice a n c, .bool false] 77) := ⟨_, rfl⟩
  obtain ⟨gx, hgx⟩ : ∃ gx, gx = w.heap.size := ⟨_, rfl⟩
  have hob : w1.heap[gx]? = some (.cells #[.slice a n c, .bool false] 77 (0, 0)) := by rw [h1, hgx]; exact heap_alloc_new w _
  have hs1 : Save [] w w1 := by rw [h1]; exact (Save.refl _ _).alloc _
  have x0 : w1.cell? ⟨gx, 0, none⟩ = some (.slice a n c) := by rw [cell_of_row w1 gx _ _ 77 (0, 0) hob]; rfl
  have x1 : w1.cell? ⟨gx, 1, none⟩ = some (.bool false) := by rw [cell_of_row w1 gx _ _ 77 (0, 0) hob]; rfl
  have hM1 := hM.save hs1 (by simp)
  have hP1 := hP.save hs1 (by simp)
  have HMP := Lib.hid hP1
  have d0 := hP1.on
  rw [ho] at d0
  have hgqlt := hP.lt
  have hgxq : gx ≠ gq := by omega
  have HU : Hid (∀ k, _) := Lib.hid fun k => mused_any (w1.drewN k) gm t F (hM1.save (Y := []) ((Save.refl _ _).drewN k) (by simp))
  obtain ⟨v, X, aW, aR, nW, cW, nR, cR, h⟩ := hM1
  have HH := Lib.hid h
  have hgmq : gm ≠ gq := by rintro rfl; exact hgq h.ft
  have c0 := h.cells.1
  have hr := h.roomle
  have hpl := h.pos_le
  have hps0 := h.pos_small
  have hu : t.used ≤ t.room := Nat.le_trans (usedOf_take_le _ _) h.fits
  obtain ⟨av, cv, hv0, hcv, hsh⟩ := h.shape
  obtain ⟨u, hu0⟩ : ∃ u, u = t.used := ⟨_, rfl⟩
  obtain ⟨r, hr0⟩ : ∃ r, r = t.room := ⟨_, rfl⟩
  obtain ⟨p, hp⟩ : ∃ p, p = t.pos := ⟨_, rfl⟩
  obtain ⟨pn, hpn⟩ : ∃ pn, pn = t.P.length := ⟨_, rfl⟩
  have HFIT := Lib.hid hfit
  rw [← hu0] at HU hfit hu
  rw [← hr0] at c0 hfit hr hu
  obtain ⟨u4, hu4⟩ : ∃ u4, u4 = u + 4 := ⟨_, rfl⟩
  have hw1 : IntKind.i64.wrap ((u : Int) + 4) = (u4 : Int) := by rw [IntKind.wrap_i64] <;> omega
  obtain ⟨q, hq⟩ : ∃ q, q = u4 + n := ⟨_, rfl⟩
  have hw2 : IntKind.i64.wrap ((u4 : Int) + (n : Int)) = (q : Int) := by rw [IntKind.wrap_i64] <;> omega
  have hle : q ≤ r := by omega
  have hd : decide (r < q) = false := by simp; omega
  obtain ⟨z, hz⟩ : ∃ z, z = 4 + n := ⟨_, rfl⟩
  have hw3 : IntKind.i64.wrap (4 + (n : Int)) = (z : Int) := by rw [IntKind.wrap_i64] <;> omega
  rw [← hz] at hW0 hE hM0
  rw [← hp] at hW0
  have hps : p ≤ 16777216 := by omega
  have hsl := sliceM_to av pn cv p .i64 (by omega)
  obtain ⟨s', hs'⟩ : ∃ s', s' = (s.write (z : Int)).1 := ⟨_, rfl⟩
  rw [← hs'] at hW0
  have hkq : ∀ k ∈ F, k ∉ [gq] := by
    intro k hk
    simp only [List.mem_singleton]
    rintro rfl
    exact hgq hk
  have HK : Hid (∀ W, Save [gq] w1 W → W.cell? ⟨gx, 0, none⟩ = some (.slice a n c) ∧ W.cell? ⟨gx, 1, none⟩ = some (.bool false) ∧ W.cell? ⟨gm, 2, none⟩ = some (.slice aW nW cW) ∧ W.cell? ⟨gm, 4, none⟩ = some (.slice av pn cv) ∧ W.cell? ⟨gm, 5, none⟩ = some (.int .i64 (p : Int)) ∧ W.frozen? ⟨gm, 4, none⟩ = false ∧ W.frozen? ⟨gm, 5, none⟩ = false) := by
    refine Lib.hid fun W hW => ?_
    have hx := h.save hW hkq
    have hb := (hW.block gx (lt_of_block hob) (by simpa using hgxq)).trans hob
    refine ⟨?_, ?_, hx.cells.2.1, by rw [hpn, ← hv0]; exact hx.cells.2.2.2.1, by rw [hp]; exact hx.cells.2.2.2.2, hx.soft 4, hx.soft 5⟩
    · rw [cell_of_row W gx _ _ 77 (0, 0) hb]; rfl
    · rw [cell_of_row W gx _ _ 77 (0, 0) hb]; rfl
  have HIN : Hid (∀ W : World, Save [gq] w1 W → Calls Try.prog 52 #[.slice aW nW cW, .int .i64 (p : Int)] W fun e w' => e = .returned (.bool (decide ((p : Int) ∈ t.nw))) ∧ w' = W) := Lib.hid fun W hW => min_any W aW nW cW t.nw p (h.save hW hkq).rw_ (by rw [← h.rw_.1]; exact hnw)
  have hlX : (X.take p).length = p := by rw [List.length_take, h.len]; omega
  have HCL : Hid ((cM (X.take p)).length = p * 2) := Lib.hid (by rw [cM_length, hlX])
  have HCS : Hid (∀ W, Save [gq] w1 W → 0 < p → ∃ ad, av = some ad ∧ ∀ j u, (cM (X.take p))[j]? = some u → W.cell? (ad.add j) = some u) := by
    refine Lib.hid fun W hW h0 => ?_
    have hx := h.save hW hkq
    rcases hx.row.2 with ⟨_, h2⟩ | ⟨g, cap, cur, hv, _, hgo, _, _, hcs, ht⟩
    · have := h.len; omega
    · rw [hv0] at hv
      injection hv with hv1 hv2 hv3
      refine ⟨_, hv1, fun j u hju => ?_⟩
      rw [add_plain, Nat.zero_add, cell_of_row W g j cur 77 (0, 0) hgo, ← Array.getElem?_toList]
      rw [← cM_take, ← ht, List.take_take] at hju
      have hj : j < min (p * 2) (X.length * 2) := by
        rcases Nat.lt_or_ge j (min (p * 2) (X.length * 2)) with h | h
        · exact h
        · rw [List.getElem?_eq_none (by rw [List.length_take]; omega)] at hju; cases hju
      rw [List.getElem?_take_of_lt hj] at hju
      exact hju
  have HWR : Hid (∀ W, MP W gq s → Calls Try.prog 51 #[.pointer (some ⟨gq, 0, none⟩), .int .i64 (z : Int)] W fun e w' => e = .returned (.tuple #[.int .i64 (s.write (z : Int)).2.1, .bool (decide ((s.write (z : Int)).2.2 ≠ 0))]) ∧ Hid (MP w' gq s' ∧ Save [gq] W w')) := by
    refine Lib.hid fun W hW => (mwrite_any W gq s z hW ho hok).mono ?_
    rintro e w' ⟨rfl, h2, h3⟩
    rw [hs']
    exact ⟨rfl, Lib.hid ⟨h2, h3⟩⟩
  have HRD : Hid (∀ W, Save [gq] w1 W → Rd W a n l) := Lib.hid fun W hW => hrd.off ((hs1.mono (by simp)).trans hW) (fun h0 b o e => by simpa using (hab h0 b o e).2.2)
  have HAB : Hid (∀ (W : World), Save [gq] w1 W → 0 < n → ∀ b o, a = some ⟨b, o, none⟩ → (b ∈ A ∨ w1.heap.size ≤ b) ∧ b ≠ gm ∧ b < W.heap.size) := by
    refine Lib.hid fun W hW h0 b o e => ⟨.inl (hab h0 b o e).1, (hab h0 b o e).2.1, ?_⟩
    obtain ⟨b', o', e', hc⟩ := hrd.2.2 h0
    have hlt : b' < w.heap.size := World.block_lt_of_cell? w _ (hc 0 h0)
    rw [e] at e'
    injection e' with e'
    injection e' with e'
    have h3 := hs1.size
    have h4 := hW.size
    omega
  have HS1 := Lib.hid (And.intro hs1 (And.intro hgq hgmq))
  have HW1 := Lib.hid (And.intro h1 hgx)
  have HN := Lib.hid (And.intro hp (And.intro hpn (And.intro hpl (And.intro hln hnc))))
  have hmx : p + 1 ≤ maxLen := by unfold maxLen; omega
  have hby : (p + 1) * 32 ≤ 140737488355328 := by omega
  have hwf0 : decide ((s.write (z : Int)).2.2 ≠ 0) = false := by rw [hE]; rfl
  rw [hwf0, hM0] at HWR
  have hne0 : ((n : Int) == 0) = false := by simp; omega
  rw [if_pos hE, if_neg (by rw [hp]; exact hin)] at hW0
  rw [hW0]
  rw [decide_eq_false (show (p : Int) ∉ t.nw by rw [hp]; exact hin)] at HIN
  have hw5 : IntKind.i64.wrap ((p : Int) + 1) = ((p + 1 : Nat) : Int) := by rw [IntKind.wrap_i64] <;> omega
  obtain ⟨p1, hp1⟩ : ∃ p1, p1 = p + 1 := ⟨_, rfl⟩
  rw [← hp1] at hw5 ⊢
  have HP1 := Lib.hid hp1
  have HMC : Hid (mcC ⟨a, c, l⟩ = [.slice a n c, .bool false]) := by
    simp only [mcC, hln]
    have : (n == 0) = false := by simp; omega
    rw [this]
    exact Lib.hid rfl
  clear hM hP hP1 h hob hs1 h1 hgx hr hu hu0 hr0 hfit hu4 hq ho hok hgqlt hcv hsh hv0 hp hpn hpl hps0 hlX hrd hab hgq hgxq hkq hs' hgmq hnw hE hM0 hin hW0 hwf0 hz hln hnc hp1 hn0
  go_enter Try.func25, Try.ntmps25
  go_upto_region 1 with fail
  rw [← HW1.out.1, ← HW1.out.2]
  go_upto_region 7 with fail
  go_quiet ((go_at_call 50; exact Calls.quiet_of_same (HU.out _)))
  obtain ⟨w2, hw2⟩ : ∃ w2, w2 = w1.drewN nq := ⟨_, rfl⟩
  rw [← hw2]
  have HS2 : Hid (Save [gq] w1 w2 ∧ MP w2 gq s) := by
    rw [hw2]
    exact Lib.hid ⟨(Save.refl _ _).drewN _, HMP.out.save (Y := []) ((Save.refl _ _).drewN _) (by simp)⟩
  clear hw2 x0 x1 d0 c0
  obtain ⟨y0, y1, e2, e4, e5, f4, f5⟩ := HK.out w2 HS2.out.1
  go_wp2_with fail
  refine (HWR.out w2 HS2.out.2).mono ?_
  rintro e w3 ⟨rfl, H3⟩
  have HS3 : Hid (Save [gq] w1 w3) := Lib.hid (HS2.out.1.trans H3.out.2)
  clear y0 y1 e2 e4 e5 f4 f5
  obtain ⟨y0, y1, e2, e4, e5, f4, f5⟩ := HK.out w3 HS3.out
  go_upto_region 10 with fail
  go_region_held3 (fun W => W.cell? ⟨gm, 4, none⟩ = some (.slice av pn cv) ∧ W.cell? ⟨gm, 5, none⟩ = some (.int .i64 (p : Int)))
    (first | exact ⟨e4, e5⟩ | exact ⟨Lib.cell?_alloc_some _ e4, Lib.cell?_alloc_some _ e5⟩ | exact ⟨k4, k5⟩ | go_keep)
    (first
      | (refine step_copyM (by rfl) _ _ (by rfl) w3.heap.size (by rfl) av p cv (by rfl) (heap_alloc_new w3 _) (cM (X.take p)) HCL.out (HCS.out _ ?_) (cM_one _) hps ?_; exact (HS3.out.alloc _).drew; intro gg cap w5 hown hgrow hloc hlt; have HS5 := Lib.hid (And.intro ((((Save.refl [] w3).alloc _).drew).grown hgrow (Nat.le_refl _)) (And.intro (show w3.heap.size ≤ gg from hloc.elim (fun e => Nat.le_of_eq e.symm) (fun h => Nat.le_trans (by simp) h)) hown)); obtain ⟨_, _, _, k4, k5, _, _⟩ := HK.out w5 (HS3.out.none HS5.out.1); clear hown hgrow hloc hlt))
  clear k4 k5 y0 y1 e2 e4 e5 f4 f5
  obtain ⟨y0, y1, e2, e4, e5, f4, f5⟩ := HK.out w5 (HS3.out.none HS5.out.1)
  go_upto_region 11 with fail
  go_quiet ((go_at_call 52; exact Calls.quiet_of_same (HIN.out _ ((HS3.out.none HS5.out.1).drewN _))))
  obtain ⟨w6, hw6⟩ : ∃ w6, w6 = w5.drewN nq := ⟨_, rfl⟩
  rw [← hw6]
  have HS6 : Hid (Save [gq] w1 w6 ∧ w1.heap.size ≤ gg ∧ w6.ownsRow 0 77 2 (.slice (some ⟨gg, 0, none⟩) p cap) p (cM (X.take p)) ∧ MP w6 gq s') := by
    rw [hw6]
    exact Lib.hid ⟨(HS3.out.none HS5.out.1).drewN _, Nat.le_trans HS3.out.size HS5.out.2.1, HS5.out.2.2, H3.out.1.save (HS5.out.1.drewN _) (by simp)⟩
  clear hw6 y0 y1 e2 e4 e5 f4 f5 HS5 H3 HS3 HS2
  obtain ⟨y0, y1, e2, e4, e5, f4, f5⟩ := HK.out w6 HS6.out.1
  go_wp2_with (at_builtin; refine wpList_append_lies _ rfl (.tmp 94) (.tmp 96) 55 rfl 0 77 i0 _ 2 32 Try.underlying55 hi0 hz0 hz1 hz2 rfl (by omega) (.slice (some ⟨gg, 0, none⟩) p cap) p (cM (X.take p)) rfl ?own ⟨w6.heap.size, 0, none⟩ 1 1 [.slice a n c, .bool false] rfl rfl (World.news_of_block (cs := #[.slice a n c, .bool false]) (t := 77) (fr := (0, 0)) (heap_alloc_new w6 _)) (by simp [Value.oneCell']) (by omega) hmx hby (Nat.zero_le _) _ rfl ?nxt)
  case own => exact HS6.out.2.2.1.alloc _
  case nxt =>
    intro g8 cap8 w8 hown hgrow hloc hlt
    have HO8 := Lib.hid hown
    have H8 : Hid (Save [] w6 w8 ∨ True) := Lib.hid (.inr trivial)
    have hS8 : Save [gq] w1 w8 := (HS6.out.1.alloc _).grown hgrow HS6.out.2.1
    have hg8 : w1.heap.size ≤ g8 := hloc.elim (fun e => by injection e with e; have e' : gg = g8 := e; have := HS6.out.2.1; omega) (fun e => by have := HS6.out.1.size; first | omega | (simp at e; omega))
    have HMP8 : Hid (MP w8 gq s') := by
      obtain ⟨tt, h1, h2⟩ := HS6.out.2.2.2
      have hlt6 := lt_of_block h1
      refine Lib.hid ⟨tt, ?_, h2⟩
      rw [hgrow.block gq (by simp; omega) (fun e => by injection e with e; have e' : gq = gg := e; have := HS6.out.2.1; have := HMP.out.lt; omega), heap_alloc_old w6 _ hlt6]
      exact h1
    have HG8 := Lib.hid (And.intro hS8 hg8)
    clear hown hgrow hloc hlt y0 y1 e2 e4 e5 f4 f5 hS8 hg8 H8
    obtain ⟨y0, y1, e2, e4, e5, f4, f5⟩ := HK.out w8 HG8.out.1
    go_wp2
    go_ret
    obtain ⟨hp, hpn, hpl, hln, hnc⟩ := HN.out
    obtain ⟨⟨F', X9, m1, m2⟩, m3⟩ := mend1 (A := A) HH.out HS1.out.1 HS1.out.2.1 HG8.out.1 HG8.out.2 ⟨a, c, l⟩ (by rw [HMC.out]; exact HO8.out) hp (by simp only [hln]; exact HRD.out w8 HG8.out.1) (by simp only [hln]; exact hnc) (by simp only [hln]; exact HAB.out w8 HG8.out.1) (by simp only [hln]; exact HFIT.out)
    refine ⟨rfl, F', ⟨_, _, _, _, _, _, _, _, m1.setPos p1 ?_⟩, ?_, ?_, m2⟩
    · rw [HP1.out]
      simp only [Tst.add, Tst.cut, List.length_append, List.length_take, List.length_singleton]
      omega
    · refine (HMP8.out.save (Save.set _ gm 4 _) (by simpa using Ne.symm HS1.out.2.2)).save (Save.set _ gm 5 _) (by simpa using Ne.symm HS1.out.2.2)
    · exact m3.trans ((Save.set _ gm 5 _).mono (by simp))
set_option maxHeartbeats 4000000 in
theorem mroom_fall_f (w : World) (gm gq : Nat) (s : Pw) (t : Tst) (F A : List Nat) (hM : Mta w gm t F) (hP : MP w gq s) (hgq : gq ∉ F) (a : Option Addr) (n c : Nat) (l : List Nat) (hrd : Rd w a n l) (hab : 0 < n → ∀ b o, a = some ⟨b, o, none⟩ → b ∈ A ∧ b ≠ gm ∧ b ≠ gq) (hnc : n ≤ c) (ho : s.on = true) (hok : s.ok) (hn : n ≤ 200) (hn0 : 0 < n) (hfit : t.used + (4 + n) ≤ t.room) (hnw : t.nw.length ≤ 1000000) (k : Nat) (hE : (s.write ((4 + n : Nat) : Int)).2.2 = 11) (hM0 : (s.write ((4 + n : Nat) : Int)).2.1 = (k : Int)) (hk4 : k ≤ 4) :
    Calls Try.prog 25 #[.pointer (some ⟨gm, 0, none⟩), .pointer (some ⟨gq, 0, none⟩), .agg #[.slice a n c, .bool false]] w fun e w' => e = .returned (.int .i64 ((Tst.write s t l).2.2 : Int)) ∧ ∃ F', Mta w' gm (Tst.write s t l).2.1 F' ∧ MP w' gq (Tst.write s t l).1 ∧ Save [gm, gq] w w' ∧ ∀ k ∈ F', k ∈ F ∨ k ∈ A ∨ w.heap.size ≤ k := by
  obtain ⟨i0, hi0, hz0, hz1, hz2⟩ := info_parts infoM
  have hln := hrd.1
  have hW0 : Tst.write s t l = if (s.write ((4 + n : Nat) : Int)).2.2 = 0 then
      if (t.pos : Int) ∈ t.nw then ((s.write ((4 + n : Nat) : Int)).1, t.cut, 8)
      else ((s.write ((4 + n : Nat) : Int)).1, { t.cut.add l with pos := t.pos + 1 }, 0)
    else if 4 < (s.write ((4 + n : Nat) : Int)).2.1 then ((s.write ((4 + n : Nat) : Int)).1, t.cut.add (l.take ((s.write ((4 + n : Nat) : Int)).2.1.toNat - 4)), 11)
    else ((s.write ((4 + n : Nat) : Int)).1, t.cut, 11) := by
    unfold Tst.write
    rw [hln, if_neg (by simp [ho]), if_neg (by omega)]
  obtain ⟨w1, h1⟩ : ∃ w1, w1 = w.alloc (.cells #[.slice a n c, .bool false] 77) := ⟨_, rfl⟩
  obtain ⟨gx, hgx⟩ : ∃ gx, gx = w.heap.size := ⟨_, rfl⟩
  have hob : w1.heap[gx]? = some (.cells #[.slice a n c, .bool false] 77 (0, 0)) := by rw [h1, hgx]; exact heap_alloc_new w _
  have hs1 : Save [] w w1 := by rw [h1]; exact (Save.refl _ _).alloc _
  have x0 : w1.cell? ⟨gx, 0, none⟩ = some (.slice a n c) := by rw [cell_of_row w1 gx _ _ 77 (0, 0) hob]; rfl
  have x1 : w1.cell? ⟨gx, 1, none⟩ = some (.bool false) := by rw [cell_of_row w1 gx _ _ 77 (0, 0) hob]; rfl
  have hM1 := hM.save hs1 (by simp)
  have hP1 := hP.save hs1 (by simp)
  have HMP := Lib.hid hP1
  have d0 := hP1.on
  rw [ho] at d0
  have hgqlt := hP.lt
  have hgxq : gx ≠ gq := by omega
  have HU : Hid (∀ k, _) := Lib.hid fun k => mused_any (w1.drewN k) gm t F (hM1.save (Y := []) ((Save.refl _ _).drewN k) (by simp))
  obtain ⟨v, X, aW, aR, nW, cW, nR, cR, h⟩ := hM1
  have HH := Lib.hid h
  have hgmq : gm ≠ gq := by rintro rfl; exact hgq h.ft
  have c0 := h.cells.1
  have hr := h.roomle
  have hpl := h.pos_le
  have hps0 := h.pos_small
  have hu : t.used ≤ t.room := Nat.le_trans (usedOf_take_le _ _) h.fits
  obtain ⟨av, cv, hv0, hcv, hsh⟩ := h.shape
  obtain ⟨u, hu0⟩ : ∃ u, u = t.used := ⟨_, rfl⟩
  obtain ⟨r, hr0⟩ : ∃ r, r = t.room := ⟨_, rfl⟩
  obtain ⟨p, hp⟩ : ∃ p, p = t.pos := ⟨_, rfl⟩
  obtain ⟨pn, hpn⟩ : ∃ pn, pn = t.P.length := ⟨_, rfl⟩
  have HFIT := Lib.hid hfit
  rw [← hu0] at HU hfit hu
  rw [← hr0] at c0 hfit hr hu
  obtain ⟨u4, hu4⟩ : ∃ u4, u4 = u + 4 := ⟨_, rfl⟩
  have hw1 : IntKind.i64.wrap ((u : Int) + 4) = (u4 : Int) := by rw [IntKind.wrap_i64] <;> omega
  obtain ⟨q, hq⟩ : ∃ q, q = u4 + n := ⟨_, rfl⟩
  have hw2 : IntKind.i64.wrap ((u4 : Int) + (n : Int)) = (q : Int) := by rw [IntKind.wrap_i64] <;> omega
  have hle : q ≤ r := by omega
  have hd : decide (r < q) = false := by simp; omega
  obtain ⟨z, hz⟩ : ∃ z, z = 4 + n := ⟨_, rfl⟩
  have hw3 : IntKind.i64.wrap (4 + (n : Int)) = (z : Int) := by rw [IntKind.wrap_i64] <;> omega
  rw [← hz] at hW0 hE hM0
  rw [← hp] at hW0
  have hps : p ≤ 16777216 := by omega
  have hsl := sliceM_to av pn cv p .i64 (by omega)
  obtain ⟨s', hs'⟩ : ∃ s', s' = (s.write (z : Int)).1 := ⟨_, rfl⟩
  rw [← hs'] at hW0
  have hkq : ∀ k ∈ F, k ∉ [gq] := by
    intro k hk
    simp only [List.mem_singleton]
    rintro rfl
    exact hgq hk
  have HK : Hid (∀ W, Save [gq] w1 W → W.cell? ⟨gx, 0, none⟩ = some (.slice a n c) ∧ W.cell? ⟨gx, 1, none⟩ = some (.bool false) ∧ W.cell? ⟨gm, 2, none⟩ = some (.slice aW nW cW) ∧ W.cell? ⟨gm, 4, none⟩ = some (.slice av pn cv) ∧ W.cell? ⟨gm, 5, none⟩ = some (.int .i64 (p : Int)) ∧ W.frozen? ⟨gm, 4, none⟩ = false ∧ W.frozen? ⟨gm, 5, none⟩ = false) := by
    refine Lib.hid fun W hW => ?_
    have hx := h.save hW hkq
    have hb := (hW.block gx (lt_of_block hob) (by simpa using hgxq)).trans hob
    refine ⟨?_, ?_, hx.cells.2.1, by rw [hpn, ← hv0]; exact hx.cells.2.2.2.1, by rw [hp]; exact hx.cells.2.2.2.2, hx.soft 4, hx.soft 5⟩
    · rw [cell_of_row W gx _ _ 77 (0, 0) hb]; rfl
    · rw [cell_of_row W gx _ _ 77 (0, 0) hb]; rfl
  have HIN : Hid (∀ W : World, Save [gq] w1 W → Calls Try.prog 52 #[.slice aW nW cW, .int .i64 (p : Int)] W fun e w' => e = .returned (.bool (decide ((p : Int) ∈ t.nw))) ∧ w' = W) := Lib.hid fun W hW => min_any W aW nW cW t.nw p (h.save hW hkq).rw_ (by rw [← h.rw_.1]; exact hnw)
  have hlX : (X.take p).length = p := by rw [List.length_take, h.len]; omega
  have HCL : Hid ((cM (X.take p)).length = p * 2) := Lib.hid (by rw [cM_length, hlX])
  have HCS : Hid (∀ W, Save [gq] w1 W → 0 < p → ∃ ad, av = some ad ∧ ∀ j u, (cM (X.take p))[j]? = some u → W.cell? (ad.add j) = some u) := by
    refine Lib.hid fun W hW h0 => ?_
    have hx := h.save hW hkq
    rcases hx.row.2 with ⟨_, h2⟩ | ⟨g, cap, cur, hv, _, hgo, _, _, hcs, ht⟩
    · have := h.len; omega
    · rw [hv0] at hv
      injection hv with hv1 hv2 hv3
      refine ⟨_, hv1, fun j u hju => ?_⟩
      rw [add_plain, Nat.zero_add, cell_of_row W g j cur 77 (0, 0) hgo, ← Array.getElem?_toList]
      rw [← cM_take, ← ht, List.take_take] at hju
      have hj : j < min (p * 2) (X.length * 2) := by
        rcases Nat.lt_or_ge j (min (p * 2) (X.length * 2)) with h | h
        · exact h
        · rw [List.getElem?_eq_none (by rw [List.length_take]; omega)] at hju; cases hju
      rw [List.getElem?_take_of_lt hj] at hju
      exact hju
  have HWR : Hid (∀ W, MP W gq s → Calls Try.prog 51 #[.pointer (some ⟨gq, 0, none⟩), .int .i64 (z : Int)] W fun e w' => e = .returned (.tuple #[.int .i64 (s.write (z : Int)).2.1, .bool (decide ((s.write (z : Int)).2.2 ≠ 0))]) ∧ Hid (MP w' gq s' ∧ Save [gq] W w')) := by
    refine Lib.hid fun W hW => (mwrite_any W gq s z hW ho hok).mono ?_
    rintro e w' ⟨rfl, h2, h3⟩
    rw [hs']
    exact ⟨rfl, Lib.hid ⟨h2, h3⟩⟩
  have HRD : Hid (∀ W, Save [gq] w1 W → Rd W a n l) := Lib.hid fun W hW => hrd.off ((hs1.mono (by simp)).trans hW) (fun h0 b o e => by simpa using (hab h0 b o e).2.2)
  have HAB : Hid (∀ (W : World), Save [gq] w1 W → 0 < n → ∀ b o, a = some ⟨b, o, none⟩ → (b ∈ A ∨ w1.heap.size ≤ b) ∧ b ≠ gm ∧ b < W.heap.size) := by
    refine Lib.hid fun W hW h0 b o e => ⟨.inl (hab h0 b o e).1, (hab h0 b o e).2.1, ?_⟩
    obtain ⟨b', o', e', hc⟩ := hrd.2.2 h0
    have hlt : b' < w.heap.size := World.block_lt_of_cell? w _ (hc 0 h0)
    rw [e] at e'
    injection e' with e'
    injection e' with e'
    have h3 := hs1.size
    have h4 := hW.size
    omega
  have HS1 := Lib.hid (And.intro hs1 (And.intro hgq hgmq))
  have HW1 := Lib.hid (And.intro h1 hgx)
  have HN := Lib.hid (And.intro hp (And.intro hpn (And.intro hpl (And.intro hln hnc))))
  have hmx : p + 1 ≤ maxLen := by unfold maxLen; omega
  have hby : (p + 1) * 32 ≤ 140737488355328 := by omega
  have hwf0 : decide ((s.write (z : Int)).2.2 ≠ 0) = true := by rw [hE]; rfl
  rw [hwf0, hM0] at HWR
  have hne0 : ((n : Int) == 0) = false := by simp; omega
  rw [if_neg (by rw [hE]; decide), if_neg (by rw [hM0]; omega)] at hW0
  rw [hW0]
  obtain ⟨bb, hbb⟩ : ∃ bb, bb = decide ((p : Int) ∈ t.nw) := ⟨_, rfl⟩
  rw [← hbb] at HIN
  clear hM hP hP1 h hob hs1 h1 hgx hr hu hu0 hr0 hfit hu4 hq ho hok hgqlt hcv hsh hv0 hp hpn hpl hps0 hlX hrd hab hgq hgxq hkq hs' hgmq hnw hE hM0 hW0 hwf0 hz hln hnc hbb hn0
  go_enter Try.func25, Try.ntmps25
  go_upto_region 1 with fail
  rw [← HW1.out.1, ← HW1.out.2]
  go_upto_region 7 with fail
  go_quiet ((go_at_call 50; exact Calls.quiet_of_same (HU.out _)))
  obtain ⟨w2, hw2⟩ : ∃ w2, w2 = w1.drewN nq := ⟨_, rfl⟩
  rw [← hw2]
  have HS2 : Hid (Save [gq] w1 w2 ∧ MP w2 gq s) := by
    rw [hw2]
    exact Lib.hid ⟨(Save.refl _ _).drewN _, HMP.out.save (Y := []) ((Save.refl _ _).drewN _) (by simp)⟩
  clear hw2 x0 x1 d0 c0
  obtain ⟨y0, y1, e2, e4, e5, f4, f5⟩ := HK.out w2 HS2.out.1
  go_wp2_with fail
  refine (HWR.out w2 HS2.out.2).mono ?_
  rintro e w3 ⟨rfl, H3⟩
  have HS3 : Hid (Save [gq] w1 w3) := Lib.hid (HS2.out.1.trans H3.out.2)
  clear y0 y1 e2 e4 e5 f4 f5
  obtain ⟨y0, y1, e2, e4, e5, f4, f5⟩ := HK.out w3 HS3.out
  go_upto_region 10 with fail
  go_region_held3 (fun W => W.cell? ⟨gm, 4, none⟩ = some (.slice av pn cv) ∧ W.cell? ⟨gm, 5, none⟩ = some (.int .i64 (p : Int)))
    (first | exact ⟨e4, e5⟩ | exact ⟨Lib.cell?_alloc_some _ e4, Lib.cell?_alloc_some _ e5⟩ | exact ⟨k4, k5⟩ | go_keep)
    (first
      | (refine step_copyM (by rfl) _ _ (by rfl) w3.heap.size (by rfl) av p cv (by rfl) (heap_alloc_new w3 _) (cM (X.take p)) HCL.out (HCS.out _ ?_) (cM_one _) hps ?_; exact (HS3.out.alloc _).drew; intro gg cap w5 hown hgrow hloc hlt; have HS5 := Lib.hid (And.intro ((((Save.refl [] w3).alloc _).drew).grown hgrow (Nat.le_refl _)) (And.intro (show w3.heap.size ≤ gg from hloc.elim (fun e => Nat.le_of_eq e.symm) (fun h => Nat.le_trans (by simp) h)) hown)); obtain ⟨_, _, _, k4, k5, _, _⟩ := HK.out w5 (HS3.out.none HS5.out.1); clear hown hgrow hloc hlt))
  clear k4 k5 y0 y1 e2 e4 e5 f4 f5
  obtain ⟨y0, y1, e2, e4, e5, f4, f5⟩ := HK.out w5 (HS3.out.none HS5.out.1)
  go_upto_region 11 with fail
  go_quiet ((go_at_call 52; exact Calls.quiet_of_same (HIN.out _ ((HS3.out.none HS5.out.1).drewN _))))
  obtain ⟨w6, hw6⟩ : ∃ w6, w6 = w5.drewN nq := ⟨_, rfl⟩
  rw [← hw6]
  have HS6 : Hid (Save [gq] w1 w6 ∧ w1.heap.size ≤ gg ∧ w6.ownsRow 0 77 2 (.slice (some ⟨gg, 0, none⟩) p cap) p (cM (X.take p)) ∧ MP w6 gq s') := by
    rw [hw6]
    exact Lib.hid ⟨(HS3.out.none HS5.out.1).drewN _, Nat.le_trans HS3.out.size HS5.out.2.1, HS5.out.2.2, H3.out.1.save (HS5.out.1.drewN _) (by simp)⟩
  clear hw6 y0 y1 e2 e4 e5 f4 f5 HS5 H3 HS3 HS2
  obtain ⟨y0, y1, e2, e4, e5, f4, f5⟩ := HK.out w6 HS6.out.1
  go_wp2
  go_ret
  obtain ⟨⟨F', m1, m2⟩, m3⟩ := mend0 (A := A) HH.out HS1.out.1 HS1.out.2.1 HS6.out.1 HS6.out.2.1 HS6.out.2.2.1 HN.out.1
  exact ⟨rfl, F', m1, HS6.out.2.2.2.save (Save.set _ gm 4 _) (by simpa using Ne.symm HS1.out.2.2), m3, m2⟩
set_option maxHeartbeats 4000000 in
theorem mroom_torn (w : World) (gm gq : Nat) (s : Pw) (t : Tst) (F A : List Nat) (hM : Mta w gm t F) (hP : MP w gq s) (hgq : gq ∉ F) (a : Option Addr) (n c : Nat) (l : List Nat) (hrd : Rd w a n l) (hab : 0 < n → ∀ b o, a = some ⟨b, o, none⟩ → b ∈ A ∧ b ≠ gm ∧ b ≠ gq) (hnc : n ≤ c) (ho : s.on = true) (hok : s.ok) (hn : n ≤ 200) (hn0 : 0 < n) (hfit : t.used + (4 + n) ≤ t.room) (hnw : t.nw.length ≤ 1000000) (k : Nat) (hkn : k ≤ 4 + n) (hE : (s.write ((4 + n : Nat) : Int)).2.2 = 11) (hM0 : (s.write ((4 + n : Nat) : Int)).2.1 = (k : Int)) (hk4 : 4 < k) :
    Calls Try.prog 25 #[.pointer (some ⟨gm, 0, none⟩), .pointer (some ⟨gq, 0, none⟩), .agg #[.slice a n c, .bool false]] w fun e w' => e = .returned (.int .i64 ((Tst.write s t l).2.2 : Int)) ∧ ∃ F', Mta w' gm (Tst.write s t l).2.1 F' ∧ MP w' gq (Tst.write s t l).1 ∧ Save [gm, gq] w w' ∧ ∀ k ∈ F', k ∈ F ∨ k ∈ A ∨ w.heap.size ≤ k := by
  obtain ⟨i0, hi0, hz0, hz1, hz2⟩ := info_parts infoM
  have hln := hrd.1
  have hW0 : Tst.write s t l = if (s.write ((4 + n : Nat) : Int)).2.2 = 0 then
      if (t.pos : Int) ∈ t.nw then ((s.write ((4 + n : Nat) : Int)).1, t.cut, 8)
      else ((s.write ((4 + n : Nat) : Int)).1, { t.cut.add l with pos := t.pos + 1 }, 0)
    else if 4 < (s.write ((4 + n : Nat) : Int)).2.1 then ((s.write ((4 + n : Nat) : Int)).1, t.cut.add (l.take ((s.write ((4 + n : Nat) : Int)).2.1.toNat - 4)), 11)
    else ((s.write ((4 + n : Nat) : Int)).1, t.cut, 11) := by
    unfold Tst.write
    rw [hln, if_neg (by simp [ho]), if_neg (by omega)]
  obtain ⟨w1, h1⟩ : ∃ w1, w1 = w.alloc (.cells #[.slice a n c, .bool false] 77) := ⟨_, rfl⟩
  obtain ⟨gx, hgx⟩ : ∃ gx, gx = w.heap.size := ⟨_, rfl⟩
  have hob : w1.heap[gx]? = some (.cells #[.slice a n c, .bool false] 77 (0, 0)) := by rw [h1, hgx]; exact heap_alloc_new w _
  have hs1 : Save [] w w1 := by rw [h1]; exact (Save.refl _ _).alloc _
  have x0 : w1.cell? ⟨gx, 0, none⟩ = some (.slice a n c) := by rw [cell_of_row w1 gx _ _ 77 (0, 0) hob]; rfl
  have x1 : w1.cell? ⟨gx, 1, none⟩ = some (.bool false) := by rw [cell_of_row w1 gx _ _ 77 (0, 0) hob]; rfl
  have hM1 := hM.save hs1 (by simp)
  have hP1 := hP.save hs1 (by simp)
  have HMP := Lib.hid hP1
  have d0 := hP1.on
  rw [ho] at d0
  have hgqlt := hP.lt
  have hgxq : gx ≠ gq := by omega
  have HU : Hid (∀ k, _) := Lib.hid fun k => mused_any (w1.drewN k) gm t F (hM1.save (Y := []) ((Save.refl _ _).drewN k) (by simp))
  obtain ⟨v, X, aW, aR, nW, cW, nR, cR, h⟩ := hM1
  have HH := Lib.hid h
  have hgmq : gm ≠ gq := by rintro rfl; exact hgq h.ft
  have c0 := h.cells.1
  have hr := h.roomle
  have hpl := h.pos_le
  have hps0 := h.pos_small
  have hu : t.used ≤ t.room := Nat.le_trans (usedOf_take_le _ _) h.fits
  obtain ⟨av, cv, hv0, hcv, hsh⟩ := h.shape
  obtain ⟨u, hu0⟩ : ∃ u, u = t.used := ⟨_, rfl⟩
  obtain ⟨r, hr0⟩ : ∃ r, r = t.room := ⟨_, rfl⟩
  obtain ⟨p, hp⟩ : ∃ p, p = t.pos := ⟨_, rfl⟩
  obtain ⟨pn, hpn⟩ : ∃ pn, pn = t.P.length := ⟨_, rfl⟩
  have HFIT := Lib.hid hfit
  rw [← hu0] at HU hfit hu
  rw [← hr0] at c0 hfit hr hu
  obtain ⟨u4, hu4⟩ : ∃ u4, u4 = u + 4 := ⟨_, rfl⟩
  have hw1 : IntKind.i64.wrap ((u : Int) + 4) = (u4 : Int) := by rw [IntKind.wrap_i64] <;> omega
  obtain ⟨q, hq⟩ : ∃ q, q = u4 + n := ⟨_, rfl⟩
  have hw2 : IntKind.i64.wrap ((u4 : Int) + (n : Int)) = (q : Int) := by rw [IntKind.wrap_i64] <;> omega
  have hle : q ≤ r := by omega
  have hd : decide (r < q) = false := by simp; omega
  obtain ⟨z, hz⟩ : ∃ z, z = 4 + n := ⟨_, rfl⟩
  have hw3 : IntKind.i64.wrap (4 + (n : Int)) = (z : Int) := by rw [IntKind.wrap_i64] <;> omega
  rw [← hz] at hW0 hE hM0
  rw [← hp] at hW0
  have hps : p ≤ 16777216 := by omega
  have hsl := sliceM_to av pn cv p .i64 (by omega)
  obtain ⟨s', hs'⟩ : ∃ s', s' = (s.write (z : Int)).1 := ⟨_, rfl⟩
  rw [← hs'] at hW0
  have hkq : ∀ k ∈ F, k ∉ [gq] := by
    intro k hk
    simp only [List.mem_singleton]
    rintro rfl
    exact hgq hk
  have HK : Hid (∀ W, Save [gq] w1 W → W.cell? ⟨gx, 0, none⟩ = some (.slice a n c) ∧ W.cell? ⟨gx, 1, none⟩ = some (.bool false) ∧ W.cell? ⟨gm, 2, none⟩ = some (.slice aW nW cW) ∧ W.cell? ⟨gm, 4, none⟩ = some (.slice av pn cv) ∧ W.cell? ⟨gm, 5, none⟩ = some (.int .i64 (p : Int)) ∧ W.frozen? ⟨gm, 4, none⟩ = false ∧ W.frozen? ⟨gm, 5, none⟩ = false) := by
    refine Lib.hid fun W hW => ?_
    have hx := h.save hW hkq
    have hb := (hW.block gx (lt_of_block hob) (by simpa using hgxq)).trans hob
    refine ⟨?_, ?_, hx.cells.2.1, by rw [hpn, ← hv0]; exact hx.cells.2.2.2.1, by rw [hp]; exact hx.cells.2.2.2.2, hx.soft 4, hx.soft 5⟩
    · rw [cell_of_row W gx _ _ 77 (0, 0) hb]; rfl
    · rw [cell_of_row W gx _ _ 77 (0, 0) hb]; rfl
  have HIN : Hid (∀ W : World, Save [gq] w1 W → Calls Try.prog 52 #[.slice aW nW cW, .int .i64 (p : Int)] W fun e w' => e = .returned (.bool (decide ((p : Int) ∈ t.nw))) ∧ w' = W) := Lib.hid fun W hW => min_any W aW nW cW t.nw p (h.save hW hkq).rw_ (by rw [← h.rw_.1]; exact hnw)
  have hlX : (X.take p).length = p := by rw [List.length_take, h.len]; omega
  have HCL : Hid ((cM (X.take p)).length = p * 2) := Lib.hid (by rw [cM_length, hlX])
  have HCS : Hid (∀ W, Save [gq] w1 W → 0 < p → ∃ ad, av = some ad ∧ ∀ j u, (cM (X.take p))[j]? = some u → W.cell? (ad.add j) = some u) := by
    refine Lib.hid fun W hW h0 => ?_
    have hx := h.save hW hkq
    rcases hx.row.2 with ⟨_, h2⟩ | ⟨g, cap, cur, hv, _, hgo, _, _, hcs, ht⟩
    · have := h.len; omega
    · rw [hv0] at hv
      injection hv with hv1 hv2 hv3
      refine ⟨_, hv1, fun j u hju => ?_⟩
      rw [add_plain, Nat.zero_add, cell_of_row W g j cur 77 (0, 0) hgo, ← Array.getElem?_toList]
      rw [← cM_take, ← ht, List.take_take] at hju
      have hj : j < min (p * 2) (X.length * 2) := by
        rcases Nat.lt_or_ge j (min (p * 2) (X.length * 2)) with h | h
        · exact h
        · rw [List.getElem?_eq_none (by rw [List.length_take]; omega)] at hju; cases hju
      rw [List.getElem?_take_of_lt hj] at hju
      exact hju
  have HWR : Hid (∀ W, MP W gq s → Calls Try.prog 51 #[.pointer (some ⟨gq, 0, none⟩), .int .i64 (z : Int)] W fun e w' => e = .returned (.tuple #[.int .i64 (s.write (z : Int)).2.1, .bool (decide ((s.write (z : Int)).2.2 ≠ 0))]) ∧ Hid (MP w' gq s' ∧ Save [gq] W w')) := by
    refine Lib.hid fun W hW => (mwrite_any W gq s z hW ho hok).mono ?_
    rintro e w' ⟨rfl, h2, h3⟩
    rw [hs']
    exact ⟨rfl, Lib.hid ⟨h2, h3⟩⟩
  have HRD : Hid (∀ W, Save [gq] w1 W → Rd W a n l) := Lib.hid fun W hW => hrd.off ((hs1.mono (by simp)).trans hW) (fun h0 b o e => by simpa using (hab h0 b o e).2.2)
  have HAB : Hid (∀ (W : World), Save [gq] w1 W → 0 < n → ∀ b o, a = some ⟨b, o, none⟩ → (b ∈ A ∨ w1.heap.size ≤ b) ∧ b ≠ gm ∧ b < W.heap.size) := by
    refine Lib.hid fun W hW h0 b o e => ⟨.inl (hab h0 b o e).1, (hab h0 b o e).2.1, ?_⟩
    obtain ⟨b', o', e', hc⟩ := hrd.2.2 h0
    have hlt : b' < w.heap.size := World.block_lt_of_cell? w _ (hc 0 h0)
    rw [e] at e'
    injection e' with e'
    injection e' with e'
    have h3 := hs1.size
    have h4 := hW.size
    omega
  have HS1 := Lib.hid (And.intro hs1 (And.intro hgq hgmq))
  have HW1 := Lib.hid (And.intro h1 hgx)
  have HN := Lib.hid (And.intro hp (And.intro hpn (And.intro hpl (And.intro hln hnc))))
  have hmx : p + 1 ≤ maxLen := by unfold maxLen; omega
  have hby : (p + 1) * 32 ≤ 140737488355328 := by omega
  have hwf0 : decide ((s.write (z : Int)).2.2 ≠ 0) = true := by rw [hE]; rfl
  rw [hwf0, hM0] at HWR
  have hne0 : ((n : Int) == 0) = false := by simp; omega
  rw [if_neg (by rw [hE]; decide), if_pos (by rw [hM0]; omega), hM0] at hW0
  obtain ⟨j, hj⟩ : ∃ j, j = k - 4 := ⟨_, rfl⟩
  rw [show ((k : Int).toNat - 4) = j by omega] at hW0
  rw [hW0]
  have hw6' : IntKind.i64.wrap ((k : Int) - 4) = (j : Int) := by rw [IntKind.wrap_i64] <;> omega
  have hjn' : j ≤ n := by omega
  have hj0 : 0 < j := by omega
  have hsl2 := slice_to a n c j .i64 (by omega)
  obtain ⟨bb, hbb⟩ : ∃ bb, bb = decide ((p : Int) ∈ t.nw) := ⟨_, rfl⟩
  rw [← hbb] at HIN
  clear hM hP hP1 h hob hs1 h1 hgx hr hu hu0 hr0 hfit hu4 hq ho hok hgqlt hcv hsh hv0 hp hpn hpl hps0 hlX hrd hab hgq hgxq hkq hs' hgmq hnw hE hM0 hW0 hwf0 hz hln hnc hbb hn0 hj hkn
  go_enter Try.func25, Try.ntmps25
  go_upto_region 1 with fail
  rw [← HW1.out.1, ← HW1.out.2]
  go_upto_region 7 with fail
  go_quiet ((go_at_call 50; exact Calls.quiet_of_same (HU.out _)))
  obtain ⟨w2, hw2⟩ : ∃ w2, w2 = w1.drewN nq := ⟨_, rfl⟩
  rw [← hw2]
  have HS2 : Hid (Save [gq] w1 w2 ∧ MP w2 gq s) := by
    rw [hw2]
    exact Lib.hid ⟨(Save.refl _ _).drewN _, HMP.out.save (Y := []) ((Save.refl _ _).drewN _) (by simp)⟩
  clear hw2 x0 x1 d0 c0
  obtain ⟨y0, y1, e2, e4, e5, f4, f5⟩ := HK.out w2 HS2.out.1
  go_wp2_with fail
  refine (HWR.out w2 HS2.out.2).mono ?_
  rintro e w3 ⟨rfl, H3⟩
  have HS3 : Hid (Save [gq] w1 w3) := Lib.hid (HS2.out.1.trans H3.out.2)
  clear y0 y1 e2 e4 e5 f4 f5
  obtain ⟨y0, y1, e2, e4, e5, f4, f5⟩ := HK.out w3 HS3.out
  go_upto_region 10 with fail
  go_region_held3 (fun W => W.cell? ⟨gm, 4, none⟩ = some (.slice av pn cv) ∧ W.cell? ⟨gm, 5, none⟩ = some (.int .i64 (p : Int)))
    (first | exact ⟨e4, e5⟩ | exact ⟨Lib.cell?_alloc_some _ e4, Lib.cell?_alloc_some _ e5⟩ | exact ⟨k4, k5⟩ | go_keep)
    (first
      | (refine step_copyM (by rfl) _ _ (by rfl) w3.heap.size (by rfl) av p cv (by rfl) (heap_alloc_new w3 _) (cM (X.take p)) HCL.out (HCS.out _ ?_) (cM_one _) hps ?_; exact (HS3.out.alloc _).drew; intro gg cap w5 hown hgrow hloc hlt; have HS5 := Lib.hid (And.intro ((((Save.refl [] w3).alloc _).drew).grown hgrow (Nat.le_refl _)) (And.intro (show w3.heap.size ≤ gg from hloc.elim (fun e => Nat.le_of_eq e.symm) (fun h => Nat.le_trans (by simp) h)) hown)); obtain ⟨_, _, _, k4, k5, _, _⟩ := HK.out w5 (HS3.out.none HS5.out.1); clear hown hgrow hloc hlt))
  clear k4 k5 y0 y1 e2 e4 e5 f4 f5
  obtain ⟨y0, y1, e2, e4, e5, f4, f5⟩ := HK.out w5 (HS3.out.none HS5.out.1)
  go_upto_region 11 with fail
  go_quiet ((go_at_call 52; exact Calls.quiet_of_same (HIN.out _ ((HS3.out.none HS5.out.1).drewN _))))
  obtain ⟨w6, hw6⟩ : ∃ w6, w6 = w5.drewN nq := ⟨_, rfl⟩
  rw [← hw6]
  have HS6 : Hid (Save [gq] w1 w6 ∧ w1.heap.size ≤ gg ∧ w6.ownsRow 0 77 2 (.slice (some ⟨gg, 0, none⟩) p cap) p (cM (X.take p)) ∧ MP w6 gq s') := by
    rw [hw6]
    exact Lib.hid ⟨(HS3.out.none HS5.out.1).drewN _, Nat.le_trans HS3.out.size HS5.out.2.1, HS5.out.2.2, H3.out.1.save (HS5.out.1.drewN _) (by simp)⟩
  clear hw6 y0 y1 e2 e4 e5 f4 f5 HS5 H3 HS3 HS2
  obtain ⟨y0, y1, e2, e4, e5, f4, f5⟩ := HK.out w6 HS6.out.1
  have y0a := fun o => Lib.cell?_alloc_some (W := w6) o y0
  go_wp2_with (at_builtin; refine wpList_fresh rfl (.tmp 74) (.tmp 79) rfl w6.heap.size rfl a j c rfl (heap_alloc_new w6 _) (l.take j) (((HRD.out w6 HS6.out.1).first hjn').later (Below.alloc0 _ _)) (by omega) ?nx0)
  case nx0 =>
    intro g7 c7 w7 hg7 hO7 hgr7
    have hb7 : Below w6.heap.size w6 w7 := (Below.alloc0 w6 _).grown hgr7 (by simp) (by simp)
    have hs67 : Save [] w6 w7 := Save.of_below hb7 _
    have hO2 : w7.ownsRow 0 77 2 (.slice (some ⟨gg, 0, none⟩) p cap) p (cM (X.take p)) := by
      obtain ⟨h0, h1⟩ := HS6.out.2.2.1
      refine ⟨h0, h1.imp id ?_⟩
      rintro ⟨g, cap', cur, hv, hx, hg, rest⟩
      exact ⟨g, cap', cur, hv, hx, (hs67.block g (lt_of_block hg) (by simp)).trans hg, rest⟩
    have HS7 := Lib.hid (And.intro hs67 (And.intro hg7 (And.intro hO7 hO2)))
    clear hb7 hg7 hO7 hgr7 hs67 hO2 y0a y0 y1 e2 e4 e5 f4 f5
    go_wp2_with (at_builtin; refine wpList_append_lies _ rfl (.tmp 73) (.tmp 82) 55 rfl 0 77 i0 _ 2 32 Try.underlying55 hi0 hz0 hz1 hz2 rfl (by omega) (.slice (some ⟨gg, 0, none⟩) p cap) p (cM (X.take p)) rfl ?own ⟨w7.heap.size, 0, none⟩ 1 1 [.slice (some ⟨g7, 0, none⟩) j c7, .bool false] rfl rfl (World.news_of_block (cs := #[.slice (some ⟨g7, 0, none⟩) j c7, .bool false]) (t := 77) (fr := (0, 0)) (heap_alloc_new w7 _)) (by simp [Value.oneCell']) (by omega) hmx hby (Nat.zero_le _) _ rfl ?nxt)
    case own => exact HS7.out.2.2.2.alloc _
    case nxt =>
      intro g8 cap8 w8 hown hgrow hloc hlt
      have HO8 := Lib.hid hown
      have hS7 : Save [gq] w1 w7 := HS6.out.1.none HS7.out.1
      have hS8 : Save [gq] w1 w8 := (hS7.alloc _).grown hgrow HS6.out.2.1
      have hg8 : w1.heap.size ≤ g8 := hloc.elim (fun e => by injection e with e; have e' : gg = g8 := e; have := HS6.out.2.1; omega) (fun e => by have := hS7.size; first | omega | (simp at e; omega))
      have hgglt : gg < w6.heap.size := (HS6.out.2.2.1.lt gg rfl).2
      have hlt7 : g7 < w7.heap.size := (HS7.out.2.2.1.2.lt g7 rfl).2
      have hold : ∀ b, b < w7.heap.size → b ≠ gg → w8.heap[b]? = w7.heap[b]? := fun b hb hne => (hgrow.block b (by simp; omega) (fun e => by injection e with e; exact hne e)).trans (heap_alloc_old w7 _ hb)
      have HMP8 : Hid (MP w8 gq s') := by
        obtain ⟨tt, h1, h2⟩ := HS6.out.2.2.2.save HS7.out.1 (by simp)
        have hlt6 := lt_of_block h1
        refine Lib.hid ⟨tt, ?_, h2⟩
        rw [hold gq hlt6 (by have := HS6.out.2.1; have := HMP.out.lt; omega)]
        exact h1
      have hlen : (l.take j).length = j := by rw [List.length_take, HN.out.2.2.2.1]; omega
      have hr7 := HS7.out.2.2.1.asSlice1 hlen
      have hc7 : j ≤ c7 := by
        obtain ⟨a', c', hv, _, hc⟩ := HS7.out.2.2.1.sl
        injection hv with _ _ h3
        omega
      have hr8 : Rd w8 (some ⟨g7, 0, none⟩) j (l.take j) := by
        refine ⟨hr7.1, hr7.2.1, fun h0 => ?_⟩
        obtain ⟨b, o, e, hc⟩ := hr7.2.2 h0
        refine ⟨b, o, e, fun i hi => ?_⟩
        rw [← hc i hi]
        injection e with e
        injection e with e
        subst e
        simp only [World.cell?, hold g7 hlt7 (by have := HS7.out.2.1; omega)]
      have hs78 : w7.heap.size ≤ w8.heap.size := Nat.le_trans (by simp) hgrow.size
      have HG8 := Lib.hid (And.intro hS8 (And.intro hg8 (And.intro hr8 (And.intro hlen (And.intro hc7 (And.intro hlt7 hs78))))))
      clear hown hgrow hloc hlt hS8 hg8 hS7 hgglt hlt7 hold hlen hr7 hc7 hr8 hs78
      obtain ⟨y0, y1, e2, e4, e5, f4, f5⟩ := HK.out w8 HG8.out.1
      go_wp2
      go_ret
      obtain ⟨hS8, hg8, hr8, hlen, hc7, hlt7, hs78⟩ := HG8.out
      obtain ⟨⟨F', X9, m1, m2⟩, m3⟩ := mend1 (A := A) HH.out HS1.out.1 HS1.out.2.1 hS8 hg8 ⟨some ⟨g7, 0, none⟩, c7, l.take j⟩ (by
          have e1 : mcC ⟨some ⟨g7, 0, none⟩, c7, l.take j⟩ = [.slice (some ⟨g7, 0, none⟩) j c7, .bool false] := by
            simp only [mcC, hlen]
            have : (j == 0) = false := by simp; omega
            rw [this]
          rw [e1]; exact HO8.out) HN.out.1 (by simp only [hlen]; exact hr8) (by simp only [hlen]; exact hc7) (by
          intro _ b o e
          injection e with e
          injection e with e
          subst e
          have h5 := HS6.out.1.size
          have h6 := HS7.out.2.1
          have h7 := lt_of_block HH.out.obj
          exact ⟨.inr (by omega), by omega, by omega⟩) (by simp only [hlen]; have := HFIT.out; omega)
      exact ⟨rfl, F', ⟨_, _, _, _, _, _, _, _, m1⟩, HMP8.out.save (Save.set _ gm 4 _) (by simpa using Ne.symm HS1.out.2.2), m3, m2⟩
end Go.Proofs.Ytcmbnijjkpfhlaa
