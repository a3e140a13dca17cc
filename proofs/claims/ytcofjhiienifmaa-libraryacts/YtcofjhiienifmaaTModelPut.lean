/- The document's own tape: Put. -/
import Derived.Test.YtcofjhiienifmaaTModelGet
import Derived.Deep.RegionLaw
namespace Go.Proofs.Ytcofjhiienifmaa
open Go.RowKit
set_option linter.unusedSimpArgs false

theorem infoM : (Try.prog.info? 73).map (fun i => (i.zero, i.size, i.bytes)) = some (some (.agg #[.slice none 0 0, .bool false]), 2, 32) := by kernel_rfl

theorem elemM : Try.prog.elem 45 = 73 := by kernel_rfl

theorem sliceM_to (a : Option Addr) (n c k : Nat) (q : IntKind) (hk : k ≤ c) (w : World) :
    (Instr.slice 45 (.slice a n c) none (some (.int q (k : Int))) none).run Try.prog w = .ok (.slice a k c) w := by
  obtain ⟨i0, hi0, hz0, hz1, hz2⟩ := info_parts infoM
  rw [run_slice_h w 45 a n c (by kernel_rfl) q k (by omega) (by omega)]
  simp [sizeOf, typeInfo, elemM, hi0, sliced]
  intro _
  cases a <;> simp [Addr.add]

/-- The first pieces, appended to an empty row. -/
theorem run_copyM (W : World) (g0 : Nat) (hg : W.heap[g0]? = some (.cells #[] 73 (0, 0))) (A : Option Addr) (k c : Nat) (cs : List Value) (hl : cs.length = k * 2)
    (hA : 0 < k → ∃ ad, A = some ad ∧ ∀ j u, cs[j]? = some u → W.cell? (ad.add j) = some u) (h1 : ∀ u ∈ cs, u.oneCell' = true) (hk : k ≤ 16777216) (ty : TypeId) :
    ∃ gg cap W', (Builtin.append_ #[45, 45] ty #[.slice (some ⟨g0, 0, none⟩) 0 0, .slice A k c]).run Try.prog W = .ok (.slice (some ⟨gg, 0, none⟩) k cap) W' ∧ W'.ownsRow 0 73 2 (.slice (some ⟨gg, 0, none⟩) k cap) k cs ∧ W.grownBy W' (some g0) ∧ (gg = g0 ∨ W.heap.size ≤ gg) ∧ gg < W'.heap.size := by
  obtain ⟨i0, hi0, hz0, hz1, hz2⟩ := info_parts infoM
  have h0 : W.ownsRow 0 73 2 (.slice (some ⟨g0, 0, none⟩) 0 0) 0 [] := ⟨rfl, .inr ⟨g0, 0, #[], rfl, Nat.zero_le _, hg, Nat.le_refl _, Nat.zero_le _, rfl, rfl⟩⟩
  rcases Nat.eq_zero_or_pos k with hk0 | hk0
  · subst hk0
    have : cs = [] := List.eq_nil_of_length_eq_zero (by omega)
    subst this
    refine ⟨g0, 0, W, ?_, h0, World.grownBy.refl _ _, .inl rfl, lt_of_block hg⟩
    cases A <;> simp [Builtin.append_, run_underlying Try.underlying45, sizeOf, typeInfo, hi0, Builtin.lenOf, Builtin.firstCells, storeCells, loadCells, loadCellsFrom]
  · obtain ⟨ad, rfl, hc⟩ := hA hk0
    obtain ⟨v', w', hrun, h2, h3, h4, h5⟩ := run_append_own_at (P := Try.prog) W 0 45 ty 73 i0 _ 2 32 Try.underlying45 hi0 hz0 hz1 hz2 rfl (by omega) (.slice (some ⟨g0, 0, none⟩) 0 0) 0 [] h0 ad k c cs hl hc h1 (by unfold maxLen; omega) (by omega) (Nat.zero_le _)
    simp only [Nat.zero_add, List.nil_append] at h2
    obtain ⟨gg, cap, rfl, hlt⟩ : ∃ gg cap, v' = .slice (some ⟨gg, 0, none⟩) k cap ∧ gg < w'.heap.size := by
      rcases h2.2 with ⟨_, h⟩ | ⟨g, cap, cur, hv, _, hgo, _⟩
      · omega
      · exact ⟨g, cap, hv, lt_of_block hgo⟩
    refine ⟨gg, cap, w', hrun, h2, h3, ?_, hlt⟩
    rcases h5 with h5 | h5
    · injection h5 with h5
      exact .inl h5
    · injection h5 with h5
      exact .inr (Nat.le_of_eq h5.symm)

theorem step_copyM {ops : Array Oper} {o : Oper} {a : Act} {W : World} {K : Act → World → Prop} {Q : Exit → Act → World → Prop} {E : Prop} (hgd : o.guard = none) (s x : Operand)
    (ho : o.op = .call { callee := .builtin .append, args := #[s, x], argTypes := #[45, 45] }) (g0 : Nat) (hs : a.eval s = .slice (some ⟨g0, 0, none⟩) 0 0) (A : Option Addr) (k c : Nat) (hx : a.eval x = .slice A k c)
    (hg : W.heap[g0]? = some (.cells #[] 73 (0, 0))) (cs : List Value) (hl : cs.length = k * 2) (hA : 0 < k → ∃ ad, A = some ad ∧ ∀ j u, cs[j]? = some u → W.cell? (ad.add j) = some u) (h1 : ∀ u ∈ cs, u.oneCell' = true) (hk : k ≤ 16777216)
    (h : ∀ gg cap W', W'.ownsRow 0 73 2 (.slice (some ⟨gg, 0, none⟩) k cap) k cs → W.grownBy W' (some g0) → (gg = g0 ∨ W.heap.size ≤ gg) → gg < W'.heap.size → K (a.put o.dst (.slice (some ⟨gg, 0, none⟩) k cap)) W') :
    if Region.wanted o (yielded ops a.tmps) = true then Oper.wp Try.prog o a W K Q else E := by
  have hw : Region.wanted o (yielded ops a.tmps) = true := by simp [Region.wanted, hgd]
  rw [if_pos hw]
  obtain ⟨gg, cap, W', hrun, h2, h3, h4, h5⟩ := run_copyM W g0 hg A k c cs hl hA h1 hk o.type
  unfold Oper.wp execOp
  simp only [ho, resolve, invoke, builtin, Sem.run_bind, Sem.run_pure, Result.andThen_ok, List.map_toArray, List.map_cons, List.map_nil, hs, hx, hrun]
  exact h gg cap W' h2 h3 h4 h5

/-- The document's tape with its pieces laid anew. -/
theorem Mt.lay {w w' : World} {gm gq : Nat} {t : Tst} {F A : List Nat} {v v' : Value} {X X' : List MC} {aW aR : Option Addr} {nW cW nR cR : Nat} (h : Mt w gm t F v X aW aR nW cW nR cR) {P' : List (List Nat)} {pos' : Nat}
    (hobj : w'.heap[gm]? = some (mtObj t.room t.early (.slice aW nW cW) (.slice aR nR cR) v' pos')) (hrow : w'.ownsRow 0 73 2 v' X'.length (cM X')) (hl : X'.map MC.l = P') (hpos : pos' ≤ P'.length) (hfits : usedOf P' ≤ t.room)
    (hsz : w.heap.size ≤ w'.heap.size) (hgq : gq ∉ F) (hk : ∀ k, k < w.heap.size → k ≠ gm → k ≠ gq → w'.heap[k]? = w.heap[k]?)
    (hpcs : ∀ p ∈ X', p ∈ X ∨ (Rd w' p.a p.l.length p.l ∧ p.l.length ≤ p.c ∧ (0 < p.l.length → ∀ b o, p.a = some ⟨b, o, none⟩ → (b ∈ A ∨ w.heap.size ≤ b) ∧ b ≠ gm ∧ b < w'.heap.size)))
    (hv : ∀ g, v'.ownBlock = some g → w.heap.size ≤ g) :
    ∃ F', Mt w' gm { t with P := P', pos := pos' } F' v' X' aW aR nW cW nR cR ∧ ∀ k ∈ F', k ∈ F ∨ k ∈ A ∨ w.heap.size ≤ k := by
  have hold : ∀ b, b ∈ F → b ≠ gm → w'.heap[b]? = w.heap[b]? := fun b hb hne => hk b (h.fl b hb) hne (by rintro rfl; exact hgq hb)
  have hall : ∀ p ∈ X', Rd w' p.a p.l.length p.l ∧ p.l.length ≤ p.c ∧ (0 < p.l.length → ∀ b o, p.a = some ⟨b, o, none⟩ → (b ∈ F ∨ b ∈ A ∨ w.heap.size ≤ b) ∧ b ≠ gm ∧ b < w'.heap.size) := by
    intro p hp
    rcases hpcs p hp with hX | ⟨h1, h2, h3⟩
    · obtain ⟨h1, h2, h3⟩ := h.pcs p hX
      refine ⟨⟨h1.1, h1.2.1, fun hn => ?_⟩, h2, fun hn b o e => ⟨.inl (h3 hn b o e).1, (h3 hn b o e).2, Nat.lt_of_lt_of_le (h.fl b (h3 hn b o e).1) hsz⟩⟩
      obtain ⟨b, o, e, hc⟩ := h1.2.2 hn
      refine ⟨b, o, e, fun j hj => ?_⟩
      rw [← hc j hj]
      simp only [World.cell?, hold b (h3 hn b o e).1 (h3 hn b o e).2]
    · exact ⟨h1, h2, fun hn b o e => ⟨.inr (h3 hn b o e).1, (h3 hn b o e).2⟩⟩
  obtain ⟨bl, hbl1, hbl2⟩ : ∃ bl : List Nat, (∀ k ∈ bl, (k ∈ F ∨ k ∈ A ∨ w.heap.size ≤ k) ∧ k < w'.heap.size) ∧ (∀ p ∈ X', 0 < p.l.length → ∀ b o, p.a = some ⟨b, o, none⟩ → b ∈ bl) := by
    clear hpcs hrow hl hobj
    induction X' with
    | nil => exact ⟨[], by simp, by simp⟩
    | cons p r ih =>
      obtain ⟨bl, h1, h2⟩ := ih (fun p hp => hall p (by simp [hp]))
      by_cases hn : 0 < p.l.length
      · obtain ⟨b, o, e, _⟩ := (hall p (by simp)).1.2.2 hn
        obtain ⟨h3, _, h5⟩ := (hall p (by simp)).2.2 hn b o e
        refine ⟨b :: bl, ?_, ?_⟩
        · intro k hk
          simp only [List.mem_cons] at hk
          rcases hk with rfl | hk
          · exact ⟨h3, h5⟩
          · exact h1 k hk
        · intro q hq hqn b' o' e'
          simp only [List.mem_cons] at hq
          rcases hq with rfl | hq
          · rw [e] at e'
            injection e' with e'
            injection e' with e'
            simp [e']
          · simp [h2 q hq hqn b' o' e']
      · refine ⟨bl, h1, ?_⟩
        intro q hq hqn b' o' e'
        simp only [List.mem_cons] at hq
        rcases hq with rfl | hq
        · exact absurd hqn hn
        · exact h2 q hq hqn b' o' e'
  have hI : ∀ a n L, RdI w a n L → (∀ b o, a = some ⟨b, o, none⟩ → b ∈ F ∧ b ≠ gm) → RdI w' a n L := by
    intro a n L h1 h2
    refine ⟨h1.1, h1.2.1, fun hn => ?_⟩
    obtain ⟨b, o, e, hc⟩ := h1.2.2 hn
    refine ⟨b, o, e, fun j hj => ?_⟩
    rw [← hc j hj]
    simp only [World.cell?, hold b (h2 b o e).1 (h2 b o e).2]
  refine ⟨F ++ v'.ownBlock.toList ++ bl, ⟨hobj, hI _ _ _ h.rw_ h.fw, hI _ _ _ h.rr h.fr, hrow, ?_, hl, hpos, hfits, h.roomle, by simp [h.ft], ?_, ?_, ?_, ?_⟩, ?_⟩
  · intro p hp
    obtain ⟨h1, h2, h3⟩ := hall p hp
    exact ⟨h1, h2, fun hn b o e => ⟨by simp [hbl2 p hp hn b o e], (h3 hn b o e).2.1⟩⟩
  · intro g hg
    simp [hg]
  · intro b o e
    exact ⟨by simp [(h.fw b o e).1], (h.fw b o e).2⟩
  · intro b o e
    exact ⟨by simp [(h.fr b o e).1], (h.fr b o e).2⟩
  · intro k hk
    simp only [List.mem_append, Option.mem_toList] at hk
    rcases hk with (hk | hk) | hk
    · exact Nat.lt_of_lt_of_le (h.fl k hk) hsz
    · exact (hrow.lt k hk).2
    · exact (hbl1 k hk).2
  · intro k hk
    simp only [List.mem_append, Option.mem_toList] at hk
    rcases hk with (hk | hk) | hk
    · exact .inl hk
    · exact .inr (.inr (hv k hk))
    · exact (hbl1 k hk).1

/-- Put, whatever the piece. -/
def Tst.mput (s : Pw) (t : Tst) (mk : Bool) (l : List Nat) : Pw × Tst × Nat := if mk = false ∧ l.length = 0 then (s, t, 1) else if 200 < l.length then (s, t, 5) else Tst.write s t l

theorem mput_arg (w : World) (gm gq : Nat) (a : Option Addr) (c : Nat) :
    Calls Try.prog 22 #[.pointer (some ⟨gm, 0, none⟩), .pointer (some ⟨gq, 0, none⟩), .agg #[.slice a 0 c, .bool false]] w fun e w' => e = .returned (.int .i64 1) ∧ Save [] w w' := by
  have HB : Hid (∀ o, Save [] w (w.alloc o)) := Lib.hid fun o => (Save.refl _ _).alloc o
  go_enter Try.func22, Try.ntmps22
  go_wp2
  go_ret
  exact ⟨rfl, HB.out _⟩

theorem mput_long (w : World) (gm gq : Nat) (a : Option Addr) (n c : Nat) (mk : Bool) (h : 200 < n) :
    Calls Try.prog 22 #[.pointer (some ⟨gm, 0, none⟩), .pointer (some ⟨gq, 0, none⟩), .agg #[.slice a n c, .bool mk]] w fun e w' => e = .returned (.int .i64 5) ∧ Save [] w w' := by
  have HB : Hid (∀ o, Save [] w (w.alloc o)) := Lib.hid fun o => (Save.refl _ _).alloc o
  have hne : ((n : Int) == 0) = false := by simp; omega
  cases mk <;>
  · go_enter Try.func22, Try.ntmps22
    go_wp2
    go_ret
    exact ⟨rfl, HB.out _⟩

theorem mput_off (w : World) (gm gq : Nat) (s : Pw) (hP : MP w gq s) (a : Option Addr) (n c : Nat) (mk : Bool) (h : n ≤ 200) (hmk : mk = true ∨ 0 < n) (ho : s.on = false) :
    Calls Try.prog 22 #[.pointer (some ⟨gm, 0, none⟩), .pointer (some ⟨gq, 0, none⟩), .agg #[.slice a n c, .bool mk]] w fun e w' => e = .returned (.int .i64 11) ∧ Save [] w w' := by
  have HB : Hid (∀ o, Save [] w (w.alloc o)) := Lib.hid fun o => (Save.refl _ _).alloc o
  have d0 := hP.on
  rw [ho] at d0
  have d1 := fun o => Lib.cell?_alloc_some (W := w) o d0
  clear hP ho
  cases mk with
  | true =>
    clear hmk
    go_enter Try.func22, Try.ntmps22
    go_wp2
    go_ret
    exact ⟨rfl, HB.out _⟩
  | false =>
    have hne : ((n : Int) == 0) = false := by
      rcases hmk with h | h
      · cases h
      · simp; omega
    clear hmk
    go_enter Try.func22, Try.ntmps22
    go_wp2
    go_ret
    exact ⟨rfl, HB.out _⟩

theorem mput_end (w : World) (gm gq : Nat) (s : Pw) (t : Tst) (F : List Nat) (hM : Mta w gm t F) (hP : MP w gq s) (a : Option Addr) (n c : Nat) (mk : Bool) (h : n ≤ 200) (hmk : mk = true ∨ 0 < n) (ho : s.on = true) (hfull : t.room < t.used + (4 + n)) :
    Calls Try.prog 22 #[.pointer (some ⟨gm, 0, none⟩), .pointer (some ⟨gq, 0, none⟩), .agg #[.slice a n c, .bool mk]] w fun e w' => e = .returned (.int .i64 9) ∧ Save [] w w' := by
  obtain ⟨w1, h1⟩ : ∃ w1, w1 = w.alloc (.cells #[.slice a n c, .bool mk] 73) := ⟨_, rfl⟩
  obtain ⟨gx, hgx⟩ : ∃ gx, gx = w.heap.size := ⟨_, rfl⟩
  have hob : w1.heap[gx]? = some (.cells #[.slice a n c, .bool mk] 73 (0, 0)) := by rw [h1, hgx]; exact heap_alloc_new w _
  have hs1 : Save [] w w1 := by rw [h1]; exact (Save.refl _ _).alloc _
  have x0 : w1.cell? ⟨gx, 0, none⟩ = some (.slice a n c) := by rw [cell_of_row w1 gx _ _ 73 (0, 0) hob]; rfl
  have x1 : w1.cell? ⟨gx, 1, none⟩ = some (.bool mk) := by rw [cell_of_row w1 gx _ _ 73 (0, 0) hob]; rfl
  have hM1 := hM.save hs1 (by simp)
  have d0 := (hP.save hs1 (by simp)).on
  rw [ho] at d0
  have HU : Hid (∀ k, _) := Lib.hid fun k => mused_any (w1.drewN k) gm t F (hM1.save (Y := []) ((Save.refl _ _).drewN k) (by simp))
  obtain ⟨v, X, aW, aR, nW, cW, nR, cR, hM2⟩ := hM1
  have c0 := hM2.cells.1
  have hr := hM2.roomle
  have hu : t.used ≤ t.room := Nat.le_trans (usedOf_take_le _ _) hM2.fits
  obtain ⟨u, hu0⟩ : ∃ u, u = t.used := ⟨_, rfl⟩
  obtain ⟨r, hr0⟩ : ∃ r, r = t.room := ⟨_, rfl⟩
  rw [← hu0] at HU hfull hu
  rw [← hr0] at c0 hfull hr hu
  obtain ⟨u4, hu4⟩ : ∃ u4, u4 = u + 4 := ⟨_, rfl⟩
  have hw1 : IntKind.i64.wrap ((u : Int) + 4) = (u4 : Int) := by rw [IntKind.wrap_i64] <;> omega
  obtain ⟨q, hq⟩ : ∃ q, q = u4 + n := ⟨_, rfl⟩
  have hw2 : IntKind.i64.wrap ((u4 : Int) + (n : Int)) = (q : Int) := by rw [IntKind.wrap_i64] <;> omega
  have hgt : r < q := by omega
  have HS1 := Lib.hid hs1
  have HW1 := Lib.hid (And.intro h1 hgx)
  have hne : mk = false → ((n : Int) == 0) = false := by
    intro e
    rcases hmk with h | h
    · rw [e] at h; cases h
    · simp; omega
  clear hM hM2 hP hob hs1 h1 hgx hr hu hu0 hr0 hfull hu4 hq ho hmk
  cases mk with
  | true =>
    clear hne
    go_enter Try.func22, Try.ntmps22
    go_upto_region 1 with fail
    rw [← HW1.out.1, ← HW1.out.2]
    go_upto_region 7 with fail
    go_quiet ((go_at_call 39; exact Calls.quiet_of_same (HU.out _)))
    go_wp2
    go_ret
    exact ⟨rfl, HS1.out.drewN _⟩
  | false =>
    have hne' := hne rfl
    clear hne
    go_enter Try.func22, Try.ntmps22
    go_upto_region 1 with fail
    rw [← HW1.out.1, ← HW1.out.2]
    go_upto_region 7 with fail
    go_quiet ((go_at_call 39; exact Calls.quiet_of_same (HU.out _)))
    go_wp2
    go_ret
    exact ⟨rfl, HS1.out.drewN _⟩

end Go.Proofs.Ytcofjhiienifmaa
