/- What is sealed of a record: plain's contract, over any world. -/
import Derived.Test.YtngnlnkkehnomaaRcMath
import Derived.Test.YtngnlnkkehnomaaReadyC
import Derived.Test.YtngnlnkkehnomaaOrders
namespace Go.Proofs.Ytngnlnkkehnomaa
open Go.RowKit
set_option linter.unusedSimpArgs false

/-- In a region that draws its order: bytes appended to a row of the call's own. -/
theorem ready_append {o : Oper} {a : Act} {w : World} {K : Act → World → Prop} {Q : Exit → Act → World → Prop} {c : Prop} [Decidable c] (hw : c) (s x : Operand)
    (hop : o.op = .call { callee := .builtin .append, args := #[s, x], argTypes := #[25, 25] }) (v : Value) (hs : a.eval s = v) (A : Option Addr) (n cap : Nat) (hx : a.eval x = .slice A n cap)
    (base : Nat) (l0 : List Nat) (ho : Own w base v l0) (hbase : base ≤ w.heap.size) (l : List Nat) (hr : Rd w A n l) (hn : l0.length + n ≤ 3000000)
    (h : ∀ v' w', Own w' base v' (l0 ++ l) → Below base w w' → K (a.put o.dst v') w') : if c then Oper.wp Try.prog o a w K Q else K (a.put o.dst undef) w := by
  obtain ⟨v', w', hrun, h1, h2⟩ := run_append_rd w base v l0 ho hbase A n cap l hr hn o.type
  rw [if_pos hw]
  unfold Oper.wp execOp
  simp only [hop, resolve, invoke, builtin, Sem.run_bind, Sem.run_pure, Result.andThen_ok, List.map_toArray, List.map_cons, List.map_nil, hs, hx, hrun]
  exact h v' w' h1 h2

theorem rdU_one {w : World} {ty : TypeId} {x g : Nat} (hx : x ≤ 18446744073709551615) (hg : g = w.heap.size) : RdU (w.alloc (.cells #[.int .u64 (x : Int)] ty)) (some ⟨g, 0, none⟩) 1 [x] := by
  subst hg
  refine ⟨rfl, by simp; omega, fun _ => ⟨_, _, rfl, fun j hj => ?_⟩⟩
  rw [World.cell?_alloc_new]
  obtain rfl : j = 0 := by omega
  rfl

theorem rdU_two {w : World} {ty : TypeId} {x y g : Nat} (hx : x ≤ 18446744073709551615) (hy : y ≤ 18446744073709551615) (hg : g = w.heap.size) :
    RdU (w.alloc (.cells #[.int .u64 (x : Int), .int .u64 (y : Int)] ty)) (some ⟨g, 0, none⟩) 2 [x, y] := by
  subst hg
  refine ⟨rfl, by simp; omega, fun _ => ⟨_, _, rfl, fun j hj => ?_⟩⟩
  rw [World.cell?_alloc_new]
  rcases (by omega : j = 0 ∨ j = 1) with rfl | rfl <;> rfl

theorem rdU_three {w : World} {ty : TypeId} {x y z g : Nat} (hx : x ≤ 18446744073709551615) (hy : y ≤ 18446744073709551615) (hz : z ≤ 18446744073709551615) (hg : g = w.heap.size) :
    RdU (w.alloc (.cells #[.int .u64 (x : Int), .int .u64 (y : Int), .int .u64 (z : Int)] ty)) (some ⟨g, 0, none⟩) 3 [x, y, z] := by
  subst hg
  refine ⟨rfl, by simp; omega, fun _ => ⟨_, _, rfl, fun j hj => ?_⟩⟩
  rw [World.cell?_alloc_new]
  rcases (by omega : j = 0 ∨ j = 1 ∨ j = 2) with rfl | rfl | rfl <;> rfl

theorem rd_one {w : World} {x : Nat} (hx : x < 256) : Rd (w.alloc (.cells #[.int .u8 (x : Int)] 5)) (some ⟨w.heap.size, 0, none⟩) 1 [x] :=
  rd_new w [x] (by simpa using hx)

theorem wrap_u64 {m : Nat} (h : m ≤ 18446744073709551615) : IntKind.u64.wrap (m : Int) = m := by rw [IntKind.wrap_u64]; omega

theorem rd_one_at {w : World} {z : Int} {x g : Nat} (hx : x < 256) (hz : z = x) (hg : g = w.heap.size) : Rd (w.alloc (.cells #[.int .u8 z] 5)) (some ⟨g, 0, none⟩) 1 [x] := by
  subst hz hg
  exact rd_one hx

set_option maxHeartbeats 1000000 in
set_option maxRecDepth 100000 in
theorem plain_head (i b : Nat) (a : Option Addr) (n cap : Nat) (w : World) (hi : i ≤ 1099511627776) (hb : b ≤ 1099511627776) :
    Calls Try.prog 18 #[rcV ⟨1, i, b, 0, 0, [], 0, 0, 0⟩ a n cap] w fun e w' => ∃ v, e = .returned v ∧ Own w' w.heap.size v (Rec.plain ⟨1, i, b, 0, 0, [], 0, 0, 0⟩) ∧ Below w.heap.size w w' := by
  have HP : Hid (∀ W U, Rd W (some ⟨w.heap.size + 1, 0, none⟩) 1 [1] → RdU W U 2 [i, b] → Below w.heap.size w W → Calls Try.prog 36 #[.slice (some ⟨w.heap.size + 1, 0, none⟩) 1 1, .slice U 2 2] W fun e w' => ∃ v, e = .returned v ∧ Hid (Own w' w.heap.size v (Rec.plain ⟨1, i, b, 0, 0, [], 0, 0, 0⟩)) ∧ Hid (Below w.heap.size w w')) := by
    refine Lib.hid fun W U h1 h2 hW => (put_any _ 1 1 [1] U 2 2 _ W h1 h2 (by omega) (by omega)).mono ?_
    rintro e w' ⟨v, rfl, ho, hb⟩
    refine ⟨v, rfl, Lib.hid ?_, Lib.hid (hW.trans (hb.mono hW.size))⟩
    have hl : [1] ++ [i, b].flatMap vEnc = Rec.plain ⟨1, i, b, 0, 0, [], 0, 0, 0⟩ := by simp [Rec.plain]
    rw [← hl]
    exact ho.mono hW.size
  simp only [rcV]
  go_enter Try.func18, Try.ntmps18
  go_wp2_with fail
  refine (HP.out _ _ ?hr ?hu ?hw).mono ?_
  case hr => exact (rd_one_at (x := 1) (by omega) rfl (by simp)).later (Below.alloc0 _ _)
  case hu => exact rdU_two (x := i) (y := b) (by omega) (by omega) (by simp)
  case hw => exact (((Below.refl _ _).alloc (Nat.le_refl _) _).alloc (by simp) _).alloc (by simp; omega) _
  rintro e w1 ⟨v, rfl, HO, HB⟩
  go_wp2
  go_ret
  exact ⟨_, rfl, HO.out, HB.out⟩

set_option maxHeartbeats 1000000 in
set_option maxRecDepth 100000 in
theorem plain_hole (f t : Nat) (a : Option Addr) (n cap : Nat) (w : World) (hi : f ≤ 256) (hb : t ≤ 256) :
    Calls Try.prog 18 #[rcV ⟨3, 0, 0, f, t, [], 0, 0, 0⟩ a n cap] w fun e w' => ∃ v, e = .returned v ∧ Own w' w.heap.size v (Rec.plain ⟨3, 0, 0, f, t, [], 0, 0, 0⟩) ∧ Below w.heap.size w w' := by
  have HP : Hid (∀ W U, Rd W (some ⟨w.heap.size + 1, 0, none⟩) 1 [3] → RdU W U 2 [f, t] → Below w.heap.size w W → Calls Try.prog 36 #[.slice (some ⟨w.heap.size + 1, 0, none⟩) 1 1, .slice U 2 2] W fun e w' => ∃ v, e = .returned v ∧ Hid (Own w' w.heap.size v (Rec.plain ⟨3, 0, 0, f, t, [], 0, 0, 0⟩)) ∧ Hid (Below w.heap.size w w')) := by
    refine Lib.hid fun W U h1 h2 hW => (put_any _ 1 1 [3] U 2 2 _ W h1 h2 (by omega) (by omega)).mono ?_
    rintro e w' ⟨v, rfl, ho, hb⟩
    refine ⟨v, rfl, Lib.hid ?_, Lib.hid (hW.trans (hb.mono hW.size))⟩
    have hl : [3] ++ [f, t].flatMap vEnc = Rec.plain ⟨3, 0, 0, f, t, [], 0, 0, 0⟩ := by simp [Rec.plain]
    rw [← hl]
    exact ho.mono hW.size
  simp only [rcV]
  go_enter Try.func18, Try.ntmps18
  go_wp2_with fail
  refine (HP.out _ _ ?hr ?hu ?hw).mono ?_
  case hr => exact (rd_one_at (x := 3) (by omega) rfl (by simp)).later (Below.alloc0 _ _)
  case hu => exact rdU_two (x := f) (y := t) (by omega) (by omega) (by simp)
  case hw => exact (((Below.refl _ _).alloc (Nat.le_refl _) _).alloc (by simp) _).alloc (by simp; omega) _
  rintro e w1 ⟨v, rfl, HO, HB⟩
  go_wp2
  go_ret
  exact ⟨_, rfl, HO.out, HB.out⟩

set_option maxHeartbeats 1000000 in
set_option maxRecDepth 100000 in
theorem plain_tail (c dn ds : Nat) (a : Option Addr) (n cap : Nat) (w : World) (hc : c ≤ 1099511627776) (hn : dn ≤ 1099511627776) (hs : ds < 2305843009213693951) :
    Calls Try.prog 18 #[rcV ⟨4, 0, 0, 0, 0, [], c, dn, ds⟩ a n cap] w fun e w' => ∃ v, e = .returned v ∧ Own w' w.heap.size v (Rec.plain ⟨4, 0, 0, 0, 0, [], c, dn, ds⟩) ∧ Below w.heap.size w w' := by
  have HP : Hid (∀ W U, Rd W (some ⟨w.heap.size + 1, 0, none⟩) 1 [4] → RdU W U 3 [c, dn, ds] → Below w.heap.size w W → Calls Try.prog 36 #[.slice (some ⟨w.heap.size + 1, 0, none⟩) 1 1, .slice U 3 3] W fun e w' => ∃ v, e = .returned v ∧ Hid (Own w' w.heap.size v (Rec.plain ⟨4, 0, 0, 0, 0, [], c, dn, ds⟩)) ∧ Hid (Below w.heap.size w w')) := by
    refine Lib.hid fun W U h1 h2 hW => (put_any _ 1 1 [4] U 3 3 _ W h1 h2 (by omega) (by omega)).mono ?_
    rintro e w' ⟨v, rfl, ho, hb⟩
    refine ⟨v, rfl, Lib.hid ?_, Lib.hid (hW.trans (hb.mono hW.size))⟩
    have hl : [4] ++ [c, dn, ds].flatMap vEnc = Rec.plain ⟨4, 0, 0, 0, 0, [], c, dn, ds⟩ := by simp [Rec.plain]
    rw [← hl]
    exact ho.mono hW.size
  simp only [rcV]
  go_enter Try.func18, Try.ntmps18
  go_wp2_with fail
  refine (HP.out _ _ ?hr ?hu ?hw).mono ?_
  case hr => exact (rd_one_at (x := 4) (by omega) rfl (by simp)).later (Below.alloc0 _ _)
  case hu => exact rdU_three (x := c) (y := dn) (z := ds) (by omega) (by omega) (by omega) (by simp)
  case hw => exact (((Below.refl _ _).alloc (Nat.le_refl _) _).alloc (by simp) _).alloc (by simp; omega) _
  rintro e w1 ⟨v, rfl, HO, HB⟩
  go_wp2
  go_ret
  exact ⟨_, rfl, HO.out, HB.out⟩

set_option maxHeartbeats 2000000 in
set_option maxRecDepth 100000 in
theorem plain_data (f t : Nat) (l : List Nat) (a : Option Addr) (n cap : Nat) (w : World) (hf : f ≤ 256) (hl : l.length ≤ 1000) (h : Rd w a n l) :
    Calls Try.prog 18 #[rcV ⟨2, 0, 0, f, t, l, 0, 0, 0⟩ a n cap] w fun e w' => ∃ v, e = .returned v ∧ Own w' w.heap.size v (Rec.plain ⟨2, 0, 0, f, t, l, 0, 0, 0⟩) ∧ Below w.heap.size w w' := by
  obtain ⟨w0, hw0⟩ : ∃ w0, w0 = (w.alloc (.cells #[.int .u8 2, .int .i64 0, .int .i64 0, .int .i64 (f : Int), .int .i64 (t : Int), .slice a n cap, .int .i64 0, .int .u64 0, .int .u64 0] 30)).alloc (.cells #[.int .u8 2] 5) := ⟨_, rfl⟩
  obtain ⟨q, hq⟩ : ∃ q, q = w.heap.size := ⟨_, rfl⟩
  have HW : Hid ((w.alloc (.cells #[.int .u8 2, .int .i64 0, .int .i64 0, .int .i64 (f : Int), .int .i64 (t : Int), .slice a n cap, .int .i64 0, .int .u64 0, .int .u64 0] 30)).alloc (.cells #[.int .u8 2] 5) = w0 ∧ w.heap.size = q) := Lib.hid ⟨hw0.symm, hq.symm⟩
  have hsz : w0.heap.size = q + 2 := by rw [hw0, hq]; simp
  have hbw : Below w.heap.size w w0 := by rw [hw0]; exact ((Below.refl _ _).alloc (Nat.le_refl _) _).alloc (by simp) _
  have hblk : w0.heap[q]? = some (.cells #[.int .u8 2, .int .i64 0, .int .i64 0, .int .i64 (f : Int), .int .i64 (t : Int), .slice a n cap, .int .i64 0, .int .u64 0, .int .u64 0] 30 (0, 0)) := by
    rw [hw0, hq]
    refine (heap_alloc_old _ _ (by simp)).trans (heap_alloc_new w _)
  have hr0 : Rd w0 a n l := by rw [hw0]; exact (h.later (Below.alloc0 _ _)).later (Below.alloc0 _ _)
  have hb0 : Rd w0 (some ⟨q + 1, 0, none⟩) 1 [2] := by rw [hw0, hq]; exact rd_one_at (x := 2) (by omega) rfl (by simp)
  have HK : Hid (∀ W, Below w0.heap.size w0 W → W.cell? ⟨q, 3, none⟩ = some (.int .i64 (f : Int)) ∧ W.cell? ⟨q, 5, none⟩ = some (.slice a n cap)) := by
    refine Lib.hid fun W hW => ?_
    have hx := (hW.block q (by omega)).trans hblk
    refine ⟨?_, ?_⟩ <;> simp [World.cell?, hx]
  have HP : Hid (∀ W U, RdU W U 1 [f] → Below w0.heap.size w0 W → Calls Try.prog 36 #[.slice (some ⟨q + 1, 0, none⟩) 1 1, .slice U 1 1] W fun e w' => ∃ v, e = .returned v ∧ Hid (Own w' w0.heap.size v ([2] ++ vEnc f)) ∧ Hid (Below w0.heap.size w0 w')) := by
    refine Lib.hid fun W U h2 hW => (put_any _ 1 1 [2] U 1 1 _ W (hb0.later hW) h2 (by omega) (by omega)).mono ?_
    rintro e w' ⟨v, rfl, ho, hb⟩
    refine ⟨v, rfl, Lib.hid ?_, Lib.hid (hW.trans (hb.mono hW.size))⟩
    have e1 : [f].flatMap vEnc = vEnc f := by simp
    rw [e1] at ho
    exact ho.mono hW.size
  have HR0 := Lib.hid hr0
  have HC0 : Hid (w0.cell? ⟨q, 0, none⟩ = some (.int .u8 2)) := Lib.hid (by simp [World.cell?, hblk])
  have HFIN : Hid (∀ W v, Own W w0.heap.size v (([2] ++ vEnc f) ++ l) → Below w0.heap.size w0 W → Own W w.heap.size v (Rec.plain ⟨2, 0, 0, f, t, l, 0, 0, 0⟩) ∧ Below w.heap.size w W) := by
    refine Lib.hid fun W v ho hW => ⟨?_, hbw.trans (hW.mono hbw.size)⟩
    have e1 : ([2] ++ vEnc f) ++ l = Rec.plain ⟨2, 0, 0, f, t, l, 0, 0, 0⟩ := by simp [Rec.plain]
    rw [← e1]
    exact ho.mono hbw.size
  have hlen : ([2] ++ vEnc f).length ≤ 20 := by have := vEnc_len10 (n := f) (by omega); simp; omega
  have HLN := Lib.hid hlen
  have HN := Lib.hid h.1
  have hu := wrap_u64 (m := f) (by omega)
  have HSZ := Lib.hid hsz
  clear hw0 hq hbw hblk hr0 hb0 h hlen hsz
  simp only [rcV]
  go_enter Try.func18, Try.ntmps18
  go_upto_region 2 with fail
  change Code.wp _ _ _ _ ((w.alloc (.cells #[.int .u8 2, .int .i64 0, .int .i64 0, .int .i64 (f : Int), .int .i64 (t : Int), .slice a n cap, .int .i64 0, .int .u64 0, .int .u64 0] 30)).alloc (.cells #[.int .u8 2] 5))
  rw [HW.out.1]
  try rw [HW.out.2]
  have cK := HC0.out
  go_upto_region 7 with fail
  have H : Hid (Below w0.heap.size w0 w0.drew) := Lib.hid (Below.refl _ _).drew
  refine wp_region_held_drew (S := fun W => W.cell? ⟨q, 3, none⟩ = some (.int .i64 (f : Int)) ∧ W.cell? ⟨q, 5, none⟩ = some (.slice a n cap)) (by kernel_rfl) (HK.out _ H.out) (fun _ => ?_)
  refine wpAnyH_take (i := 0) (v := ?va0) rfl (by kernel_rfl) (by kernel_rfl) (by kernel_rfl) (fun _ _ _ h => h) (Or.inl ⟨by rfl, ?ha0⟩) (HK.out _ H.out) ?ra0
  case ha0 => (intro W hW; (try dsimp only at hW); go_simp; try with_reducible rfl)
  simp only [Act.put, List.getElem_toArray, List.getElem_cons_succ, List.getElem_cons_zero, List.setIfInBounds_toArray, List.set_cons_zero, List.set_cons_succ]
  refine wpAnyH_take (i := 1) (v := ?va1) rfl (by kernel_rfl) (by kernel_rfl) (by kernel_rfl) (fun _ _ _ h => h) (Or.inl ⟨by rfl, ?ha1⟩) (HK.out _ H.out) ?ra1
  case ha1 => (intro W hW; (try dsimp only at hW); go_simp; try with_reducible rfl)
  simp only [Act.put, List.getElem_toArray, List.getElem_cons_succ, List.getElem_cons_zero, List.setIfInBounds_toArray, List.set_cons_zero, List.set_cons_succ]
  refine wpAnyH_take (i := 2) (v := ?va2) rfl (by kernel_rfl) (by kernel_rfl) (by kernel_rfl) (fun _ _ _ h => h) (Or.inl ⟨by rfl, ?ha2⟩) (HK.out _ H.out) ?ra2
  case ha2 => (intro W hW; (try dsimp only at hW); go_simp; try with_reducible rfl)
  simp only [Act.put, List.getElem_toArray, List.getElem_cons_succ, List.getElem_cons_zero, List.setIfInBounds_toArray, List.set_cons_zero, List.set_cons_succ]
  refine wpAnyH_take (i := 3) (v := ?va3) rfl (by kernel_rfl) (by kernel_rfl) (by kernel_rfl) (fun _ _ _ h => h) (Or.inl ⟨by rfl, ?ha3⟩) (HK.out _ H.out) ?ra3
  case ha3 => (intro W hW; (try dsimp only at hW); go_simp; try with_reducible rfl)
  simp only [Act.put, List.getElem_toArray, List.getElem_cons_succ, List.getElem_cons_zero, List.setIfInBounds_toArray, List.set_cons_zero, List.set_cons_succ]
  refine wpAnyH_take (i := 4) (v := ?va4) rfl (by kernel_rfl) (by kernel_rfl) (by kernel_rfl) (fun _ _ _ h => h) (Or.inl ⟨by rfl, ?ha4⟩) (HK.out _ H.out) ?ra4
  case ha4 => (intro W hW; (try dsimp only at hW); go_simp; try with_reducible rfl)
  simp only [Act.put, List.getElem_toArray, List.getElem_cons_succ, List.getElem_cons_zero, List.setIfInBounds_toArray, List.set_cons_zero, List.set_cons_succ]
  refine wpAnyH_take (i := 7) (v := ?va7) rfl (by kernel_rfl) (by kernel_rfl) (by kernel_rfl) (fun _ _ _ h => h) (Or.inl ⟨by rfl, ?ha7⟩) (HK.out _ H.out) ?ra7
  case ha7 => (intro W hW; (try dsimp only at hW); go_simp; try with_reducible rfl)
  simp only [Act.put, List.getElem_toArray, List.getElem_cons_succ, List.getElem_cons_zero, List.setIfInBounds_toArray, List.set_cons_zero, List.set_cons_succ]
  refine wpAnyH_take (i := 8) (v := ?va8) rfl (by kernel_rfl) (by kernel_rfl) (by kernel_rfl) (fun _ _ _ h => h) (Or.inl ⟨by rfl, ?ha8⟩) (HK.out _ H.out) ?ra8
  case ha8 => (intro W hW; (try dsimp only at hW); go_simp; try with_reducible rfl)
  simp only [Act.put, List.getElem_toArray, List.getElem_cons_succ, List.getElem_cons_zero, List.setIfInBounds_toArray, List.set_cons_zero, List.set_cons_succ]
  refine wpAnyH_ready (rs := [5]) (by kernel_rfl) (by simp) ?_
  refine AllReadyH.cons rfl (fun K hK => ?_) AllReadyH.nil
  refine ready_made (v := .slice (some ⟨w0.drew.heap.size, 0, none⟩) 1 1) (w' := w0.drew.alloc (.cells #[.int .u64 (f : Int)] 26)) (by rfl) (by (go_simp; try with_reducible rfl)) ?_
  have H1 : Hid (Below w0.heap.size w0 (w0.drew.alloc (.cells #[.int .u64 (f : Int)] 26))) := Lib.hid (H.out.alloc (Nat.le_refl _) _)
  refine hK.out _ _ (HK.out _ H1.out) (fun _ => ?_)
  clear hK K
  simp only [Act.put, List.getElem_toArray, List.getElem_cons_succ, List.getElem_cons_zero, List.setIfInBounds_toArray, List.set_cons_zero, List.set_cons_succ]
  refine wpAnyH_ready (rs := [6]) (by kernel_rfl) (by simp) ?_
  refine AllReadyH.cons rfl (fun K hK => ?_) AllReadyH.nil
  refine ready_call (f := 36) (vs := #[.slice (some ⟨q + 1, 0, none⟩) 1 1, .slice (some ⟨w0.drew.heap.size, 0, none⟩) 1 1]) (by rfl) (by (go_simp; try with_reducible rfl)) ?_
  refine (HP.out _ _ (rdU_one (w := w0.drew) (x := f) (by omega) rfl) H1.out).mono ?_
  rintro e w2 ⟨v, rfl, HO, HB⟩
  refine ⟨_, rfl, hK.out _ _ (HK.out _ HB.out) (fun _ => ?_)⟩
  clear hK K
  simp only [Act.put, List.getElem_toArray, List.getElem_cons_succ, List.getElem_cons_zero, List.setIfInBounds_toArray, List.set_cons_zero, List.set_cons_succ]
  refine wpAnyH_ready (rs := [9]) (by kernel_rfl) (by simp) ?_
  refine AllReadyH.cons rfl (fun K hK => ?_) AllReadyH.nil
  refine ready_append (by rfl) _ _ (by rfl) v (by rfl) a n cap (by rfl) w0.heap.size _ HO.out HB.out.size l (HR0.out.later HB.out) (by have := HLN.out; have := HN.out; omega) ?_
  intro v' w' ho hb
  have HB2 : Hid (Below w0.heap.size w0 w') := Lib.hid (HB.out.trans hb)
  have HF := Lib.hid (HFIN.out _ _ ho HB2.out)
  clear ho hb
  refine hK.out _ _ (HK.out _ HB2.out) (fun _ => ?_)
  clear hK K
  simp only [Act.put, List.getElem_toArray, List.getElem_cons_succ, List.getElem_cons_zero, List.setIfInBounds_toArray, List.set_cons_zero, List.set_cons_succ]
  refine wpAnyH_take (i := 10) (v := ?va10) rfl (by kernel_rfl) (by kernel_rfl) (by kernel_rfl) (fun _ _ _ h => h) (Or.inl ⟨by rfl, ?ha10⟩) (HK.out _ HB2.out) ?ra10
  case ha10 => (intro W hW; (try dsimp only at hW); go_simp; try with_reducible rfl)
  simp only [Act.put, List.getElem_toArray, List.getElem_cons_succ, List.getElem_cons_zero, List.setIfInBounds_toArray, List.set_cons_zero, List.set_cons_succ]
  refine wpAnyH_done (by kernel_rfl) ?_ _
  go_wp2
  go_ret
  exact ⟨_, rfl, HF.out⟩

/-- What is sealed of a record that is one. -/
theorem plain_any (x : Rec) (a : Option Addr) (n cap : Nat) (w : World) (hx : x.ok = true) (h : Rd w a n x.l) :
    Calls Try.prog 18 #[rcV x a n cap] w fun e w' => ∃ v, e = .returned v ∧ Own w' w.heap.size v x.plain ∧ Below w.heap.size w w' := by
  rcases Rec.ok_cases hx with ⟨i, b, h1, h2, rfl⟩ | ⟨f, t, l, h1, h2, h3, h4, rfl⟩ | ⟨f, t, h1, h2, rfl⟩ | ⟨c, dn, ds, h1, h2, h3, rfl⟩
  · exact plain_head i b a n cap w h1 h2
  · exact plain_data f t l a n cap w (by omega) (by omega) h
  · exact plain_hole f t a n cap w (by omega) (by omega)
  · exact plain_tail c dn ds a n cap w h1 h2 h3

end Go.Proofs.Ytngnlnkkehnomaa
