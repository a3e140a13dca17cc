/- RecordSame, run: two records compared, over any world. -/
import Derived.Test.YtngnlnkkehnomaaRcLives
import Derived.Test.YtngnlnkkehnomaaRcLaw
namespace Go.Proofs.Ytngnlnkkehnomaa
open Go.RowKit
set_option linter.unusedSimpArgs false

set_option maxHeartbeats 4000000 in
set_option maxRecDepth 100000 in
theorem recordSame_walk (x y : Rec) (a a' : Option Addr) (n cap n' cap' : Nat) (w : World) (h : Rd w a n x.l) (h' : Rd w a' n' y.l) :
    Calls Try.prog 5 #[rcV x a n cap, rcV y a' n' cap'] w fun e w' => e = .returned (.bool true) ∧ Below w.heap.size w w' := by
  have HSxy : Hid (∀ W, Below w.heap.size w W → Calls Try.prog 13 #[rcV x a n cap, rcV y a' n' cap'] W fun e w' => e = .returned (.bool (x.eq y)) ∧ Hid (Below W.heap.size W w')) :=
    Lib.hid fun W hW => same_any x y a a' n cap n' cap' W (h.later hW) (h'.later hW)
  have HSxx : Hid (∀ W, Below w.heap.size w W → Calls Try.prog 13 #[rcV x a n cap, rcV x a n cap] W fun e w' => e = .returned (.bool true) ∧ Hid (Below W.heap.size W w')) :=
    Lib.hid fun W hW => by
      have := same_any x x a a n cap n cap W (h.later hW) (h.later hW)
      rw [Rec.eq_self] at this
      exact this
  have HPx : Hid (∀ W, Below w.heap.size w W → Calls Try.prog 7 #[rcV x a n cap] W fun e w' => e = .returned (pcV x) ∧ Hid (Below W.heap.size W w')) :=
    Lib.hid fun W hW => lawPlain_any x a n cap W (h.later hW)
  have HPy : Hid (∀ W, Below w.heap.size w W → Calls Try.prog 7 #[rcV y a' n' cap'] W fun e w' => e = .returned (pcV y) ∧ Hid (Below W.heap.size W w')) :=
    Lib.hid fun W hW => lawPlain_any y a' n' cap' W (h'.later hW)
  have heq := eql_rec x y h.2.1 h'.2.1
  have hgd : ∀ (W : World) (o1 o2 : Operand), (eqGuard .eql 33 o1 o2 (pcV x) (pcV y)).run Try.prog W = .ok () W := fun W o1 o2 => run_eqGuard_agg W .eql _ o1 o2 _ _ (by kernel_rfl)
  obtain ⟨PX, hPX⟩ : ∃ P, P = pcV x := ⟨_, rfl⟩
  obtain ⟨PY, hPY⟩ : ∃ P, P = pcV y := ⟨_, rfl⟩
  obtain ⟨E, hE⟩ : ∃ E, E = x.eq y := ⟨_, rfl⟩
  rw [← hPX] at HPx heq hgd
  rw [← hPY] at HPy heq hgd
  rw [← hE] at HSxy heq
  clear hPX hPY hE h h'
  have hl := lives_any
  obtain ⟨k, i, b, f, t, l, c, dn, ds⟩ := x
  obtain ⟨k', i', b', f', t', l', c', dn', ds'⟩ := y
  simp only [rcV] at HSxy HSxx HPx HPy ⊢
  have HL := Lib.hid hl
  clear hl
  obtain ⟨q, hq⟩ : ∃ q, q = w.heap.size := ⟨_, rfl⟩
  obtain ⟨w0, hw0⟩ : ∃ w0, w0 = (w.alloc (.cells #[.int .u8 (k : Int), .int .i64 i, .int .i64 b, .int .i64 f, .int .i64 t, .slice a n cap, .int .i64 c, .int .u64 (dn : Int), .int .u64 (ds : Int)] 30)).alloc (.cells #[.int .u8 (k' : Int), .int .i64 i', .int .i64 b', .int .i64 f', .int .i64 t', .slice a' n' cap', .int .i64 c', .int .u64 (dn' : Int), .int .u64 (ds' : Int)] 30) := ⟨_, rfl⟩
  have hsz : w0.heap.size = q + 2 := by rw [hw0, hq]; simp
  have hbw : Below w.heap.size w w0 := by rw [hw0]; exact ((Below.refl _ _).alloc (Nat.le_refl _) _).alloc (by simp) _
  have hx : w0.heap[q]? = some (.cells #[.int .u8 (k : Int), .int .i64 i, .int .i64 b, .int .i64 f, .int .i64 t, .slice a n cap, .int .i64 c, .int .u64 (dn : Int), .int .u64 (ds : Int)] 30 (0, 0)) := by rw [hw0, hq]; exact (heap_alloc_old _ _ (by simp)).trans (heap_alloc_new w _)
  have hy : w0.heap[q + 1]? = some (.cells #[.int .u8 (k' : Int), .int .i64 i', .int .i64 b', .int .i64 f', .int .i64 t', .slice a' n' cap', .int .i64 c', .int .u64 (dn' : Int), .int .u64 (ds' : Int)] 30 (0, 0)) := by rw [hw0, hq]; have e := heap_alloc_new (w.alloc (.cells #[.int .u8 (k : Int), .int .i64 i, .int .i64 b, .int .i64 f, .int .i64 t, .slice a n cap, .int .i64 c, .int .u64 (dn : Int), .int .u64 (ds : Int)] 30)) (.cells #[.int .u8 (k' : Int), .int .i64 i', .int .i64 b', .int .i64 f', .int .i64 t', .slice a' n' cap', .int .i64 c', .int .u64 (dn' : Int), .int .u64 (ds' : Int)] 30); simpa using e
  have HW : Hid ((w.alloc (.cells #[.int .u8 (k : Int), .int .i64 i, .int .i64 b, .int .i64 f, .int .i64 t, .slice a n cap, .int .i64 c, .int .u64 (dn : Int), .int .u64 (ds : Int)] 30)).alloc (.cells #[.int .u8 (k' : Int), .int .i64 i', .int .i64 b', .int .i64 f', .int .i64 t', .slice a' n' cap', .int .i64 c', .int .u64 (dn' : Int), .int .u64 (ds' : Int)] 30) = w0 ∧ w.heap.size = q) := Lib.hid ⟨hw0.symm, hq.symm⟩
  have HK : Hid (∀ W, Below w0.heap.size w0 W → W.cell? ⟨q, 0, none⟩ = some (.int .u8 (k : Int)) ∧ W.cell? ⟨q, 1, none⟩ = some (.int .i64 i) ∧ W.cell? ⟨q, 2, none⟩ = some (.int .i64 b) ∧ W.cell? ⟨q, 3, none⟩ = some (.int .i64 f) ∧ W.cell? ⟨q, 4, none⟩ = some (.int .i64 t) ∧ W.cell? ⟨q, 5, none⟩ = some (.slice a n cap) ∧ W.cell? ⟨q, 6, none⟩ = some (.int .i64 c) ∧ W.cell? ⟨q, 7, none⟩ = some (.int .u64 (dn : Int)) ∧ W.cell? ⟨q, 8, none⟩ = some (.int .u64 (ds : Int)) ∧ W.cell? ⟨(q + 1), 0, none⟩ = some (.int .u8 (k' : Int)) ∧ W.cell? ⟨(q + 1), 1, none⟩ = some (.int .i64 i') ∧ W.cell? ⟨(q + 1), 2, none⟩ = some (.int .i64 b') ∧ W.cell? ⟨(q + 1), 3, none⟩ = some (.int .i64 f') ∧ W.cell? ⟨(q + 1), 4, none⟩ = some (.int .i64 t') ∧ W.cell? ⟨(q + 1), 5, none⟩ = some (.slice a' n' cap') ∧ W.cell? ⟨(q + 1), 6, none⟩ = some (.int .i64 c') ∧ W.cell? ⟨(q + 1), 7, none⟩ = some (.int .u64 (dn' : Int)) ∧ W.cell? ⟨(q + 1), 8, none⟩ = some (.int .u64 (ds' : Int))) := by
    refine Lib.hid fun W hW => ?_
    have h1 := (hW.block q (by omega)).trans hx
    have h2 := (hW.block (q + 1) (by omega)).trans hy
    refine ⟨?_, ?_, ?_, ?_, ?_, ?_, ?_, ?_, ?_, ?_, ?_, ?_, ?_, ?_, ?_, ?_, ?_, ?_⟩ <;> simp [World.cell?, h1, h2]
  have HBW := Lib.hid hbw
  have HC : Hid (∀ W, Below w0.heap.size w0 W → Below w.heap.size w W) := Lib.hid fun W hW => hbw.trans (hW.mono hbw.size)
  have HT : Hid (∀ W W', Below w0.heap.size w0 W → Below W.heap.size W W' → Below w0.heap.size w0 W') := Lib.hid fun W W' h1 h2 => h1.trans (h2.mono h1.size)
  clear hw0 hq hsz hbw hx hy
  go_enter Try.func5, Try.ntmps5
  go_upto_region 1 with fail
  change Code.wp _ _ _ _ ((w.alloc (.cells #[.int .u8 (k : Int), .int .i64 i, .int .i64 b, .int .i64 f, .int .i64 t, .slice a n cap, .int .i64 c, .int .u64 (dn : Int), .int .u64 (ds : Int)] 30)).alloc (.cells #[.int .u8 (k' : Int), .int .i64 i', .int .i64 b', .int .i64 f', .int .i64 t', .slice a' n' cap', .int .i64 c', .int .u64 (dn' : Int), .int .u64 (ds' : Int)] 30))
  rw [HW.out.1]
  try rw [HW.out.2]
  go_wp2_with fail
  refine (HL.out w0).mono ?_
  rintro e w1 ⟨rfl, hb1⟩
  have H : Hid (Below w0.heap.size w0 w1.drew) := Lib.hid hb1.drew
  clear hb1
  go_upto_region 3 with fail
  refine wp_region_held_drew (S := fun W => W.cell? ⟨q, 0, none⟩ = some (.int .u8 (k : Int)) ∧ W.cell? ⟨q, 1, none⟩ = some (.int .i64 i) ∧ W.cell? ⟨q, 2, none⟩ = some (.int .i64 b) ∧ W.cell? ⟨q, 3, none⟩ = some (.int .i64 f) ∧ W.cell? ⟨q, 4, none⟩ = some (.int .i64 t) ∧ W.cell? ⟨q, 5, none⟩ = some (.slice a n cap) ∧ W.cell? ⟨q, 6, none⟩ = some (.int .i64 c) ∧ W.cell? ⟨q, 7, none⟩ = some (.int .u64 (dn : Int)) ∧ W.cell? ⟨q, 8, none⟩ = some (.int .u64 (ds : Int)) ∧ W.cell? ⟨(q + 1), 0, none⟩ = some (.int .u8 (k' : Int)) ∧ W.cell? ⟨(q + 1), 1, none⟩ = some (.int .i64 i') ∧ W.cell? ⟨(q + 1), 2, none⟩ = some (.int .i64 b') ∧ W.cell? ⟨(q + 1), 3, none⟩ = some (.int .i64 f') ∧ W.cell? ⟨(q + 1), 4, none⟩ = some (.int .i64 t') ∧ W.cell? ⟨(q + 1), 5, none⟩ = some (.slice a' n' cap') ∧ W.cell? ⟨(q + 1), 6, none⟩ = some (.int .i64 c') ∧ W.cell? ⟨(q + 1), 7, none⟩ = some (.int .u64 (dn' : Int)) ∧ W.cell? ⟨(q + 1), 8, none⟩ = some (.int .u64 (ds' : Int))) (by kernel_rfl) (HK.out _ H.out) (fun _ => ?_)
  refine wpAnyH_take (i := 0) (v := ?vs0) rfl (by kernel_rfl) (by kernel_rfl) (by kernel_rfl) (fun _ _ _ h => h) (Or.inl ⟨by rfl, ?hs0⟩) (HK.out _ H.out) ?rs0
  case hs0 => (intro W hW; (try dsimp only at hW); go_simp; try with_reducible rfl)
  simp only [Act.put, List.getElem_toArray, List.getElem_cons_succ, List.getElem_cons_zero, List.setIfInBounds_toArray, List.set_cons_zero, List.set_cons_succ]
  refine wpAnyH_take (i := 1) (v := ?vs1) rfl (by kernel_rfl) (by kernel_rfl) (by kernel_rfl) (fun _ _ _ h => h) (Or.inl ⟨by rfl, ?hs1⟩) (HK.out _ H.out) ?rs1
  case hs1 => (intro W hW; (try dsimp only at hW); go_simp; try with_reducible rfl)
  simp only [Act.put, List.getElem_toArray, List.getElem_cons_succ, List.getElem_cons_zero, List.setIfInBounds_toArray, List.set_cons_zero, List.set_cons_succ]
  refine wpAnyH_take (i := 3) (v := ?vs3) rfl (by kernel_rfl) (by kernel_rfl) (by kernel_rfl) (fun _ _ _ h => h) (Or.inl ⟨by rfl, ?hs3⟩) (HK.out _ H.out) ?rs3
  case hs3 => (intro W hW; (try dsimp only at hW); go_simp; try with_reducible rfl)
  simp only [Act.put, List.getElem_toArray, List.getElem_cons_succ, List.getElem_cons_zero, List.setIfInBounds_toArray, List.set_cons_zero, List.set_cons_succ]
  refine wpAnyH_take (i := 5) (v := ?vs5) rfl (by kernel_rfl) (by kernel_rfl) (by kernel_rfl) (fun _ _ _ h => h) (Or.inl ⟨by rfl, ?hs5⟩) (HK.out _ H.out) ?rs5
  case hs5 => (intro W hW; (try dsimp only at hW); go_simp; try with_reducible rfl)
  simp only [Act.put, List.getElem_toArray, List.getElem_cons_succ, List.getElem_cons_zero, List.setIfInBounds_toArray, List.set_cons_zero, List.set_cons_succ]
  refine wpAnyH_ready (rs := [2]) (by kernel_rfl) (by simp) ?_
  refine AllReadyH.cons rfl (fun K hK => ?_) AllReadyH.nil
  refine ready_call (f := 13) (vs := #[.agg #[.int .u8 (k : Int), .int .i64 i, .int .i64 b, .int .i64 f, .int .i64 t, .slice a n cap, .int .i64 c, .int .u64 (dn : Int), .int .u64 (ds : Int)], .agg #[.int .u8 (k' : Int), .int .i64 i', .int .i64 b', .int .i64 f', .int .i64 t', .slice a' n' cap', .int .i64 c', .int .u64 (dn' : Int), .int .u64 (ds' : Int)]]) (by rfl) (by (go_simp; try with_reducible rfl)) ?_
  refine (HSxy.out _ (HC.out _ H.out)).mono ?_
  rintro e v0 ⟨rfl, hb0⟩
  have H0 : Hid (Below w0.heap.size w0 v0) := Lib.hid (HT.out _ _ H.out hb0.out)
  refine ⟨_, rfl, hK.out _ _ (HK.out _ H0.out) (fun _ => ?_)⟩
  clear hK K hb0
  simp only [Act.put, List.getElem_toArray, List.getElem_cons_succ, List.getElem_cons_zero, List.setIfInBounds_toArray, List.set_cons_zero, List.set_cons_succ]
  refine wpAnyH_ready (rs := [4]) (by kernel_rfl) (by simp) ?_
  refine AllReadyH.cons rfl (fun K hK => ?_) AllReadyH.nil
  refine ready_call (f := 7) (vs := #[.agg #[.int .u8 (k : Int), .int .i64 i, .int .i64 b, .int .i64 f, .int .i64 t, .slice a n cap, .int .i64 c, .int .u64 (dn : Int), .int .u64 (ds : Int)]]) (by rfl) (by (go_simp; try with_reducible rfl)) ?_
  refine (HPx.out _ (HC.out _ H0.out)).mono ?_
  rintro e v1 ⟨rfl, hb1⟩
  have H1 : Hid (Below w0.heap.size w0 v1) := Lib.hid (HT.out _ _ H0.out hb1.out)
  refine ⟨_, rfl, hK.out _ _ (HK.out _ H1.out) (fun _ => ?_)⟩
  clear hK K hb1
  simp only [Act.put, List.getElem_toArray, List.getElem_cons_succ, List.getElem_cons_zero, List.setIfInBounds_toArray, List.set_cons_zero, List.set_cons_succ]
  refine wpAnyH_ready (rs := [6]) (by kernel_rfl) (by simp) ?_
  refine AllReadyH.cons rfl (fun K hK => ?_) AllReadyH.nil
  refine ready_call (f := 7) (vs := #[.agg #[.int .u8 (k' : Int), .int .i64 i', .int .i64 b', .int .i64 f', .int .i64 t', .slice a' n' cap', .int .i64 c', .int .u64 (dn' : Int), .int .u64 (ds' : Int)]]) (by rfl) (by (go_simp; try with_reducible rfl)) ?_
  refine (HPy.out _ (HC.out _ H1.out)).mono ?_
  rintro e v2 ⟨rfl, hb2⟩
  have H2 : Hid (Below w0.heap.size w0 v2) := Lib.hid (HT.out _ _ H1.out hb2.out)
  refine ⟨_, rfl, hK.out _ _ (HK.out _ H2.out) (fun _ => ?_)⟩
  clear hK K hb2
  simp only [Act.put, List.getElem_toArray, List.getElem_cons_succ, List.getElem_cons_zero, List.setIfInBounds_toArray, List.set_cons_zero, List.set_cons_succ]
  have hEE : (E == E) = true := by simp
  refine wpAnyH_take (i := 7) (v := ?vs7) rfl (by kernel_rfl) (by kernel_rfl) (by kernel_rfl) (fun _ _ _ h => h) (Or.inl ⟨by rfl, ?hs7⟩) (HK.out _ H2.out) ?rs7
  case hs7 => (intro W hW; (try dsimp only at hW); go_simp; try with_reducible rfl)
  simp only [Act.put, List.getElem_toArray, List.getElem_cons_succ, List.getElem_cons_zero, List.setIfInBounds_toArray, List.set_cons_zero, List.set_cons_succ]
  refine wpAnyH_take (i := 8) (v := ?vs8) rfl (by kernel_rfl) (by kernel_rfl) (by kernel_rfl) (fun _ _ _ h => h) (Or.inl ⟨by rfl, ?hs8⟩) (HK.out _ H2.out) ?rs8
  case hs8 => (intro W hW; (try dsimp only at hW); go_simp; try with_reducible rfl)
  simp only [Act.put, List.getElem_toArray, List.getElem_cons_succ, List.getElem_cons_zero, List.setIfInBounds_toArray, List.set_cons_zero, List.set_cons_succ]
  refine wpAnyH_take (i := 9) (v := ?vs9) rfl (by kernel_rfl) (by kernel_rfl) (by kernel_rfl) (fun _ _ _ h => h) (Or.inl ⟨by rfl, ?hs9⟩) (HK.out _ H2.out) ?rs9
  case hs9 => (intro W hW; (try dsimp only at hW); go_simp; try with_reducible rfl)
  simp only [Act.put, List.getElem_toArray, List.getElem_cons_succ, List.getElem_cons_zero, List.setIfInBounds_toArray, List.set_cons_zero, List.set_cons_succ]
  refine wpAnyH_take (i := 10) (v := ?vs10) rfl (by kernel_rfl) (by kernel_rfl) (by kernel_rfl) (fun _ _ _ h => h) (Or.inl ⟨by rfl, ?hs10⟩) (HK.out _ H2.out) ?rs10
  case hs10 => (intro W hW; (try dsimp only at hW); go_simp; try with_reducible rfl)
  simp only [Act.put, List.getElem_toArray, List.getElem_cons_succ, List.getElem_cons_zero, List.setIfInBounds_toArray, List.set_cons_zero, List.set_cons_succ]
  refine wpAnyH_take (i := 11) (v := ?vs11) rfl (by kernel_rfl) (by kernel_rfl) (by kernel_rfl) (fun _ _ _ h => h) (Or.inl ⟨by rfl, ?hs11⟩) (HK.out _ H2.out) ?rs11
  case hs11 => (intro W hW; (try dsimp only at hW); go_simp; try with_reducible rfl)
  simp only [Act.put, List.getElem_toArray, List.getElem_cons_succ, List.getElem_cons_zero, List.setIfInBounds_toArray, List.set_cons_zero, List.set_cons_succ]
  refine wpAnyH_ready (rs := [12]) (by kernel_rfl) (by simp) ?_
  refine AllReadyH.cons rfl (fun K hK => ?_) AllReadyH.nil
  refine ready_call (f := 13) (vs := #[.agg #[.int .u8 (k : Int), .int .i64 i, .int .i64 b, .int .i64 f, .int .i64 t, .slice a n cap, .int .i64 c, .int .u64 (dn : Int), .int .u64 (ds : Int)], .agg #[.int .u8 (k : Int), .int .i64 i, .int .i64 b, .int .i64 f, .int .i64 t, .slice a n cap, .int .i64 c, .int .u64 (dn : Int), .int .u64 (ds : Int)]]) (by rfl) (by (go_simp; try with_reducible rfl)) ?_
  refine (HSxx.out _ (HC.out _ H2.out)).mono ?_
  rintro e v3 ⟨rfl, hb3⟩
  have H3 : Hid (Below w0.heap.size w0 v3) := Lib.hid (HT.out _ _ H2.out hb3.out)
  refine ⟨_, rfl, hK.out _ _ (HK.out _ H3.out) (fun _ => ?_)⟩
  clear hK K hb3
  simp only [Act.put, List.getElem_toArray, List.getElem_cons_succ, List.getElem_cons_zero, List.setIfInBounds_toArray, List.set_cons_zero, List.set_cons_succ]
  refine wpAnyH_take (i := 13) (v := ?vs13) rfl (by kernel_rfl) (by kernel_rfl) (by kernel_rfl) (fun _ _ _ h => h) (Or.inl ⟨by rfl, ?hs13⟩) (HK.out _ H3.out) ?rs13
  case hs13 => (intro W hW; (try dsimp only at hW); go_simp; try with_reducible rfl)
  simp only [Act.put, List.getElem_toArray, List.getElem_cons_succ, List.getElem_cons_zero, List.setIfInBounds_toArray, List.set_cons_zero, List.set_cons_succ]
  refine wpAnyH_take (i := 14) (v := ?vs14) rfl (by kernel_rfl) (by kernel_rfl) (by kernel_rfl) (fun _ _ _ h => h) (Or.inl ⟨by rfl, ?hs14⟩) (HK.out _ H3.out) ?rs14
  case hs14 => (intro W hW; (try dsimp only at hW); go_simp; try with_reducible rfl)
  simp only [Act.put, List.getElem_toArray, List.getElem_cons_succ, List.getElem_cons_zero, List.setIfInBounds_toArray, List.set_cons_zero, List.set_cons_succ]
  refine wpAnyH_done (by kernel_rfl) ?_ _
  go_wp2
  go_ret
  exact ⟨rfl, HC.out _ H3.out⟩

end Go.Proofs.Ytngnlnkkehnomaa
