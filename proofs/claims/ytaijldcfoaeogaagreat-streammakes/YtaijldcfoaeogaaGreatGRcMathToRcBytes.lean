/- Records that are ones: the four kinds; a record's bytes; what bytes come to. Plain mathematics. -/
import Derived.Test.YtaijldcfoaeogaaGreatRcValid
import Derived.Test.YtaijldcfoaeogaaGreatGVPutToVBytes
import Derived.Test.YtaijldcfoaeogaaGreatGCheckOfToVRdrBytesC
import Derived.Test.YtaijldcfoaeogaaGreatReadyC
import Derived.Test.YtaijldcfoaeogaaGreatOrders
import Derived.Test.YtaijldcfoaeogaaGreatGRcDataToClone
namespace Go.Proofs.YtaijldcfoaeogaaGreat
open Go.RowKit
set_option maxRecDepth 100000
set_option linter.unusedSimpArgs false

theorem Rec.ok_cases {x : Rec} (h : x.ok = true) :
    (∃ i b : Nat, i ≤ 1099511627776 ∧ b ≤ 1099511627776 ∧ x = ⟨1, i, b, 0, 0, [], 0, 0, 0⟩) ∨
    (∃ (f t : Nat) (l : List Nat), f < t ∧ t ≤ f + 4 ∧ t ≤ 256 ∧ l.length = (t - f) * 32 ∧ x = ⟨2, 0, 0, f, t, l, 0, 0, 0⟩) ∨
    (∃ f t : Nat, f < t ∧ t ≤ 256 ∧ x = ⟨3, 0, 0, f, t, [], 0, 0, 0⟩) ∨
    (∃ c n s : Nat, c ≤ 1099511627776 ∧ n ≤ 1099511627776 ∧ s < 2305843009213693951 ∧ x = ⟨4, 0, 0, 0, 0, [], c, n, s⟩) := by
  obtain ⟨k, i, b, f, t, l, c, n, s⟩ := x
  unfold Rec.ok at h
  simp only at h
  split at h
  · rename_i h1
    simp only [Bool.and_eq_true, isNum, decide_eq_true_eq, Rec.eq_iff, Rec.mk.injEq] at h
    obtain ⟨⟨a1, a2⟩, ⟨a3, a4⟩, -, -, -, rfl, rfl, rfl, rfl, rfl, rfl⟩ := h
    refine .inl ⟨i.toNat, b.toNat, by omega, by omega, ?_⟩
    have e1 : ((i.toNat : Nat) : Int) = i := by omega
    have e2 : ((b.toNat : Nat) : Int) = b := by omega
    rw [e1, e2, h1]
  split at h
  · rename_i h1
    simp only [Bool.and_eq_true, isRunB, decide_eq_true_eq, Rec.eq_iff, Rec.mk.injEq] at h
    obtain ⟨⟨a1, a2, a3⟩, a4, a5, -, rfl, rfl, -, -, -, rfl, rfl, rfl⟩ := h
    refine .inr (.inl ⟨f.toNat, t.toNat, l, by omega, by omega, by omega, by omega, ?_⟩)
    have e1 : ((f.toNat : Nat) : Int) = f := by omega
    have e2 : ((t.toNat : Nat) : Int) = t := by omega
    rw [e1, e2, h1]
  split at h
  · rename_i h1
    simp only [Bool.and_eq_true, isRunB, decide_eq_true_eq, Rec.eq_iff, Rec.mk.injEq] at h
    obtain ⟨⟨a1, a2, a3⟩, -, rfl, rfl, -, -, rfl, rfl, rfl, rfl⟩ := h
    refine .inr (.inr (.inl ⟨f.toNat, t.toNat, by omega, by omega, ?_⟩))
    have e1 : ((f.toNat : Nat) : Int) = f := by omega
    have e2 : ((t.toNat : Nat) : Int) = t := by omega
    rw [e1, e2, h1]
  split at h
  · rename_i h1
    simp only [Bool.and_eq_true, isNum, decide_eq_true_eq, Rec.eq_iff, Rec.mk.injEq] at h
    obtain ⟨⟨a1, a2⟩, a3, a4, -, rfl, rfl, rfl, rfl, rfl, -, -, -⟩ := h
    refine .inr (.inr (.inr ⟨c.toNat, n, s, by omega, by omega, by omega, ?_⟩))
    have e1 : ((c.toNat : Nat) : Int) = c := by omega
    rw [e1, h1]
  · cases h

/-- What is sealed of a record. -/
def Rec.plain (x : Rec) : List Nat :=
  x.k :: (if x.k = 1 then vEnc x.i.toNat ++ vEnc x.b.toNat else if x.k = 2 then vEnc x.f.toNat ++ x.l else if x.k = 3 then vEnc x.f.toNat ++ vEnc x.t.toNat else vEnc x.c.toNat ++ (vEnc x.n ++ vEnc x.s))

/-- A record's bytes. -/
def Rec.bytes (x : Rec) : List Nat := tEnc (x.plain ++ sumB (cSum x.plain))

theorem Rec.plain_len {x : Rec} (h : x.ok = true) : 1 ≤ x.plain.length ∧ x.plain.length ≤ 139 := by
  rcases Rec.ok_cases h with ⟨i, b, h1, h2, rfl⟩ | ⟨f, t, l, h1, h2, h3, h4, rfl⟩ | ⟨f, t, h1, h2, rfl⟩ | ⟨c, n, s, h1, h2, h3, rfl⟩
  · have e1 := vEnc_len10 (n := i) (by omega)
    have e2 := vEnc_len10 (n := b) (by omega)
    simp [Rec.plain]; omega
  · have e1 := vEnc_len10 (n := f) (by omega)
    simp [Rec.plain]; omega
  · have e1 := vEnc_len10 (n := f) (by omega)
    have e2 := vEnc_len10 (n := t) (by omega)
    simp [Rec.plain]; omega
  · have e1 := vEnc_len10 (n := c) (by omega)
    have e2 := vEnc_len10 (n := n) (by omega)
    have e3 := vEnc_len10 (n := s) (by omega)
    simp [Rec.plain]; omega

theorem Rec.plain_byte {x : Rec} (h : x.ok = true) (hl : ∀ z ∈ x.l, z < 256) : ∀ z ∈ x.plain, z < 256 := by
  rcases Rec.ok_cases h with ⟨i, b, h1, h2, rfl⟩ | ⟨f, t, l, h1, h2, h3, h4, rfl⟩ | ⟨f, t, h1, h2, rfl⟩ | ⟨c, n, s, h1, h2, h3, rfl⟩
  all_goals
    intro z hz
    simp [Rec.plain] at hz
  · rcases hz with rfl | hz | hz
    · omega
    · exact vEnc_byte _ z hz
    · exact vEnc_byte _ z hz
  · rcases hz with rfl | hz | hz
    · omega
    · exact vEnc_byte _ z hz
    · exact hl z hz
  · rcases hz with rfl | hz | hz
    · omega
    · exact vEnc_byte _ z hz
    · exact vEnc_byte _ z hz
  · rcases hz with rfl | hz | hz | hz
    · omega
    · exact vEnc_byte _ z hz
    · exact vEnc_byte _ z hz
    · exact vEnc_byte _ z hz

end Go.Proofs.YtaijldcfoaeogaaGreat

/- What is sealed of a record: plain's contract, over any world. -/
namespace Go.Proofs.YtaijldcfoaeogaaGreat
open Go.RowKit
set_option maxRecDepth 100000
set_option linter.unusedSimpArgs false

/-- In a region that draws its order: bytes appended to a row of the call's own. -/
theorem ready_append {o : Oper} {a : Act} {w : World} {K : Act → World → Prop} {Q : Exit → Act → World → Prop} {c : Prop} [Decidable c] (hw : c) (s x : Operand)
    (hop : o.op = .call { callee := .builtin .append, args := #[s, x], argTypes := #[31, 31] }) (v : Value) (hs : a.eval s = v) (A : Option Addr) (n cap : Nat) (hx : a.eval x = .slice A n cap)
    (base : Nat) (l0 : List Nat) (ho : Own w base v l0) (hbase : base ≤ w.heap.size) (l : List Nat) (hr : Rd w A n l) (hn : l0.length + n ≤ 3000000)
    (h : ∀ v' w', Own w' base v' (l0 ++ l) → Below base w w' → K (a.put o.dst v') w') : if c then Oper.wp Tryz.prog o a w K Q else K (a.put o.dst undef) w := by
  obtain ⟨v', w', hrun, h1, h2⟩ := run_append_rd w base v l0 ho hbase A n cap l hr hn o.type
  rw [if_pos hw]
  unfold Oper.wp execOp
  simp only [hop, resolve, invoke, builtin, Sem.run_bind, Sem.run_pure, Result.andThen_ok, List.map_toArray, List.map_cons, List.map_nil, hs, hx, hrun]
  exact h v' w' h1 h2

theorem rdU_one {w : World} {ty : TypeId} {x g : Nat} (hx : x ≤ 18446744073709551615) (hg : g = w.heap.size) : RdU (w.alloc (.cells #[.int .u64 (x : Int)] ty)) (some ⟨g, 0, none⟩) 1 [x] := by
  subst hg
  refine ⟨rfl, by simp; omega, fun _ => ⟨_, _, rfl, fun j hj => ?_⟩⟩
  rw [World.cell?_alloc_new]
  obtain rfl : j = 0 := by omega
  rfl

theorem rdU_two {w : World} {ty : TypeId} {x y g : Nat} (hx : x ≤ 18446744073709551615) (hy : y ≤ 18446744073709551615) (hg : g = w.heap.size) :
    RdU (w.alloc (.cells #[.int .u64 (x : Int), .int .u64 (y : Int)] ty)) (some ⟨g, 0, none⟩) 2 [x, y] := by
  subst hg
  refine ⟨rfl, by simp; omega, fun _ => ⟨_, _, rfl, fun j hj => ?_⟩⟩
  rw [World.cell?_alloc_new]
  rcases (by omega : j = 0 ∨ j = 1) with rfl | rfl <;> rfl

theorem rdU_three {w : World} {ty : TypeId} {x y z g : Nat} (hx : x ≤ 18446744073709551615) (hy : y ≤ 18446744073709551615) (hz : z ≤ 18446744073709551615) (hg : g = w.heap.size) :
    RdU (w.alloc (.cells #[.int .u64 (x : Int), .int .u64 (y : Int), .int .u64 (z : Int)] ty)) (some ⟨g, 0, none⟩) 3 [x, y, z] := by
  subst hg
  refine ⟨rfl, by simp; omega, fun _ => ⟨_, _, rfl, fun j hj => ?_⟩⟩
  rw [World.cell?_alloc_new]
  rcases (by omega : j = 0 ∨ j = 1 ∨ j = 2) with rfl | rfl | rfl <;> rfl

theorem rd_one {w : World} {x : Nat} (hx : x < 256) : Rd (w.alloc (.cells #[.int .u8 (x : Int)] 5)) (some ⟨w.heap.size, 0, none⟩) 1 [x] :=
  rd_new w [x] (by simpa using hx)

theorem wrap_u64 {m : Nat} (h : m ≤ 18446744073709551615) : IntKind.u64.wrap (m : Int) = m := by rw [IntKind.wrap_u64]; omega

theorem rd_one_at {w : World} {z : Int} {x g : Nat} (hx : x < 256) (hz : z = x) (hg : g = w.heap.size) : Rd (w.alloc (.cells #[.int .u8 z] 5)) (some ⟨g, 0, none⟩) 1 [x] := by
  subst hz hg
  exact rd_one hx

set_option maxHeartbeats 1000000 in
set_option maxRecDepth 100000 in
theorem plain_head (i b : Nat) (a : Option Addr) (n cap : Nat) (w : World) (hi : i ≤ 1099511627776) (hb : b ≤ 1099511627776) :
    Calls Tryz.prog 62 #[rcV ⟨1, i, b, 0, 0, [], 0, 0, 0⟩ a n cap] w fun e w' => ∃ v, e = .returned v ∧ Own w' w.heap.size v (Rec.plain ⟨1, i, b, 0, 0, [], 0, 0, 0⟩) ∧ Below w.heap.size w w' := by
  have HP : Hid (∀ W U, Rd W (some ⟨w.heap.size + 1, 0, none⟩) 1 [1] → RdU W U 2 [i, b] → Below w.heap.size w W → Calls Tryz.prog 83 #[.slice (some ⟨w.heap.size + 1, 0, none⟩) 1 1, .slice U 2 2] W fun e w' => ∃ v, e = .returned v ∧ Hid (Own w' w.heap.size v (Rec.plain ⟨1, i, b, 0, 0, [], 0, 0, 0⟩)) ∧ Hid (Below w.heap.size w w')) := by
    refine Lib.hid fun W U h1 h2 hW => (put_any _ 1 1 [1] U 2 2 _ W h1 h2 (by omega) (by omega)).mono ?_
    rintro e w' ⟨v, rfl, ho, hb⟩
    refine ⟨v, rfl, Lib.hid ?_, Lib.hid (hW.trans (hb.mono hW.size))⟩
    have hl : [1] ++ [i, b].flatMap vEnc = Rec.plain ⟨1, i, b, 0, 0, [], 0, 0, 0⟩ := by simp [Rec.plain]
    rw [← hl]
    exact ho.mono hW.size
  simp only [rcV]
  go_enter Tryz.func62, Tryz.ntmps62
  go_wp2_with fail
  refine (HP.out _ _ ?hr ?hu ?hw).mono ?_
  case hr => exact (rd_one_at (x := 1) (by omega) rfl (by simp)).later (Below.alloc0 _ _)
  case hu => exact rdU_two (x := i) (y := b) (by omega) (by omega) (by simp)
  case hw => exact (((Below.refl _ _).alloc (Nat.le_refl _) _).alloc (by simp) _).alloc (by simp; omega) _
  rintro e w1 ⟨v, rfl, HO, HB⟩
  go_wp2
  go_ret
  exact ⟨_, rfl, HO.out, HB.out⟩

set_option maxHeartbeats 1000000 in
set_option maxRecDepth 100000 in
theorem plain_hole (f t : Nat) (a : Option Addr) (n cap : Nat) (w : World) (hi : f ≤ 256) (hb : t ≤ 256) :
    Calls Tryz.prog 62 #[rcV ⟨3, 0, 0, f, t, [], 0, 0, 0⟩ a n cap] w fun e w' => ∃ v, e = .returned v ∧ Own w' w.heap.size v (Rec.plain ⟨3, 0, 0, f, t, [], 0, 0, 0⟩) ∧ Below w.heap.size w w' := by
  have HP : Hid (∀ W U, Rd W (some ⟨w.heap.size + 1, 0, none⟩) 1 [3] → RdU W U 2 [f, t] → Below w.heap.size w W → Calls Tryz.prog 83 #[.slice (some ⟨w.heap.size + 1, 0, none⟩) 1 1, .slice U 2 2] W fun e w' => ∃ v, e = .returned v ∧ Hid (Own w' w.heap.size v (Rec.plain ⟨3, 0, 0, f, t, [], 0, 0, 0⟩)) ∧ Hid (Below w.heap.size w w')) := by
    refine Lib.hid fun W U h1 h2 hW => (put_any _ 1 1 [3] U 2 2 _ W h1 h2 (by omega) (by omega)).mono ?_
    rintro e w' ⟨v, rfl, ho, hb⟩
    refine ⟨v, rfl, Lib.hid ?_, Lib.hid (hW.trans (hb.mono hW.size))⟩
    have hl : [3] ++ [f, t].flatMap vEnc = Rec.plain ⟨3, 0, 0, f, t, [], 0, 0, 0⟩ := by simp [Rec.plain]
    rw [← hl]
    exact ho.mono hW.size
  simp only [rcV]
  go_enter Tryz.func62, Tryz.ntmps62
  go_wp2_with fail
  refine (HP.out _ _ ?hr ?hu ?hw).mono ?_
  case hr => exact (rd_one_at (x := 3) (by omega) rfl (by simp)).later (Below.alloc0 _ _)
  case hu => exact rdU_two (x := f) (y := t) (by omega) (by omega) (by simp)
  case hw => exact (((Below.refl _ _).alloc (Nat.le_refl _) _).alloc (by simp) _).alloc (by simp; omega) _
  rintro e w1 ⟨v, rfl, HO, HB⟩
  go_wp2
  go_ret
  exact ⟨_, rfl, HO.out, HB.out⟩

set_option maxHeartbeats 1000000 in
set_option maxRecDepth 100000 in
theorem plain_tail (c dn ds : Nat) (a : Option Addr) (n cap : Nat) (w : World) (hc : c ≤ 1099511627776) (hn : dn ≤ 1099511627776) (hs : ds < 2305843009213693951) :
    Calls Tryz.prog 62 #[rcV ⟨4, 0, 0, 0, 0, [], c, dn, ds⟩ a n cap] w fun e w' => ∃ v, e = .returned v ∧ Own w' w.heap.size v (Rec.plain ⟨4, 0, 0, 0, 0, [], c, dn, ds⟩) ∧ Below w.heap.size w w' := by
  have HP : Hid (∀ W U, Rd W (some ⟨w.heap.size + 1, 0, none⟩) 1 [4] → RdU W U 3 [c, dn, ds] → Below w.heap.size w W → Calls Tryz.prog 83 #[.slice (some ⟨w.heap.size + 1, 0, none⟩) 1 1, .slice U 3 3] W fun e w' => ∃ v, e = .returned v ∧ Hid (Own w' w.heap.size v (Rec.plain ⟨4, 0, 0, 0, 0, [], c, dn, ds⟩)) ∧ Hid (Below w.heap.size w w')) := by
    refine Lib.hid fun W U h1 h2 hW => (put_any _ 1 1 [4] U 3 3 _ W h1 h2 (by omega) (by omega)).mono ?_
    rintro e w' ⟨v, rfl, ho, hb⟩
    refine ⟨v, rfl, Lib.hid ?_, Lib.hid (hW.trans (hb.mono hW.size))⟩
    have hl : [4] ++ [c, dn, ds].flatMap vEnc = Rec.plain ⟨4, 0, 0, 0, 0, [], c, dn, ds⟩ := by simp [Rec.plain]
    rw [← hl]
    exact ho.mono hW.size
  simp only [rcV]
  go_enter Tryz.func62, Tryz.ntmps62
  go_wp2_with fail
  refine (HP.out _ _ ?hr ?hu ?hw).mono ?_
  case hr => exact (rd_one_at (x := 4) (by omega) rfl (by simp)).later (Below.alloc0 _ _)
  case hu => exact rdU_three (x := c) (y := dn) (z := ds) (by omega) (by omega) (by omega) (by simp)
  case hw => exact (((Below.refl _ _).alloc (Nat.le_refl _) _).alloc (by simp) _).alloc (by simp; omega) _
  rintro e w1 ⟨v, rfl, HO, HB⟩
  go_wp2
  go_ret
  exact ⟨_, rfl, HO.out, HB.out⟩

set_option maxHeartbeats 2000000 in
set_option maxRecDepth 100000 in
theorem plain_data (f t : Nat) (l : List Nat) (a : Option Addr) (n cap : Nat) (w : World) (hf : f ≤ 256) (hl : l.length ≤ 1000) (h : Rd w a n l) :
    Calls Tryz.prog 62 #[rcV ⟨2, 0, 0, f, t, l, 0, 0, 0⟩ a n cap] w fun e w' => ∃ v, e = .returned v ∧ Own w' w.heap.size v (Rec.plain ⟨2, 0, 0, f, t, l, 0, 0, 0⟩) ∧ Below w.heap.size w w' := by
  obtain ⟨w0, hw0⟩ : ∃ w0, w0 = (w.alloc (.cells #[.int .u8 2, .int .i64 0, .int .i64 0, .int .i64 (f : Int), .int .i64 (t : Int), .slice a n cap, .int .i64 0, .int .u64 0, .int .u64 0] 57)).alloc (.cells #[.int .u8 2] 5) := ⟨_, rfl⟩
  obtain ⟨q, hq⟩ : ∃ q, q = w.heap.size := ⟨_, rfl⟩
  have HW : Hid ((w.alloc (.cells #[.int .u8 2, .int .i64 0, .int .i64 0, .int .i64 (f : Int), .int .i64 (t : Int), .slice a n cap, .int .i64 0, .int .u64 0, .int .u64 0] 57)).alloc (.cells #[.int .u8 2] 5) = w0 ∧ w.heap.size = q) := Lib.hid ⟨hw0.symm, hq.symm⟩
  have hsz : w0.heap.size = q + 2 := by rw [hw0, hq]; simp
  have hbw : Below w.heap.size w w0 := by rw [hw0]; exact ((Below.refl _ _).alloc (Nat.le_refl _) _).alloc (by simp) _
  have hblk : w0.heap[q]? = some (.cells #[.int .u8 2, .int .i64 0, .int .i64 0, .int .i64 (f : Int), .int .i64 (t : Int), .slice a n cap, .int .i64 0, .int .u64 0, .int .u64 0] 57 (0, 0)) := by
    rw [hw0, hq]
    refine (heap_alloc_old _ _ (by simp)).trans (heap_alloc_new w _)
  have hr0 : Rd w0 a n l := by rw [hw0]; exact (h.later (Below.alloc0 _ _)).later (Below.alloc0 _ _)
  have hb0 : Rd w0 (some ⟨q + 1, 0, none⟩) 1 [2] := by rw [hw0, hq]; exact rd_one_at (x := 2) (by omega) rfl (by simp)
  have HK : Hid (∀ W, Below w0.heap.size w0 W → W.cell? ⟨q, 3, none⟩ = some (.int .i64 (f : Int)) ∧ W.cell? ⟨q, 5, none⟩ = some (.slice a n cap)) := by
    refine Lib.hid fun W hW => ?_
    have hx := (hW.block q (by omega)).trans hblk
    refine ⟨?_, ?_⟩ <;> simp [World.cell?, hx]
  have HP : Hid (∀ W U, RdU W U 1 [f] → Below w0.heap.size w0 W → Calls Tryz.prog 83 #[.slice (some ⟨q + 1, 0, none⟩) 1 1, .slice U 1 1] W fun e w' => ∃ v, e = .returned v ∧ Hid (Own w' w0.heap.size v ([2] ++ vEnc f)) ∧ Hid (Below w0.heap.size w0 w')) := by
    refine Lib.hid fun W U h2 hW => (put_any _ 1 1 [2] U 1 1 _ W (hb0.later hW) h2 (by omega) (by omega)).mono ?_
    rintro e w' ⟨v, rfl, ho, hb⟩
    refine ⟨v, rfl, Lib.hid ?_, Lib.hid (hW.trans (hb.mono hW.size))⟩
    have e1 : [f].flatMap vEnc = vEnc f := by simp
    rw [e1] at ho
    exact ho.mono hW.size
  have HR0 := Lib.hid hr0
  have HC0 : Hid (w0.cell? ⟨q, 0, none⟩ = some (.int .u8 2)) := Lib.hid (by simp [World.cell?, hblk])
  have HFIN : Hid (∀ W v, Own W w0.heap.size v (([2] ++ vEnc f) ++ l) → Below w0.heap.size w0 W → Own W w.heap.size v (Rec.plain ⟨2, 0, 0, f, t, l, 0, 0, 0⟩) ∧ Below w.heap.size w W) := by
    refine Lib.hid fun W v ho hW => ⟨?_, hbw.trans (hW.mono hbw.size)⟩
    have e1 : ([2] ++ vEnc f) ++ l = Rec.plain ⟨2, 0, 0, f, t, l, 0, 0, 0⟩ := by simp [Rec.plain]
    rw [← e1]
    exact ho.mono hbw.size
  have hlen : ([2] ++ vEnc f).length ≤ 20 := by have := vEnc_len10 (n := f) (by omega); simp; omega
  have HLN := Lib.hid hlen
  have HN := Lib.hid h.1
  have hu := wrap_u64 (m := f) (by omega)
  have HSZ := Lib.hid hsz
  clear hw0 hq hbw hblk hr0 hb0 h hlen hsz
  simp only [rcV]
  go_enter Tryz.func62, Tryz.ntmps62
  go_upto_region 2 with fail
  change Code.wp _ _ _ _ ((w.alloc (.cells #[.int .u8 2, .int .i64 0, .int .i64 0, .int .i64 (f : Int), .int .i64 (t : Int), .slice a n cap, .int .i64 0, .int .u64 0, .int .u64 0] 57)).alloc (.cells #[.int .u8 2] 5))
  rw [HW.out.1]
  try rw [HW.out.2]
  have cK := HC0.out
  go_upto_region 7 with fail
  have H : Hid (Below w0.heap.size w0 w0.drew) := Lib.hid (Below.refl _ _).drew
  refine wp_region_held_drew (S := fun W => W.cell? ⟨q, 3, none⟩ = some (.int .i64 (f : Int)) ∧ W.cell? ⟨q, 5, none⟩ = some (.slice a n cap)) (by kernel_rfl) (HK.out _ H.out) (fun _ => ?_)
  refine wpAnyH_take (i := 0) (v := ?va0) rfl (by kernel_rfl) (by kernel_rfl) (by kernel_rfl) (fun _ _ _ h => h) (Or.inl ⟨by rfl, ?ha0⟩) (HK.out _ H.out) ?ra0
  case ha0 => (intro W hW; (try dsimp only at hW); go_simp; try with_reducible rfl)
  simp only [Act.put, List.getElem_toArray, List.getElem_cons_succ, List.getElem_cons_zero, List.setIfInBounds_toArray, List.set_cons_zero, List.set_cons_succ]
  refine wpAnyH_take (i := 1) (v := ?va1) rfl (by kernel_rfl) (by kernel_rfl) (by kernel_rfl) (fun _ _ _ h => h) (Or.inl ⟨by rfl, ?ha1⟩) (HK.out _ H.out) ?ra1
  case ha1 => (intro W hW; (try dsimp only at hW); go_simp; try with_reducible rfl)
  simp only [Act.put, List.getElem_toArray, List.getElem_cons_succ, List.getElem_cons_zero, List.setIfInBounds_toArray, List.set_cons_zero, List.set_cons_succ]
  refine wpAnyH_take (i := 2) (v := ?va2) rfl (by kernel_rfl) (by kernel_rfl) (by kernel_rfl) (fun _ _ _ h => h) (Or.inl ⟨by rfl, ?ha2⟩) (HK.out _ H.out) ?ra2
  case ha2 => (intro W hW; (try dsimp only at hW); go_simp; try with_reducible rfl)
  simp only [Act.put, List.getElem_toArray, List.getElem_cons_succ, List.getElem_cons_zero, List.setIfInBounds_toArray, List.set_cons_zero, List.set_cons_succ]
  refine wpAnyH_take (i := 3) (v := ?va3) rfl (by kernel_rfl) (by kernel_rfl) (by kernel_rfl) (fun _ _ _ h => h) (Or.inl ⟨by rfl, ?ha3⟩) (HK.out _ H.out) ?ra3
  case ha3 => (intro W hW; (try dsimp only at hW); go_simp; try with_reducible rfl)
  simp only [Act.put, List.getElem_toArray, List.getElem_cons_succ, List.getElem_cons_zero, List.setIfInBounds_toArray, List.set_cons_zero, List.set_cons_succ]
  refine wpAnyH_take (i := 4) (v := ?va4) rfl (by kernel_rfl) (by kernel_rfl) (by kernel_rfl) (fun _ _ _ h => h) (Or.inl ⟨by rfl, ?ha4⟩) (HK.out _ H.out) ?ra4
  case ha4 => (intro W hW; (try dsimp only at hW); go_simp; try with_reducible rfl)
  simp only [Act.put, List.getElem_toArray, List.getElem_cons_succ, List.getElem_cons_zero, List.setIfInBounds_toArray, List.set_cons_zero, List.set_cons_succ]
  refine wpAnyH_take (i := 7) (v := ?va7) rfl (by kernel_rfl) (by kernel_rfl) (by kernel_rfl) (fun _ _ _ h => h) (Or.inl ⟨by rfl, ?ha7⟩) (HK.out _ H.out) ?ra7
  case ha7 => (intro W hW; (try dsimp only at hW); go_simp; try with_reducible rfl)
  simp only [Act.put, List.getElem_toArray, List.getElem_cons_succ, List.getElem_cons_zero, List.setIfInBounds_toArray, List.set_cons_zero, List.set_cons_succ]
  refine wpAnyH_take (i := 8) (v := ?va8) rfl (by kernel_rfl) (by kernel_rfl) (by kernel_rfl) (fun _ _ _ h => h) (Or.inl ⟨by rfl, ?ha8⟩) (HK.out _ H.out) ?ra8
  case ha8 => (intro W hW; (try dsimp only at hW); go_simp; try with_reducible rfl)
  simp only [Act.put, List.getElem_toArray, List.getElem_cons_succ, List.getElem_cons_zero, List.setIfInBounds_toArray, List.set_cons_zero, List.set_cons_succ]
  refine wpAnyH_ready (rs := [5]) (by kernel_rfl) (by simp) ?_
  refine AllReadyH.cons rfl (fun K hK => ?_) AllReadyH.nil
  refine ready_made (v := .slice (some ⟨w0.drew.heap.size, 0, none⟩) 1 1) (w' := w0.drew.alloc (.cells #[.int .u64 (f : Int)] 48)) (by rfl) (by (go_simp; try with_reducible rfl)) ?_
  have H1 : Hid (Below w0.heap.size w0 (w0.drew.alloc (.cells #[.int .u64 (f : Int)] 48))) := Lib.hid (H.out.alloc (Nat.le_refl _) _)
  refine hK.out _ _ (HK.out _ H1.out) (fun _ => ?_)
  clear hK K
  simp only [Act.put, List.getElem_toArray, List.getElem_cons_succ, List.getElem_cons_zero, List.setIfInBounds_toArray, List.set_cons_zero, List.set_cons_succ]
  refine wpAnyH_ready (rs := [6]) (by kernel_rfl) (by simp) ?_
  refine AllReadyH.cons rfl (fun K hK => ?_) AllReadyH.nil
  refine ready_call (f := 83) (vs := #[.slice (some ⟨q + 1, 0, none⟩) 1 1, .slice (some ⟨w0.drew.heap.size, 0, none⟩) 1 1]) (by rfl) (by (go_simp; try with_reducible rfl)) ?_
  refine (HP.out _ _ (rdU_one (w := w0.drew) (x := f) (by omega) rfl) H1.out).mono ?_
  rintro e w2 ⟨v, rfl, HO, HB⟩
  refine ⟨_, rfl, hK.out _ _ (HK.out _ HB.out) (fun _ => ?_)⟩
  clear hK K
  simp only [Act.put, List.getElem_toArray, List.getElem_cons_succ, List.getElem_cons_zero, List.setIfInBounds_toArray, List.set_cons_zero, List.set_cons_succ]
  refine wpAnyH_ready (rs := [9]) (by kernel_rfl) (by simp) ?_
  refine AllReadyH.cons rfl (fun K hK => ?_) AllReadyH.nil
  refine ready_append (by rfl) _ _ (by rfl) v (by rfl) a n cap (by rfl) w0.heap.size _ HO.out HB.out.size l (HR0.out.later HB.out) (by have := HLN.out; have := HN.out; omega) ?_
  intro v' w' ho hb
  have HB2 : Hid (Below w0.heap.size w0 w') := Lib.hid (HB.out.trans hb)
  have HF := Lib.hid (HFIN.out _ _ ho HB2.out)
  clear ho hb
  refine hK.out _ _ (HK.out _ HB2.out) (fun _ => ?_)
  clear hK K
  simp only [Act.put, List.getElem_toArray, List.getElem_cons_succ, List.getElem_cons_zero, List.setIfInBounds_toArray, List.set_cons_zero, List.set_cons_succ]
  refine wpAnyH_take (i := 10) (v := ?va10) rfl (by kernel_rfl) (by kernel_rfl) (by kernel_rfl) (fun _ _ _ h => h) (Or.inl ⟨by rfl, ?ha10⟩) (HK.out _ HB2.out) ?ra10
  case ha10 => (intro W hW; (try dsimp only at hW); go_simp; try with_reducible rfl)
  simp only [Act.put, List.getElem_toArray, List.getElem_cons_succ, List.getElem_cons_zero, List.setIfInBounds_toArray, List.set_cons_zero, List.set_cons_succ]
  refine wpAnyH_done (by kernel_rfl) ?_ _
  go_wp2
  go_ret
  exact ⟨_, rfl, HF.out⟩

/-- What is sealed of a record that is one. -/
theorem plain_any (x : Rec) (a : Option Addr) (n cap : Nat) (w : World) (hx : x.ok = true) (h : Rd w a n x.l) :
    Calls Tryz.prog 62 #[rcV x a n cap] w fun e w' => ∃ v, e = .returned v ∧ Own w' w.heap.size v x.plain ∧ Below w.heap.size w w' := by
  rcases Rec.ok_cases hx with ⟨i, b, h1, h2, rfl⟩ | ⟨f, t, l, h1, h2, h3, h4, rfl⟩ | ⟨f, t, h1, h2, rfl⟩ | ⟨c, dn, ds, h1, h2, h3, rfl⟩
  · exact plain_head i b a n cap w h1 h2
  · exact plain_data f t l a n cap w (by omega) (by omega) h
  · exact plain_hole f t a n cap w (by omega) (by omega)
  · exact plain_tail c dn ds a n cap w h1 h2 h3

end Go.Proofs.YtaijldcfoaeogaaGreat

/- A record's bytes: the contract of Bytes, over any world. -/
namespace Go.Proofs.YtaijldcfoaeogaaGreat
open Go.RowKit
set_option maxRecDepth 100000
set_option linter.unusedSimpArgs false

/-- A record's cells. -/
theorem rec_cells {w : World} {q : Nat} {v0 v1 v2 v3 v4 v5 v6 v7 v8 : Value} {T : TypeId} (h : w.heap[q]? = some (.cells #[v0, v1, v2, v3, v4, v5, v6, v7, v8] T (0, 0))) :
    w.cell? ⟨q, 0, none⟩ = some v0 ∧ w.cell? ⟨q, 1, none⟩ = some v1 ∧ w.cell? ⟨q, 2, none⟩ = some v2 ∧ w.cell? ⟨q, 3, none⟩ = some v3 ∧ w.cell? ⟨q, 4, none⟩ = some v4 ∧ w.cell? ⟨q, 5, none⟩ = some v5 ∧ w.cell? ⟨q, 6, none⟩ = some v6 ∧ w.cell? ⟨q, 7, none⟩ = some v7 ∧ w.cell? ⟨q, 8, none⟩ = some v8 := by
  refine ⟨?_, ?_, ?_, ?_, ?_, ?_, ?_, ?_, ?_⟩ <;> simp [World.cell?, h]

set_option maxHeartbeats 1000000 in
set_option maxRecDepth 100000 in
theorem rbytes_any (x : Rec) (a : Option Addr) (n cap : Nat) (w : World) (h : Rd w a n x.l) :
    Calls Tryz.prog 37 #[rcV x a n cap] w fun e w' => Below w.heap.size w w' ∧ ((x.ok = false ∧ e = .returned (.tuple #[.slice none 0 0, .int .i64 1])) ∨ (x.ok = true ∧ ∃ a' c', e = .returned (.tuple #[.slice a' x.bytes.length c', .int .i64 0]) ∧ Own w' w.heap.size (.slice a' x.bytes.length c') x.bytes)) := by
  have HV : Hid (∀ W, Below w.heap.size w W → Calls Tryz.prog 59 #[rcV x a n cap] W fun e w' => e = .returned (.bool x.ok) ∧ Hid (Below W.heap.size W w')) :=
    Lib.hid fun W hW => valid_any x a n cap W (h.later hW)
  have HP : Hid (x.ok = true → ∀ W, Below w.heap.size w W → Calls Tryz.prog 62 #[rcV x a n cap] W fun e w' => ∃ v, e = .returned v ∧ Hid (Own w' W.heap.size v x.plain) ∧ Hid (Below W.heap.size W w')) :=
    Lib.hid fun hx W hW => plain_any x a n cap W hx (h.later hW)
  have HL : Hid (x.ok = true → 1 ≤ x.plain.length ∧ x.plain.length ≤ 139) := Lib.hid Rec.plain_len
  obtain ⟨B, hB⟩ : ∃ B, B = x.ok := ⟨_, rfl⟩
  obtain ⟨P, hP⟩ : ∃ P, P = x.plain := ⟨_, rfl⟩
  obtain ⟨Y, hY⟩ : ∃ Y, Y = x.bytes := ⟨_, rfl⟩
  have hYP : Y = tEnc (P ++ sumB (cSum P)) := by rw [hY, hP]; rfl
  rw [← hB] at HV HP HL ⊢
  rw [← hP] at HP HL
  rw [← hY]
  have HY := Lib.hid hYP
  clear hB hP hY hYP h
  obtain ⟨k, i, b, f, t, l, c, dn, ds⟩ := x
  simp only [rcV] at HV HP ⊢
  cases B
  · go_enter Tryz.func37, Tryz.ntmps37
    go_wp2_with fail
    refine (HV.out _ (Below.alloc0 _ _)).mono ?_
    rintro e w1 ⟨rfl, hb⟩
    go_wp2
    go_ret2
    exact ⟨(Below.alloc0 _ _).trans (hb.out.mono (by simp)), .inl ⟨trivial, rfl⟩⟩
  · have HP2 := Lib.hid (HP.out rfl)
    have HL2 := Lib.hid (HL.out rfl)
    clear HP HL
    go_enter Tryz.func37, Tryz.ntmps37
    go_wp2_with fail
    refine (HV.out _ (Below.alloc0 _ _)).mono ?_
    rintro e w1 ⟨rfl, hb⟩
    have HB : Hid (Below w.heap.size w w1) := Lib.hid ((Below.alloc0 _ _).trans (hb.out.mono (by simp)))
    obtain ⟨c0, c1, c2, c3, c4, c5, c6, c7, c8⟩ := rec_cells ((hb.out.block w.heap.size (by simp)).trans (heap_alloc_new w _))
    clear hb
    go_wp2_with fail
    refine (HP2.out _ HB.out).mono ?_
    rintro e w2 ⟨v2, rfl, ho2, hb2⟩
    have HB2 : Hid (Below w.heap.size w w2) := Lib.hid (HB.out.trans (hb2.out.mono HB.out.size))
    obtain ⟨a2, c2', rfl, hr2, hc2⟩ := ho2.out.sl
    have HR2 := Lib.hid hr2
    clear ho2 hb2 hr2 hc2 c0 c1 c2 c3 c4 c5 c6 c7 c8
    go_wp2_with fail
    refine (seal_any a2 _ c2' P w2 HR2.out (by have := HL2.out; omega)).mono ?_
    rintro e w3 ⟨v3, rfl, ho3, hb3⟩
    have HB3 : Hid (Below w.heap.size w w3) := Lib.hid (HB2.out.trans (hb3.mono HB2.out.size))
    obtain ⟨a3, c3, rfl, hr3, hc3⟩ := ho3.sl
    have HR3 := Lib.hid hr3
    have HLN : Hid ((P ++ sumB (cSum P)).length ≤ 143) := Lib.hid (by have := HL2.out; simp [sumB]; omega)
    obtain ⟨Z, hZ⟩ : ∃ Z, Z = P ++ sumB (cSum P) := ⟨_, rfl⟩
    rw [← hZ] at HR3 HLN HY ⊢
    clear ho3 hb3 hr3 hc3 hZ
    go_wp2_with fail
    refine (bytesPut_any none 0 0 [] _ 1 1 [Z] _ ⟨rfl, by simp, by omega⟩ (rdT_one HR3.out _) (by omega) (by omega) ?h5).mono ?_
    case h5 =>
      intro t ht
      simp only [List.mem_singleton] at ht
      rw [ht]
      have := HLN.out
      omega
    rintro e w4 ⟨v4, rfl, ho4, hb4⟩
    have e1 : [] ++ [Z].flatMap tEnc = Y := by rw [HY.out]; simp
    rw [e1] at ho4
    have ho5 := ho4.mono (base' := w.heap.size) (by have := HB3.out.size; simp; omega)
    obtain ⟨a4, c4, rfl, hr4, hc4⟩ := ho5.sl
    have HO5 := Lib.hid ho5
    have HB5 : Hid (Below w.heap.size w w4) := Lib.hid ((HB3.out.alloc HB3.out.size _).trans (hb4.mono (by have := HB3.out.size; simp; omega)))
    clear ho4 ho5 hb4 hr4 hc4 e1
    go_wp2
    go_ret2
    exact ⟨HB5.out, .inr ⟨trivial, _, _, rfl, HO5.out⟩⟩

end Go.Proofs.YtaijldcfoaeogaaGreat
