/- What a record does to an image: the contract of change, over any world. -/
import Derived.Test.YtaijldcfoaeogaaGreatGSmMathToSmMk
import Derived.Test.YtaijldcfoaeogaaGreatGRcMathToRcBytes
import Derived.Test.YtaijldcfoaeogaaGreatReadyC
import Derived.Test.YtaijldcfoaeogaaGreatGRcLawToSmWhole
import Derived.Test.YtaijldcfoaeogaaGreatGKeepToINew
namespace Go.Proofs.YtaijldcfoaeogaaGreat
open Go.RowKit Go.Shelf
set_option linter.unusedSimpArgs false
attribute [local go_sem] Oper.semAt_some

/-- The block that a record has for its number j. -/
def blkAt (x : Rec) (j : Nat) : List Nat := if x.k = 3 then [] else (x.l.drop (32 * j)).take 32

/-- The image behind the record's first j numbers. -/
def chP (F : List (List Nat)) (x : Rec) (j : Nat) : List (List Nat) := (List.range j).foldl (fun G t => G.set (x.f.toNat + t) (blkAt x t)) F

theorem chP_succ (F : List (List Nat)) (x : Rec) (j : Nat) : chP F x (j + 1) = (chP F x j).set (x.f.toNat + j) (blkAt x j) := by
  simp [chP, List.range_succ]

/-- The image behind a record. -/
def chF (F : List (List Nat)) (x : Rec) : List (List Nat) := chP F x (x.t - x.f).toNat

theorem segR_at {f i : Int} {k : Nat} {pre : List Int} (h : pre ++ [i] <+: segR f k) : i = f + (pre.length : Int) ∧ pre.length < k := by
  obtain ⟨z, hz⟩ := h
  have h1 : (segR f k)[pre.length]? = some i := by rw [← hz]; simp
  have hl : (segR f k).length = k := by simp [segR]
  have h2 : pre.length < k := by
    have := (List.getElem?_eq_some_iff.1 h1).1
    omega
  refine ⟨?_, h2⟩
  simp [segR, h2] at h1
  omega

theorem padB_32 {l : List Nat} (h : l.length = 32) : padB l = l := by simp [padB, h]

/-- What the loop of change keeps. -/
structure ICh (V : World) (g b q : Nat) (F : List (List Nat)) (x : Rec) (pre : List Int) (W : World) : Prop where
  img : ∃ q', q' ≤ q + (if x.k = 3 then 0 else pre.length) ∧ Img W g b q' (chP F x pre.length)
  sav : Save [b] V W

theorem enter_change (args : Array Value) (w : World) (R : Ending → World → Prop) (c : Code) (hb : Tryz.f27.body = some c)
    (h : c.wp Tryz.prog (bodyPostM Fence.wide 3 Tryz.prog Tryz.f27 R) { tmps := args ++ Array.replicate (Tryz.f27.ntmps - args.size) undef, defers := [] } w) : Calls Tryz.prog 27 args w R :=
  (callsIn_wide (n := 3)).1 (callsIn_of_wp_marks Tryz.func27 hb trivial (wpIn_wide.2 h) rfl)

theorem slice_both4 (a : Option Addr) (n c k m : Nat) (q q2 : IntKind) (hk : k ≤ m) (hm : m ≤ c) (w : World) :
    (Instr.slice 31 (.slice a n c) (some (.int q (k : Int))) (some (.int q2 (m : Int))) none).run Tryz.prog w = .ok (.slice (cutA a c k) (m - k) (c - k)) w := by
  obtain ⟨i0, hi0, hz0, hz1, hz2⟩ := info_parts info5
  rw [run_slice_lh w 31 a n c (by kernel_rfl) q q2 k m (by omega) (by omega) (by omega)]
  simp [sizeOf, typeInfo, elem22, hi0, hz1, sliced, cutA]
  try omega

set_option maxHeartbeats 2000000 in
set_option maxRecDepth 100000 in
theorem change_any (w : World) (g b q : Nat) (F : List (List Nat)) (h : Img w g b q F) (hq : q ≤ 50000) (x : Rec) (a : Option Addr) (n c : Nat) (hx : x.ok = true) (hk : x.k = 2 ∨ x.k = 3) (hr : Rd w a n x.l) (hc : n ≤ c) (hab : ∀ z o, a = some ⟨z, o, none⟩ → 0 < n → z ≠ b) :
    Calls Tryz.prog 27 #[.pointer (some ⟨g, 0, none⟩), rcV x a n c] w fun e w' => (∃ v, e = .returned v) ∧ ∃ q', q' ≤ q + 4 ∧ Hid (Img w' g b q' (chF F x)) ∧ Hid (Save [b] w w') := by
  have hft : 0 ≤ x.f ∧ x.f < x.t ∧ x.t ≤ 256 ∧ (x.k = 2 → x.t ≤ x.f + 4 ∧ x.l.length = (x.t - x.f).toNat * 32) := by
    rcases Rec.ok_cases hx with ⟨i, b, h1, h2, rfl⟩ | ⟨f, t, l, h1, h2, h3, h4, rfl⟩ | ⟨f, t, h1, h2, rfl⟩ | ⟨c', n', s', h1, h2, h3, rfl⟩
    · simp at hk
    · exact ⟨by simp, by simp; omega, by simp; omega, fun _ => ⟨by simp; omega, by simp [h4]⟩⟩
    · exact ⟨by simp, by simp; omega, by simp; omega, fun h => by simp at h⟩
    · simp at hk
  obtain ⟨k, i, bb, f, t, l, cc, dn, ds⟩ := x
  simp only at hft hk hr
  simp only [rcV]
  have hmf : ∀ (fn : Fn) (first cap : Array Value) (w : World), (Instr.makeFunc fn first cap).run Tryz.prog w = .ok (.func fn first cap) w := fun _ _ _ _ => rfl
  obtain ⟨w1, hw1⟩ : ∃ w1, w1 = (w.alloc (.cells #[.pointer (some ⟨g, 0, none⟩)] 26)).alloc (.cells #[.int .u8 (k : Int), .int .i64 i, .int .i64 bb, .int .i64 f, .int .i64 t, .slice a n c, .int .i64 cc, .int .u64 (dn : Int), .int .u64 (ds : Int)] 57) := ⟨_, rfl⟩
  obtain ⟨g1, hg1⟩ : ∃ g1, g1 = w.heap.size := ⟨_, rfl⟩
  have hs1 : w1.heap.size = g1 + 2 := by rw [hw1, hg1]; simp
  have hb1 : Below g1 w w1 := by rw [hw1, hg1]; exact ((Below.refl _ _).alloc (Nat.le_refl _) _).alloc (by simp) _
  have hx1 : w1.heap[g1]? = some (.cells #[.pointer (some ⟨g, 0, none⟩)] 26 (0, 0)) := by
    rw [hw1, hg1]
    exact (heap_alloc_old _ _ (by simp)).trans (heap_alloc_new w _)
  have hx2 : w1.heap[g1 + 1]? = some (.cells #[.int .u8 (k : Int), .int .i64 i, .int .i64 bb, .int .i64 f, .int .i64 t, .slice a n c, .int .i64 cc, .int .u64 (dn : Int), .int .u64 (ds : Int)] 57 (0, 0)) := by
    rw [hw1, hg1]
    have e := heap_alloc_new (w.alloc (.cells #[.pointer (some ⟨g, 0, none⟩)] 26)) (.cells #[.int .u8 (k : Int), .int .i64 i, .int .i64 bb, .int .i64 f, .int .i64 t, .slice a n c, .int .i64 cc, .int .u64 (dn : Int), .int .u64 (ds : Int)] 57)
    rw [World.size_alloc] at e
    exact e
  have HW : Hid ((w.alloc (.cells #[.pointer (some ⟨g, 0, none⟩)] 26)).alloc (.cells #[.int .u8 (k : Int), .int .i64 i, .int .i64 bb, .int .i64 f, .int .i64 t, .slice a n c, .int .i64 cc, .int .u64 (dn : Int), .int .u64 (ds : Int)] 57) = w1 ∧ w.heap.size = g1) := Lib.hid ⟨hw1.symm, hg1.symm⟩
  have HS1 := Lib.hid hs1
  have HB1 := Lib.hid hb1
  have HX := Lib.hid (And.intro hx1 hx2)
  have HI1 : Hid (Img w1 g b q F) := Lib.hid (h.later (by rw [← hg1]; exact hb1))
  have HGL : Hid (g < g1 ∧ b < g1) := Lib.hid (by rw [hg1]; exact ⟨h.lt, h.map.lt⟩)
  have HR1 : Hid (Rd w1 a n l) := Lib.hid (hr.later (by rw [← hg1]; exact hb1))
  have HF := Lib.hid (And.intro hft.1 (And.intro hft.2.1 (And.intro hft.2.2.1 hft.2.2.2)))
  have HK := Lib.hid hk
  have HA := Lib.hid hab
  have HOf : Hid (∀ W, Below w1.heap.size w1 W → RdR W (some ⟨w1.heap.size, 0, none⟩) 1 [⟨f, t⟩] → Calls Tryz.prog 44 #[.slice (some ⟨w1.heap.size, 0, none⟩) 1 1] W fun e w' => ∃ a c, e = .returned (.slice a 1 c) ∧ Hid (RdR w' a 1 [⟨f, t⟩]) ∧ Hid (Below w1.heap.size w1 w') ∧ Hid (∀ b o, a = some ⟨b, o, none⟩ → W.heap.size ≤ b)) := Lib.hid fun W hW hr =>
    (of_any (some ⟨w1.heap.size, 0, none⟩) 1 1 [⟨f, t⟩] W hr (by omega) (by
      intro r hr
      simp only [List.mem_singleton] at hr
      subst hr
      exact ⟨by simp only; omega, by simp only; omega, by simp only; omega, by simp only; omega⟩)).mono fun e w' ⟨v, M, e1, e2, e3, e4, _, e5⟩ => by
      have hM := set_one e3 hft.2.1 e4
      subst hM
      obtain ⟨a, c, hv, hr, _, hbs⟩ := e2.rd
      subst hv
      exact ⟨a, c, e1, Lib.hid hr, Lib.hid (hW.trans (e5.mono hW.size)), Lib.hid fun b o e => (hbs b o e).1⟩
  have d3 : w1.cell? ⟨g1 + 1, 3, none⟩ = some (.int .i64 f) := by rw [cell_of_row w1 (g1 + 1) 3 _ _ _ hx2]; rfl
  have d4 : w1.cell? ⟨g1 + 1, 4, none⟩ = some (.int .i64 t) := by rw [cell_of_row w1 (g1 + 1) 4 _ _ _ hx2]; rfl
  clear h hw1 hs1 hb1 hx1 hx2 hg1 hft hk hab hr
  refine enter_change _ w _ _ rfl ?_
  simp only [Tryz.ntmps27, List.size_toArray, List.length_cons, List.length_nil, Nat.reduceAdd, Nat.reduceSub, Array.replicate_succ, Array.replicate_zero, List.push_toArray, List.append_toArray, List.nil_append, List.cons_append]
  go_upto_region 1 with fail
  rw [HW.out.1, HW.out.2]
  go_wp2_with fail
  refine (HOf.out _ (Below.alloc0 _ _) ⟨rfl, fun _ => ⟨_, _, rfl, fun j hj => ?_⟩⟩).mono ?_
  · obtain rfl : j = 0 := by omega
    have e := heap_alloc_new w1 (.cells #[.int .i64 f, .int .i64 t] 53)
    exact ⟨by rw [cell_of_row _ _ _ _ _ _ e]; rfl, by rw [cell_of_row _ _ _ _ _ _ e]; rfl⟩
  rintro e V ⟨sa, sc, rfl, HRV, HBV, HLV⟩
  have HVS : Hid (g1 + 1 < V.heap.size ∧ w1.heap.size ≤ V.heap.size) := Lib.hid (by have h1 := HBV.out.size; have h2 := HS1.out; omega)
  have HXV : Hid (∀ W, Save [b] V W → W.heap[g1]? = some (.cells #[.pointer (some ⟨g, 0, none⟩)] 26 (0, 0)) ∧ W.heap[g1 + 1]? = some (.cells #[.int .u8 (k : Int), .int .i64 i, .int .i64 bb, .int .i64 f, .int .i64 t, .slice a n c, .int .i64 cc, .int .u64 (dn : Int), .int .u64 (ds : Int)] 57 (0, 0)) ∧ Rd W a n l) := Lib.hid fun W hW => by
    refine ⟨(hW.block g1 (by have := HVS.out; omega) (by have := HGL.out.2; simp; omega)).trans ((HBV.out.block g1 (by have := HS1.out; omega)).trans HX.out.1), (hW.block (g1 + 1) (by have := HVS.out; omega) (by have := HGL.out.2; simp; omega)).trans ((HBV.out.block (g1 + 1) (by have := HS1.out; omega)).trans HX.out.2), ?_⟩
    have h1 := HR1.out.later HBV.out
    exact h1.blk fun z o e1 e2 => hW.block z (by rw [e1] at h1; exact h1.in_ e2) (by simp; exact HA.out z o e1 e2)
  have HIV : Hid (Img V g b q F) := Lib.hid (HI1.out.later HBV.out)
  clear d3 d4
  go_wp2_with fail
  refine (wpIn_wide (n := 3)).1 ?_
  generalize hact : (Act.mk _ []) = act
  have hok1 : ∀ r ∈ [(⟨f, t⟩ : Rn)], r.ok := by
    intro r hr
    simp only [List.mem_singleton] at hr
    subst hr
    have := HF.out
    exact ⟨by simp only; omega, by simp only; omega, by simp only; omega, by simp only; omega⟩
  refine range_all sa 1 sc [⟨f, t⟩] (by omega) hok1 (by rw [← hact]; rfl) rfl (ICh V g b q F ⟨k, i, bb, f, t, l, cc, dn, ds⟩) (fun _ _ _ => False)
    (fun pre W W' h hb => by
      obtain ⟨q', h1, h2⟩ := h.img
      have hbs := HGL.out
      have hvs := HVS.out
      exact ⟨⟨q', h1, ⟨(hb.block g (by omega)).trans h2.blk, h2.map.kept (hb.block b (by omega)), h2.ok⟩⟩, hb.os.trans h.sav.os, hb.tape.trans h.sav.tape, hb.output.trans h.sav.output, Nat.le_trans h.sav.size hb.size, fun z hz hx => (hb.block z hz).trans (h.sav.block z hz hx)⟩)
    (fun _ _ _ _ h _ => h) (fun pre W h => save_all HRV.out h.sav fun z o e => by have h1 := HLV.out z o e; have h2 := HS1.out; have h3 := HGL.out; simp at h1 ⊢; omega)
    ⟨⟨q, by simp, by simpa [chP] using HIV.out⟩, Save.refl _ _⟩
    (fun x => { tmps := (act.tmps.setIfInBounds 11 (.int .i64 x)).setIfInBounds 4 (.int .i64 x), defers := [] }) ?assign ?body ?done ?stop
  case stop => intro D c pre W _ _ h _; exact h.elim
  case assign =>
    intro l x W K hK
    subst hact
    simp only [List.setIfInBounds_toArray, List.set_cons_succ, List.set_cons_zero] at hK
    gi_wp2
    exact hK
  case body =>
    intro lp pre x W hI hsz hpre
    subst hact
    simp only [List.setIfInBounds_toArray, List.set_cons_succ, List.set_cons_zero]
    rw [numsR_one] at hpre
    obtain ⟨hxe, hxl⟩ := segR_at hpre
    simp only at hxe hxl
    have HIh := Lib.hid hI
    obtain ⟨q', hq', him⟩ := hI.img
    obtain ⟨hc1, hc2, hrw⟩ := HXV.out W hI.sav
    have HIM := Lib.hid him
    have HRW := Lib.hid hrw
    have HC := Lib.hid (And.intro hc1 hc2)
    have HSz := Lib.hid hsz
    have HJ : Hid (f.toNat + pre.length < 256) := Lib.hid (by have := HF.out; omega)
    have HXJ : Hid (x = ((f.toNat + pre.length : Nat) : Int) ∧ x - f = ((pre.length : Nat) : Int)) := Lib.hid (by have := HF.out; omega)
    have d0 : W.cell? ⟨g1 + 1, 0, none⟩ = some (.int .u8 (k : Int)) := by rw [cell_of_row W (g1 + 1) 0 _ _ _ hc2]; rfl
    have d3 : W.cell? ⟨g1 + 1, 3, none⟩ = some (.int .i64 f) := by rw [cell_of_row W (g1 + 1) 3 _ _ _ hc2]; rfl
    have e0 : W.cell? ⟨g1, 0, none⟩ = some (.pointer (some ⟨g, 0, none⟩)) := by rw [cell_of_row W g1 0 _ _ _ hc1]; rfl
    have hq2 : q' < 100000 := by have := HF.out; simp only at hq'; split at hq' <;> omega
    have HQ := Lib.hid hq'
    have HXL := Lib.hid hxl
    have HFin : Hid (∀ W' q2, q2 ≤ q + (if k = 3 then 0 else (pre ++ [x]).length) → Img W' g b q2 ((chP F ⟨k, i, bb, f, t, l, cc, dn, ds⟩ pre.length).set (f.toNat + pre.length) (blkAt ⟨k, i, bb, f, t, l, cc, dn, ds⟩ pre.length)) → Save [b] W W' → KeepU V.heap.size W W' ∧ ICh V g b q F ⟨k, i, bb, f, t, l, cc, dn, ds⟩ (pre ++ [x]) W') := Lib.hid fun W' q2 h1 h2 h3 => by
      refine ⟨⟨h3.size, fun z hz hzl => h3.block z hzl (by have := HGL.out; have := HVS.out; simp; omega)⟩, ⟨q2, h1, ?_⟩, HIh.out.sav.trans h3⟩
      rw [List.length_append, List.length_singleton, chP_succ]
      exact h2
    clear hI him hc1 hc2 hrw hsz hpre hxe hxl hq'
    by_cases hk3 : k = 3
    · have hk3' : ((k : Int) == 3) = true := by simp; omega
      have HCL := Lib.hid (clear_yes W g b q' _ _ HIM.out HJ.out)
      rw [← HXJ.out.1] at HCL
      have HQ3 : Hid (q' ≤ q) := Lib.hid (by have := HQ.out; simp only at this; rw [if_pos hk3] at this; omega)
      have HK3 := Lib.hid hk3
      have HBK : Hid (blkAt ⟨k, i, bb, f, t, l, cc, dn, ds⟩ pre.length = []) := Lib.hid (by simp [blkAt, hk3])
      clear hk3
      gi_wp2_with fail
      refine ⟨trivial, (CallsIn.inRound lp (callsIn_wide.2 HCL.out)).mono ?_⟩
      rintro e w5 ⟨rfl, him5, hs5⟩
      have HFF := Lib.hid (HFin.out w5 q' (by rw [if_pos HK3.out]; have := HQ3.out; omega) (by rw [HBK.out]; exact him5) hs5)
      clear him5 hs5
      gi_wp2
      exact ⟨HFF.out.1, HFF.out.2⟩
    · have hk3' : ((k : Int) == 3) = false := by simp; omega
      have HQ3 : Hid (q' ≤ q + pre.length) := Lib.hid (by have := HQ.out; simp only at this; rw [if_neg hk3] at this; exact this)
      have HK3 := Lib.hid hk3
      have hk2 : k = 2 := by have := HK.out; omega
      have h4 := HF.out.2.2.2 hk2
      have hpl : pre.length < 4 := by have := HXL.out; omega
      have HLn : Hid (32 * pre.length + 32 ≤ n ∧ n ≤ 128) := Lib.hid (by have := HXL.out; have h5 := HRW.out.1; omega)
      have hxb : (0 : Int) ≤ f ∧ f ≤ 256 ∧ -1 ≤ x ∧ x ≤ 256 := by have := HF.out; have := HXJ.out; have := HXL.out; omega
      have HE2 : Hid ((x - f) * 32 = ((32 * pre.length : Nat) : Int)) := Lib.hid (by rw [HXJ.out.2]; omega)
      obtain ⟨at_, hat⟩ : ∃ at_ : Nat, at_ = 32 * pre.length := ⟨_, rfl⟩
      rw [← hat] at HE2 HLn
      have HAT := Lib.hid hat
      have hbk : blkAt ⟨k, i, bb, f, t, l, cc, dn, ds⟩ pre.length = (l.drop at_).take 32 := by simp [blkAt, hk2, hat]
      have hr32 : Rd W (cutA a c at_) 32 ((l.drop at_).take 32) := (HRW.out.cut (by have := HLn.out; omega) hc).first (by have := HLn.out; omega)
      have HPT := Lib.hid (imgPut_yes W.drew g b q' _ (f.toNat + pre.length) (cutA a c at_) 32 (c - at_) _ (HIM.out.later (Below.refl _ _).drew) hq2 HJ.out (by omega) (hr32.later (Below.refl _ _).drew))
      rw [← HXJ.out.1, padB_32 (by have := hr32.1; exact this), ← hbk] at HPT
      have hsl := fun W => slice_both4 a n c at_ (at_ + 32) .i64 .i64 (by omega) (by have := HLn.out; omega) W
      rw [show at_ + 32 - at_ = 32 by omega] at hsl
      have HSL : Hid (∀ W, (Instr.slice 31 (.slice a n c) (some (.int .i64 (at_ : Int))) (some (.int .i64 ((at_ : Int) + 32))) none).run Tryz.prog W = .ok (.slice (cutA a c at_) 32 (c - at_)) W) := Lib.hid fun W => by
        have h9 := hsl W
        rw [show ((at_ + 32 : Nat) : Int) = (at_ : Int) + 32 by omega] at h9
        exact h9
      clear hsl
      have e5 : W.cell? ⟨g1 + 1, 5, none⟩ = some (.slice a n c) := by rw [cell_of_row W (g1 + 1) 5 _ _ _ HC.out.2]; rfl
      have HS : Hid (∀ W', Save [b] W W' → W'.cell? ⟨g1, 0, none⟩ = some (.pointer (some ⟨g, 0, none⟩)) ∧ W'.cell? ⟨g1 + 1, 5, none⟩ = some (.slice a n c)) := Lib.hid fun W' hW' => by
        have h1 := HGL.out
        have h2 := hW'.block g1 (lt_of_block HC.out.1) (by simp; omega)
        have h3 := hW'.block (g1 + 1) (lt_of_block HC.out.2) (by simp; omega)
        exact ⟨(World.cell?_of_block (w := W) h2).trans e0, (World.cell?_of_block (w := W) h3).trans e5⟩
      have hah : at_ ≤ 96 := by omega
      clear hk2 h4 hpl hat hbk hr32 e0 e5 hk3
      gi_wp2_with fail
      rw [HE2.out]
      have hsl := HSL.out
      have hs0 : Save [b] W W.drew := (Save.refl [b] W).drew
      have HS0 := Lib.hid hs0
      have hwr : IntKind.i64.wrap ((at_ : Int) + 32) = (at_ : Int) + 32 := IntWalk.i64_in _ (by omega)
      clear hs0 d0 d3 hxb
      refine wpIn_region_held_drew (S := fun W => W.cell? ⟨g1, 0, none⟩ = some (.pointer (some ⟨g, 0, none⟩)) ∧ W.cell? ⟨g1 + 1, 5, none⟩ = some (.slice a n c)) (by kernel_rfl) (by kernel_rfl) ?_
      refine wpAnyH_take (i := 0) (v := ?va0) rfl (by kernel_rfl) (by kernel_rfl) (by kernel_rfl) (fun _ _ _ h => h) (Or.inl ⟨by rfl, ?ha0⟩) (HS.out _ HS0.out) ?ra0
      case ha0 => (intro W hW; (try dsimp only at hW); go_simp; try with_reducible rfl)
      simp only [Act.put, List.getElem_toArray, List.getElem_cons_succ, List.getElem_cons_zero, List.setIfInBounds_toArray, List.set_cons_zero, List.set_cons_succ]
      refine wpAnyH_take (i := 1) (v := ?va1) rfl (by kernel_rfl) (by kernel_rfl) (by kernel_rfl) (fun _ _ _ h => h) (Or.inl ⟨by rfl, ?ha1⟩) (HS.out _ HS0.out) ?ra1
      case ha1 => (intro W hW; (try dsimp only at hW); go_simp; try with_reducible rfl)
      simp only [Act.put, List.getElem_toArray, List.getElem_cons_succ, List.getElem_cons_zero, List.setIfInBounds_toArray, List.set_cons_zero, List.set_cons_succ]
      refine wpAnyH_take (i := 2) (v := ?va2) rfl (by kernel_rfl) (by kernel_rfl) (by kernel_rfl) (fun _ _ _ h => h) (Or.inl ⟨by rfl, ?ha2⟩) (HS.out _ HS0.out) ?ra2
      case ha2 => (intro W hW; (try dsimp only at hW); go_simp; try with_reducible rfl)
      simp only [Act.put, List.getElem_toArray, List.getElem_cons_succ, List.getElem_cons_zero, List.setIfInBounds_toArray, List.set_cons_zero, List.set_cons_succ]
      refine wpAnyH_take (i := 3) (v := ?va3) rfl (by kernel_rfl) (by kernel_rfl) (by kernel_rfl) (fun _ _ _ h => h) (Or.inl ⟨by rfl, ?ha3⟩) (HS.out _ HS0.out) ?ra3
      case ha3 => (intro W hW; (try dsimp only at hW); go_simp; try with_reducible rfl)
      simp only [Act.put, List.getElem_toArray, List.getElem_cons_succ, List.getElem_cons_zero, List.setIfInBounds_toArray, List.set_cons_zero, List.set_cons_succ]
      refine wpAnyH_take (i := 4) (v := ?va4) rfl (by kernel_rfl) (by kernel_rfl) (by kernel_rfl) (fun _ _ _ h => h) (Or.inl ⟨by rfl, ?ha4⟩) (HS.out _ HS0.out) ?ra4
      case ha4 => (intro W hW; (try dsimp only at hW); go_simp; try with_reducible rfl)
      simp only [Act.put, List.getElem_toArray, List.getElem_cons_succ, List.getElem_cons_zero, List.setIfInBounds_toArray, List.set_cons_zero, List.set_cons_succ]
      refine wpAnyH_take (i := 5) (v := ?va5) rfl (by kernel_rfl) (by kernel_rfl) (by kernel_rfl) (fun _ _ _ h => h) (Or.inl ⟨by rfl, ?ha5⟩) (HS.out _ HS0.out) ?ra5
      case ha5 => (intro W hW; (try dsimp only at hW); go_simp; try with_reducible rfl)
      simp only [Act.put, List.getElem_toArray, List.getElem_cons_succ, List.getElem_cons_zero, List.setIfInBounds_toArray, List.set_cons_zero, List.set_cons_succ]
      refine wpAnyH_take (i := 6) (v := ?va6) rfl (by kernel_rfl) (by kernel_rfl) (by kernel_rfl) (fun _ _ _ h => h) (Or.inl ⟨by rfl, ?ha6⟩) (HS.out _ HS0.out) ?ra6
      case ha6 => (intro W hW; (try dsimp only at hW); go_simp; try with_reducible rfl)
      simp only [Act.put, List.getElem_toArray, List.getElem_cons_succ, List.getElem_cons_zero, List.setIfInBounds_toArray, List.set_cons_zero, List.set_cons_succ]
      refine wpAnyH_take (i := 7) (v := ?va7) rfl (by kernel_rfl) (by kernel_rfl) (by kernel_rfl) (fun _ _ _ h => h) (Or.inl ⟨by rfl, ?ha7⟩) (HS.out _ HS0.out) ?ra7
      case ha7 => (intro W hW; (try dsimp only at hW); go_simp; try with_reducible rfl)
      simp only [Act.put, List.getElem_toArray, List.getElem_cons_succ, List.getElem_cons_zero, List.setIfInBounds_toArray, List.set_cons_zero, List.set_cons_succ]
      refine wpAnyH_ready (rs := [8]) (by kernel_rfl) (by simp) ?_
      refine AllReadyH.cons rfl (fun K hK => ?_) AllReadyH.nil
      refine ready_call (f := 18) (vs := #[.pointer (some ⟨g, 0, none⟩), .int .i64 x, .slice (cutA a c at_) 32 (c - at_)]) (by rfl) (by (go_simp; try with_reducible rfl)) ?_
      refine HPT.out.mono ?_
      rintro e w5 ⟨rfl, him5, hs5⟩
      have hs6 : Save [b] W w5 := HS0.out.trans hs5
      refine ⟨_, rfl, hK.out _ _ (HS.out _ hs6) (fun _ => ?_)⟩
      have HFF := Lib.hid (HFin.out w5 (q' + 1) (by rw [if_neg HK3.out]; have := HQ3.out; simp; omega) him5 hs6)
      clear hK K him5 hs5 hs6 hsl
      simp only [Act.put, List.getElem_toArray, List.getElem_cons_succ, List.getElem_cons_zero, List.setIfInBounds_toArray, List.set_cons_zero, List.set_cons_succ]
      refine wpAnyH_done (by kernel_rfl) ?_ _
      unfold QN
      gi_wp2
      exact ⟨HFF.out.1, HFF.out.2⟩
  case done =>
    intro D W hD hI hdef
    subst hact
    obtain ⟨q', hq', him⟩ := hI.img
    have hnl : (numsR [(⟨f, t⟩ : Rn)]).length = (t - f).toNat := by rw [numsR_one]; simp [segR]
    rw [hnl] at hq' him
    have HIM := Lib.hid him
    have HSVw : Hid (Save [b] w (W.putObj D (.deferred none))) := Lib.hid (by
      have hgl := HGL.out
      have h0 : Save [b] w V := Save.of_below (by rw [HW.out.2]; exact HB1.out.trans (HBV.out.mono (by have := HS1.out; omega))) _
      have h1 := h0.trans hI.sav
      have hvs := HVS.out
      exact ⟨h1.os, h1.tape, h1.output, by simpa using h1.size, fun z hz hx => (World.putObj_heap_other (by have := HW.out.2; omega)).trans (h1.block z hz hx)⟩)
    have HD := Lib.hid (And.intro hD hdef)
    have HQ : Hid (q' ≤ q + 4) := Lib.hid (by
      simp only at hq'
      split at hq'
      · omega
      · have h2 : k = 2 := by have := HK.out; omega
        have := HF.out.2.2.2 h2
        omega)
    clear hI him hD hdef hq' hnl
    go_wp2
    refine ⟨by simp, .inl ⟨_, _, rfl, run_takeDeferred HD.out.2, ?_⟩⟩
    refine ⟨.tuple #[], by simp [results, Tryz.results27, go_sem], ⟨_, rfl⟩, q', HQ.out, Lib.hid ?_, HSVw⟩
    have hvs := HVS.out
    have hgl := HGL.out
    have hd := HD.out.1
    exact ⟨(World.putObj_heap_other (by omega)).trans HIM.out.blk, HIM.out.map.kept (World.putObj_heap_other (by omega)), HIM.out.ok⟩

end Go.Proofs.YtaijldcfoaeogaaGreat

/- What a stream makes of an image: the contract of Apply, over any world. -/
namespace Go.Proofs.YtaijldcfoaeogaaGreat
open Go.RowKit
set_option maxRecDepth 100000
set_option linter.unusedSimpArgs false

/-- Behind the first record of a stream there are blocks and holes alone; each has a byte at least. -/
theorem whl_rest (b : List Nat) (hb : ∀ z ∈ b, z < 256) : ∀ (f : Nat) (P l : List Nat) (acc : List Rec), b = P ++ l → (∀ y ∈ acc.tail, y.ok = true ∧ (y.k = 2 ∨ y.k = 3)) → (whl b f l acc).2 = 0 →
    (∀ y ∈ (whl b f l acc).1.tail, y.ok = true ∧ (y.k = 2 ∨ y.k = 3)) ∧ (whl b f l acc).1.length ≤ acc.length + l.length := by
  intro f
  induction f with
  | zero => intro P l acc _ _ h; simp [whl] at h
  | succ f ih =>
    intro P l acc he ha h
    unfold whl at h ⊢
    split at h
    · rename_i h1; exact absurd h h1
    · rename_i h1
      rw [if_neg h1]
      have h1' : (rdRec 0 l).2 = 0 := by omega
      obtain ⟨hok, hl⟩ := rdRec_inv (l := l) (fun z hz => hb z (by rw [he]; simp [hz])) h1'
      split at h
      · simp at h
      · rename_i h2
        rw [if_neg h2]
        split at h
        · rename_i h3
          rw [if_pos h3]
          have hby := bytes_len hok
          have hlen : l.length = (rdRec 0 l).1.bytes.length + (rByt 0 l 200).2.2.length := by
            have := congrArg List.length hl
            simpa using this
          have hih := ih (P ++ (rdRec 0 l).1.bytes) (rByt 0 l 200).2.2 (acc ++ [(rdRec 0 l).1]) (by rw [List.append_assoc, ← hl]; exact he) ?_ h
          · refine ⟨hih.1, Nat.le_trans hih.2 ?_⟩
            simp only [List.length_append, List.length_singleton]
            omega
          · intro y hy
            cases acc with
            | nil => simp at hy
            | cons a0 acc =>
              simp only [List.cons_append, List.tail_cons, List.mem_append, List.mem_singleton] at hy
              rcases hy with hy | rfl
              · exact ha y (by simpa using hy)
              · have hk1 : (rdRec 0 l).1.k ≠ 1 := fun e => h2 (.inr ⟨by simp, e⟩)
                refine ⟨hok, ?_⟩
                rcases Rec.ok_cases hok with ⟨_, _, _, _, e⟩ | ⟨_, _, _, _, _, _, _, e⟩ | ⟨_, _, _, _, e⟩ | ⟨_, _, _, _, _, _, e⟩
                · rw [e] at hk1; exact absurd rfl hk1
                · rw [e]; exact .inl rfl
                · rw [e]; exact .inr rfl
                · rw [e] at h3; exact absurd rfl h3
        · rename_i h3
          rw [if_neg h3]
          split at h
          · simp at h
          · rename_i h4
            rw [if_neg h4]
            split at h
            · simp at h
            · rename_i h5
              rw [if_neg h5]
              exact ⟨ha, by simp⟩

theorem strm_rest {b : List Nat} (hb : ∀ z ∈ b, z < 256) (h : (strm b).2 = 0) : (∀ y ∈ (strm b).1.tail, y.ok = true ∧ (y.k = 2 ∨ y.k = 3)) ∧ (strm b).1.length ≤ b.length := by
  have := whl_rest b hb (b.length + 1) [] b [] rfl (by simp) h
  simpa [strm] using this

/-- The image behind records. -/
def apF (F : List (List Nat)) (xs : List Rec) : List (List Nat) := xs.foldl chF F

theorem apF_take (F : List (List Nat)) {xs : List Rec} {j : Nat} (hj : j < xs.length) : apF F (xs.take (j + 1)) = chF (apF F (xs.take j)) (xs.getD j default) := by
  unfold apF
  rw [List.take_succ_eq_append_getElem hj, List.foldl_append]
  simp [List.getD, hj]

set_option maxHeartbeats 4000000 in
set_option maxRecDepth 100000 in
theorem apply_any (w : World) (g bm q : Nat) (F : List (List Nat)) (h : Img w g bm q F) (a : Option Addr) (n c : Nat) (b : List Nat) (hb : Rd w a n b) (hn : n ≤ 1000000) (hcnt : q + 4 * (strm b).1.length ≤ 50000) :
    Calls Tryz.prog 9 #[.pointer (some ⟨g, 0, none⟩), .slice a n c] w fun e w' => Below w.heap.size w w' ∧ (((strm b).2 ≠ 0 ∧ e = .returned (.tuple #[.agg #[.int .i64 0, .int .i64 0], .pointer none, .int .i64 ((strm b).2 : Int)])) ∨
      ((strm b).2 = 0 ∧ ∃ (x : Rec) (xs : List Rec) (g' b' q' : Nat), (strm b).1 = x :: xs ∧ e = .returned (.tuple #[.agg #[.int .i64 x.i, .int .i64 x.b], .pointer (some ⟨g', 0, none⟩), .int .i64 0]) ∧ Img w' g' b' q' (apF F xs))) := by
  obtain ⟨w0, hw0⟩ : ∃ w0, w0 = w.alloc (.cells #[.int .i64 0, .int .i64 0] 24) := ⟨_, rfl⟩
  obtain ⟨p, hp⟩ : ∃ p, p = w.heap.size := ⟨_, rfl⟩
  have HW : Hid (w.alloc (.cells #[.int .i64 0, .int .i64 0] 24) = w0 ∧ w.heap.size = p) := Lib.hid ⟨hw0.symm, hp.symm⟩
  have HB0 : Hid (Below p w w0) := Lib.hid (by rw [hw0, hp]; exact Below.alloc0 _ _)
  have HP0 : Hid (w0.heap[p]? = some (.cells #[.int .i64 0, .int .i64 0] 24 (0, 0))) := Lib.hid (by rw [hw0, hp]; exact heap_alloc_new w _)
  have HR0 : Hid (Rd w0 a n b) := Lib.hid (hb.later (by rw [← hp]; exact HB0.out))
  have HI0 : Hid (Img w0 g bm q F) := Lib.hid (h.later (by rw [← hp]; exact HB0.out))
  have HWH := Lib.hid (whole_any w0 a n c b HR0.out hn)
  have HREST := Lib.hid (strm_rest (b := b) hb.2.1)
  obtain ⟨X, hX⟩ : ∃ X, X = strm b := ⟨_, rfl⟩
  rw [← hX] at HWH HREST hcnt ⊢
  rw [← hp]
  clear hw0 hp hX hb h
  obtain ⟨R, E⟩ := X
  simp only at HWH HREST hcnt ⊢
  go_enter Tryz.func9, Tryz.ntmps9
  go_upto_region 1 with fail
  rw [HW.out.1]
  try rw [HW.out.2]
  go_wp2_with fail
  refine HWH.out.mono ?_
  rintro e w1 ⟨hb1, ⟨hne, rfl⟩ | ⟨rfl, x, xs, L, a', c', rfl, hL, rfl, hrc, _⟩⟩
  · have hE2 : ((E : Int) != 0) = true := by simp; omega
    have HB1 : Hid (Below p w w1) := Lib.hid (HB0.out.trans (hb1.mono (Nat.le_of_lt (lt_of_block HP0.out))))
    have HP1 : Hid (w1.heap[p]? = some (.cells #[.int .i64 0, .int .i64 0] 24 (0, 0))) := Lib.hid ((hb1.block p (lt_of_block HP0.out)).trans HP0.out)
    have HE := Lib.hid hne
    clear hb1 hne
    have hpz : (w1.alloc (.cells #[.int .i64 0, .int .i64 0] 24)).heap[p]? = some (.cells #[.int .i64 0, .int .i64 0] 24 (0, 0)) := (heap_alloc_old _ _ (lt_of_block HP1.out)).trans HP1.out
    obtain ⟨W1, hW1⟩ : ∃ W1, W1 = w1.alloc (.cells #[.int .i64 0, .int .i64 0] 24) := ⟨_, rfl⟩
    rw [← hW1] at hpz
    have HBZ : Hid (Below p w W1) := Lib.hid (by rw [hW1]; exact HB1.out.alloc (Nat.le_of_lt (lt_of_block HP1.out)) _)
    have HPZ := Lib.hid hpz
    have HW1 : Hid (w1.alloc (.cells #[.int .i64 0, .int .i64 0] 24) = W1) := Lib.hid hW1.symm
    have y0 : W1.frozen? ⟨p, 0, none⟩ = false := by simp [World.frozen?, hpz]
    have y1 : W1.frozen? ⟨p, 1, none⟩ = false := by simp [World.frozen?, hpz]
    have z0 : W1.cell? ⟨p, 0, none⟩ = some (.int .i64 0) := by simp [World.cell?, hpz]
    have z1 : W1.cell? ⟨p, 1, none⟩ = some (.int .i64 0) := by simp [World.cell?, hpz]
    clear hpz hW1
    go_upto_region 2 with fail
    try change Code.wp _ _ _ _ (w1.alloc (.cells #[.int .i64 0, .int .i64 0] 24))
    rw [HW1.out]
    go_wp2
    obtain ⟨W, hW, hsW, c0, c1⟩ := head_set (u := .int .i64 0) (v := .int .i64 0) HPZ.out
    rw [hW]
    refine bodyPost_ret (v := .tuple #[.agg #[.int .i64 0, .int .i64 0], .pointer none, .int .i64 (E : Int)]) (by simp [results, Tryz.results9, go_sem, c0, c1]; try rfl) rfl ?_
    exact ⟨HBZ.out.trans (hsW.below (Nat.le_of_lt (lt_of_block HPZ.out)) (by simp)), .inl ⟨HE.out, rfl⟩⟩
  · have HB1 : Hid (Below p w w1) := Lib.hid (HB0.out.trans (hb1.mono (Nat.le_of_lt (lt_of_block HP0.out))))
    have HP1 : Hid (w1.heap[p]? = some (.cells #[.int .i64 0, .int .i64 0] 24 (0, 0))) := Lib.hid ((hb1.block p (lt_of_block HP0.out)).trans HP0.out)
    have HI1 : Hid (Img w1 g bm q F) := Lib.hid (HI0.out.later hb1)
    have hrest := HREST.out rfl
    simp only [List.tail_cons] at hrest
    have HRS := Lib.hid hrest.1
    have HRC := Lib.hid hrc
    obtain ⟨m, hm⟩ : ∃ m, m = xs.length := ⟨_, rfl⟩
    have HM := Lib.hid hm
    have HLm : Hid (L.length = m ∧ L.map RcC.x = xs) := Lib.hid ⟨by rw [hm, ← hL]; simp, hL⟩
    rw [← hm] at HRC ⊢
    have hcm : q + 4 * m ≤ 50000 := by rw [hm]; simp at hcnt; omega
    obtain ⟨w2, hw2⟩ : ∃ w2, w2 = w1.alloc (.cells #[.int .i64 x.i, .int .i64 x.b] 24) := ⟨_, rfl⟩
    obtain ⟨gh, hgh⟩ : ∃ gh, gh = w1.heap.size := ⟨_, rfl⟩
    have HW2 : Hid (w1.alloc (.cells #[.int .i64 x.i, .int .i64 x.b] 24) = w2 ∧ w1.heap.size = gh) := Lib.hid ⟨hw2.symm, hgh.symm⟩
    have HB2 : Hid (Below w1.heap.size w1 w2 ∧ w2.heap.size = gh + 1) := Lib.hid ⟨by rw [hw2]; exact Below.alloc0 _ _, by rw [hw2, hgh]; simp⟩
    have HH2 : Hid (w2.heap[gh]? = some (.cells #[.int .i64 x.i, .int .i64 x.b] 24 (0, 0))) := Lib.hid (by rw [hw2, hgh]; exact heap_alloc_new w1 _)
    have HCL := Lib.hid (imgClone_any w2 g bm q F (HI1.out.later HB2.out.1) (by omega))
    clear hb1 hrest hrc hL hw2 hgh hcnt hm
    go_upto_region 2 with fail
    try change Code.wp _ _ _ _ (w1.alloc (.cells #[.int .i64 x.i, .int .i64 x.b] 24))
    rw [HW2.out.1]
    try rw [HW2.out.2]
    go_wp2_with fail
    refine HCL.out.mono ?_
    rintro e w3 ⟨g', b', rfl, hg', hb', him, hb3⟩
    have HI3 := Lib.hid him
    have HB3 : Hid (Below w2.heap.size w2 w3 ∧ w2.heap.size ≤ g' ∧ w2.heap.size ≤ b') := Lib.hid ⟨hb3, hg', hb'⟩
    have HRC3 : Hid (∀ W, Save [b'] w3 W → RdC W a' m L ∧ Below w1.heap.size w1 W) := Lib.hid fun W hW => by
      have h1 : Below w1.heap.size w1 W := HB2.out.1.trans ((HB3.out.1.mono HB2.out.1.size).trans (hW.below (Nat.le_trans HB2.out.1.size HB3.out.1.size) (by have := HB3.out.2.2; have := HB2.out.1.size; simp; omega)))
      exact ⟨HRC.out.later h1, h1⟩
    clear him hb3 hg' hb'
    go_wp2_with fail
    go_loopg [27] m (fun k s27 wr => ∃ (j q2 : Nat), k = m - j ∧ j ≤ m ∧ s27 = .int .i64 (j : Int) ∧ Hid (q2 ≤ q + 4 * j) ∧ Hid (Img wr g' b' q2 (apF F (xs.take j))) ∧ Hid (Save [b'] w3 wr))
    case atStart => exact ⟨0, q, rfl, Nat.zero_le _, rfl, Lib.hid (by omega), Lib.hid (by simpa [apF] using HI3.out), Lib.hid (Save.refl _ _)⟩
    case round =>
      obtain ⟨j, q2, hk, hj, rfl, HQ2, HIj, HSj⟩ := hrel
      have HKj := Lib.hid hk
      clear hk
      by_cases hlt : j < m
      · obtain ⟨br, or_, e, rfl, hee, hem, her, hcl⟩ := (HRC3.out wr HSj.out).1.at_ hlt
        have hjl : j < L.length := by have := HLm.out.1; omega
        have hxj : xs.getD j default = e.x := by
          rw [hee, ← HLm.out.2]
          simp [List.getD, hjl]
        have hjx : j < xs.length := by have := HM.out; omega
        have hxm : e.x ∈ xs := by rw [← hxj]; simp [List.getD, hjx]
        have hxo := HRS.out e.x hxm
        have HAP : Hid (apF F (xs.take (j + 1)) = chF (apF F (xs.take j)) e.x) := Lib.hid (by rw [apF_take F hjx, hxj])
        have her1 := HRC.out.each e hem
        have hfar : ∀ z o, e.a = some ⟨z, o, none⟩ → 0 < e.m → z ≠ b' := fun z o e1 e2 => by
          rw [e1] at her1
          have := her1.in_ e2
          have := HB3.out.2.2
          have := HB2.out.1.size
          omega
        have hch := fun W (hW : Below wr.heap.size wr W) => change_any W g' b' q2 _ (HIj.out.later hW) (by have := HQ2.out; omega) e.x e.a e.m e.c hxo.1 hxo.2 (her.later hW) e.le hfar
        obtain ⟨c0, c1, c2, c3, c4, c5, c6, c7, c8⟩ : _ ∧ _ ∧ _ ∧ _ ∧ _ ∧ _ ∧ _ ∧ _ ∧ _ := ⟨hcl 0 _ rfl, hcl 1 _ rfl, hcl 2 _ rfl, hcl 3 _ rfl, hcl 4 _ rfl, hcl 5 _ rfl, hcl 6 _ rfl, hcl 7 _ rfl, hcl 8 _ rfl⟩
        obtain ⟨X, ea, em, ec, ele⟩ := e
        obtain ⟨xk, xi, xb, xf, xt, xl, xc, xn, xs'⟩ := X
        simp only [rcV, Nat.add_zero] at c0 c1 c2 c3 c4 c5 c6 c7 c8 hch
        have HCH := Lib.hid hch
        clear hcl hch her her1 hfar hee hem hjl hxj hjx hxm hxo
        go_wp2_with fail
        refine (HCH.out _ (Below.alloc0 _ _)).mono ?_
        rintro e w5 ⟨⟨v5, rfl⟩, q3, hq3, HI5, HS5⟩
        clear c0 c1 c2 c3 c4 c5 c6 c7 c8
        go_wp2
        go_roundg (m - (j + 1))
        case measure => have := HKj.out; omega
        case rel =>
          refine ⟨j + 1, q3, rfl, by omega, by simp, Lib.hid (by have := HQ2.out; omega), Lib.hid (by rw [HAP.out]; exact HI5.out), Lib.hid (HSj.out.trans ((Save.of_below (Below.alloc0 _ _) _).trans HS5.out))⟩
      · obtain rfl : j = m := by omega
        have hap : xs.take j = xs := List.take_of_length_le (by have := HM.out; omega)
        have him := HIj.out
        rw [hap] at him
        have HIM := Lib.hid him
        have hgb := HB3.out
        have hgh := HB2.out.2
        have hgp : p < gh := by rw [← HW2.out.2]; exact lt_of_block HP1.out
        have hh : wr.heap[gh]? = some (.cells #[.int .i64 x.i, .int .i64 x.b] 24 (0, 0)) := (HSj.out.block gh (by have := hgb.1.size; omega) (by simp; omega)).trans ((hgb.1.block gh (by omega)).trans HH2.out)
        have hp : wr.heap[p]? = some (.cells #[.int .i64 0, .int .i64 0] 24 (0, 0)) := ((HRC3.out wr HSj.out).2.block p (lt_of_block HP1.out)).trans HP1.out
        have HPW := Lib.hid hp
        have HBW : Hid (Below p w wr) := Lib.hid (HB1.out.trans ((HRC3.out wr HSj.out).2.mono (Nat.le_of_lt (lt_of_block HP1.out))))
        have HNE : Hid (p ≠ g' ∧ p ≠ b') := Lib.hid (by omega)
        have x0 : wr.cell? ⟨gh, 0, none⟩ = some (.int .i64 x.i) := by simp [World.cell?, hh]
        have x1 : wr.cell? ⟨gh, 1, none⟩ = some (.int .i64 x.b) := by simp [World.cell?, hh]
        have y0 : wr.frozen? ⟨p, 0, none⟩ = false := by simp [World.frozen?, hp]
        have y1 : wr.frozen? ⟨p, 1, none⟩ = false := by simp [World.frozen?, hp]
        have z0 : wr.cell? ⟨p, 0, none⟩ = some (.int .i64 0) := by simp [World.cell?, hp]
        have z1 : wr.cell? ⟨p, 1, none⟩ = some (.int .i64 0) := by simp [World.cell?, hp]
        clear hap him hgb hgh hgp hh hp
        go_wp2
        obtain ⟨W, hW, hsW, c0, c1⟩ := head_set (u := .int .i64 x.i) (v := .int .i64 x.b) HPW.out
        rw [hW]
        refine bodyPost_ret (v := .tuple #[.agg #[.int .i64 x.i, .int .i64 x.b], .pointer (some ⟨g', 0, none⟩), .int .i64 0]) (by simp [results, Tryz.results9, go_sem, c0, c1]; try rfl) rfl ?_
        refine ⟨HBW.out.trans (hsW.below (Nat.le_of_lt (lt_of_block HPW.out)) (by simp)), ?_⟩
        exact ⟨x, xs, ⟨rfl, rfl⟩, g', rfl, b', q2, HIM.out.save hsW (by simp; exact fun e => HNE.out.1 e.symm) (by simp; exact fun e => HNE.out.2 e.symm)⟩

end Go.Proofs.YtaijldcfoaeogaaGreat
