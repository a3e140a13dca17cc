/- Step: a call of the program's tape does what the document's does. -/
import Derived.Test.YtcmbnijjkpfhlaaZTwo
import Derived.Lib.EndianBits
import Derived.Deep.CutBlock
namespace Go.Proofs.Ytcmbnijjkpfhlaa
open Go.RowKit
set_option linter.unusedSimpArgs false

/-- What Step leaves. -/
def Stepped (Zt : List Nat) (w : World) (gt gp gm gq : Nat) (t : Tst) (N : Nat) (W' : World) : Prop := ∃ s' t' F' G', Two Zt w W' gt gp gm gq s' t' F' s' t' G' ∧ s'.within (N + 1) ∧ Tst.like t t'

/-- The box of a call. -/
def actObj (K : Nat) (I Z : Int) (v : Value) : Obj := .cells #[.int .u8 (K : Int), .int .i64 I, .int .i64 Z, v] 63

theorem act_cells {W : World} {gx K : Nat} {I Z : Int} {v : Value} (h : W.heap[gx]? = some (actObj K I Z v)) :
    W.cell? ⟨gx, 0, none⟩ = some (.int .u8 (K : Int)) ∧ W.cell? ⟨gx, 1, none⟩ = some (.int .i64 I) ∧ W.cell? ⟨gx, 2, none⟩ = some (.int .i64 Z) ∧ W.cell? ⟨gx, 3, none⟩ = some v := by
  refine ⟨?_, ?_, ?_, ?_⟩ <;> rw [cell_of_row W gx _ _ 63 (0, 0) h] <;> rfl

section
variable {Zt : List Nat} {w W W' : World} {gt gp gm gq : Nat} {sp sm : Pw} {tp tm : Tst} {F G : List Nat}
theorem Two.lts (h : Two Zt w W gt gp gm gq sp tp F sm tm G) : ∀ k, k ∈ gp :: F ∨ k ∈ G ∨ k = gq → k < W.heap.size := by
  intro k hk
  rcases hk with hk | hk | rfl
  · simp only [List.mem_cons] at hk
    rcases hk with rfl | hk
    · exact h.liv.gplt
    · exact h.liv.fl k hk
  · exact h.mod.fl k hk
  · exact h.mpw.lt
end

set_option maxHeartbeats 2000000 in
set_option maxRecDepth 100000 in
/-- Mark. -/
theorem step1 (Zt : List Nat) (w W : World) (gt gp gm gq : Nat) (s : Pw) (t : Tst) (F G : List Nat) (h : Two Zt w W gt gp gm gq s t F s t G) (N : Nat) (hwi : s.within N) (hN : N ≤ 1000000) (hnw : t.nw.length ≤ 1000000) (K : Nat) (I Z : Int) (v : Value) (hK : (K : Int) % 7 = 1) :
    Calls Try.prog 21 #[.pointer (some ⟨gt, 0, none⟩), .pointer (some ⟨gm, 0, none⟩), .pointer (some ⟨gq, 0, none⟩), .agg #[.int .u8 (K : Int), .int .i64 I, .int .i64 Z, v]] W fun e W' => e = .returned (.bool true) ∧ Stepped Zt w gt gp gm gq t N W' := by
  obtain ⟨W1, h1⟩ : ∃ W1, W1 = W.alloc (actObj K I Z v) := ⟨_, rfl⟩
  obtain ⟨gx, hgx⟩ : ∃ gx, gx = W.heap.size := ⟨_, rfl⟩
  have hob : W1.heap[gx]? = some (actObj K I Z v) := by rw [h1, hgx]; exact heap_alloc_new W _
  have hT1 : Two Zt w W1 gt gp gm gq s t F s t G := by rw [h1]; exact h.later (Below.alloc0 _ _)
  have x0 := (act_cells hob).1
  obtain ⟨E, hE⟩ : ∃ E, E = (Tst.write s t []).2.2 := ⟨_, rfl⟩
  have HPUT : Hid (Calls Try.prog 43 #[.pointer (some ⟨gt, 0, none⟩)] W1 fun e w' => e = .returned (.int .i64 (E : Int)) ∧ Hid (∃ F', Two Zt w w' gt gp gm gq (Tst.write s t []).1 (Tst.write s t []).2.1 F' s t G)) := by
    refine Lib.hid ((mark_any W1 gt gp s t F hT1.liv.tap (hwi.ok hN)).mono ?_)
    rintro e w' ⟨rfl, F', h2, h3, h4⟩
    exact ⟨by rw [hE], Lib.hid ⟨F', hT1.prog h2 h3 h4⟩⟩
  have HW1 := Lib.hid (And.intro h1 hgx)
  have HE := Lib.hid hE
  have HLK := Lib.hid (write_like s t [] N hwi)
  have HOK := Lib.hid (hwi.ok hN)
  clear h h1 hgx hob hT1 hE hwi
  go_enter Try.func21, Try.ntmps21
  go_upto_region 1 with fail
  change Code.wp _ _ _ _ (W.alloc (actObj K I Z v))
  rw [← HW1.out.1, ← HW1.out.2]
  go_wp2_with fail
  refine HPUT.out.mono ?_
  rintro e W2 ⟨rfl, H2⟩
  have HM : Hid (Calls Try.prog 25 #[.pointer (some ⟨gm, 0, none⟩), .pointer (some ⟨gq, 0, none⟩), .agg #[.slice none 0 0, .bool true]] W2 fun e w' => e = .returned (.int .i64 (E : Int)) ∧ Hid (Stepped Zt w gt gp gm gq t N w')) := by
    obtain ⟨F', hT⟩ := H2.out
    refine Lib.hid ((mput_any W2 gm gq s t G [] hT.mod hT.mpw hT.gqG none 0 0 [] true (fun _ => rfl) ⟨rfl, by simp, by simp⟩ (by simp) (by omega) HOK.out hnw).mono ?_)
    rintro e w' ⟨rfl, G', h2, h3, h4, h5⟩
    rw [mput_mark] at h2 h3 ⊢
    exact ⟨by rw [HE.out], Lib.hid ⟨_, _, F', G', hT.model h2 h3 h4 h5 (by simp), HLK.out.2, HLK.out.1⟩⟩
  go_wp2_with fail
  refine HM.out.mono ?_
  rintro e W3 ⟨rfl, H3⟩
  go_wp2
  go_ret
  exact ⟨by simp, H3.out⟩

set_option maxHeartbeats 2000000 in
set_option maxRecDepth 100000 in
/-- Seek. -/
theorem step3 (Zt : List Nat) (w W : World) (gt gp gm gq : Nat) (s : Pw) (t : Tst) (F G : List Nat) (h : Two Zt w W gt gp gm gq s t F s t G) (N : Nat) (hwi : s.within N) (K : Nat) (I Z : Int) (v : Value) (hK : (K : Int) % 7 = 3) :
    Calls Try.prog 21 #[.pointer (some ⟨gt, 0, none⟩), .pointer (some ⟨gm, 0, none⟩), .pointer (some ⟨gq, 0, none⟩), .agg #[.int .u8 (K : Int), .int .i64 I, .int .i64 Z, v]] W fun e W' => e = .returned (.bool true) ∧ Stepped Zt w gt gp gm gq t N W' := by
  obtain ⟨W1, h1⟩ : ∃ W1, W1 = W.alloc (actObj K I Z v) := ⟨_, rfl⟩
  obtain ⟨gx, hgx⟩ : ∃ gx, gx = W.heap.size := ⟨_, rfl⟩
  have hob : W1.heap[gx]? = some (actObj K I Z v) := by rw [h1, hgx]; exact heap_alloc_new W _
  have hT1 : Two Zt w W1 gt gp gm gq s t F s t G := by rw [h1]; exact h.later (Below.alloc0 _ _)
  have hlts := h.lts
  obtain ⟨x0, x1, _, _⟩ := act_cells hob
  obtain ⟨E, hE⟩ : ∃ E, E = (Tst.seek s t I).2 := ⟨_, rfl⟩
  have hgxF : gx ∉ gp :: F := fun hx => by have := hlts gx (.inl hx); omega
  have hgxm : gx ≠ gm := by
    rintro rfl
    have := hlts gx (.inr (.inl h.gmG))
    omega
  have HPUT : Hid (∀ W', W'.heap = W1.heap → Save [] W1 W' → Calls Try.prog 41 #[.pointer (some ⟨gt, 0, none⟩), .int .i64 I] W' fun e w' => e = .returned (.int .i64 (E : Int)) ∧ w'.cell? ⟨gx, 1, none⟩ = some (.int .i64 I) ∧ Hid (Two Zt w w' gt gp gm gq s (Tst.seek s t I).1 F s t G ∧ w'.heap[gx]? = some (actObj K I Z v))) := by
    refine Lib.hid fun W' hW' hS => ?_
    have hT2 := hT1.save hS (by simp)
    refine (seek_any W' gt gp s t F hT2.liv.tap I).mono ?_
    rintro e w' ⟨rfl, h2, h3⟩
    have hob2 : w'.heap[gx]? = some (actObj K I Z v) := (h3.block gx (by rw [hW']; exact lt_of_block hob) (fun hx => hgxF (by simp [hx]))).trans (by rw [hW']; exact hob)
    exact ⟨by rw [hE], (act_cells hob2).2.1, Lib.hid ⟨hT2.prog h2 (h3.mono (fun k hk => by simp [hk])) (fun k hk => .inl hk), hob2⟩⟩
  have HW1 := Lib.hid (And.intro h1 hgx)
  have HE := Lib.hid hE
  have HLK := Lib.hid (And.intro (seek_like s t I) (hwi.mono (show N ≤ N + 1 by omega)))
  have HMM : Hid (∀ W2 : World, Two Zt w W2 gt gp gm gq s (Tst.seek s t I).1 F s t G → W2.heap[gx]? = some (actObj K I Z v) → Calls Try.prog 45 #[.pointer (some ⟨gm, 0, none⟩), .pointer (some ⟨gq, 0, none⟩), .int .i64 I] W2 fun e w' => e = .returned (.int .i64 (E : Int)) ∧ w'.cell? ⟨gx, 1, none⟩ = some (.int .i64 I) ∧ Hid (Stepped Zt w gt gp gm gq t N w')) := by
    refine Lib.hid fun W2 hT hob2 => (mseek_any W2 gm gq s t G hT.mod hT.mpw I).mono ?_
    rintro e w' ⟨rfl, h2, h3⟩
    have hgmq : gq ∉ [gm] := by
      simp only [List.mem_singleton]
      rintro rfl
      exact hT.gqG hT.gmG
    have hob3 : w'.heap[gx]? = some (actObj K I Z v) := (h3.block gx (lt_of_block hob2) (by simpa using hgxm)).trans hob2
    exact ⟨by rw [hE], (act_cells hob3).2.1, Lib.hid ⟨_, _, F, G, hT.model (A := []) h2 (hT.mpw.save h3 hgmq) (h3.mono (by simp)) (fun k hk => .inl hk) (by simp), HLK.out.2, HLK.out.1⟩⟩
  clear h h1 hgx hob hT1 hE hwi hlts hgxF hgxm
  go_enter Try.func21, Try.ntmps21
  go_upto_region 1 with fail
  change Code.wp _ _ _ _ (W.alloc (actObj K I Z v))
  rw [← HW1.out.1, ← HW1.out.2]
  go_upto_region 26 with fail
  go_region_held3 (fun W => W.cell? ⟨gx, 1, none⟩ = some (.int .i64 I))
    (first | exact x1 | exact k2 | exact k3 | go_keep)
    (first
      | (go_at_call 41; refine (HPUT.out _ ?_ ?_).mono ?_; rfl; exact (Save.refl _ _).drew; rintro e W2 ⟨rfl, k2, H2⟩)
      | (go_at_call 45; refine (HMM.out _ H2.out.1 H2.out.2).mono ?_; rintro e W3 ⟨rfl, k3, H3⟩))
  go_wp2
  go_ret
  exact ⟨by simp, H3.out⟩

set_option maxHeartbeats 2000000 in
set_option maxRecDepth 100000 in
/-- Skip. -/
theorem step4 (Zt : List Nat) (w W : World) (gt gp gm gq : Nat) (s : Pw) (t : Tst) (F G : List Nat) (h : Two Zt w W gt gp gm gq s t F s t G) (N : Nat) (hwi : s.within N) (K : Nat) (I Z : Int) (v : Value) (hK : (K : Int) % 7 = 4) (hI : I < 9223372036854775808) :
    Calls Try.prog 21 #[.pointer (some ⟨gt, 0, none⟩), .pointer (some ⟨gm, 0, none⟩), .pointer (some ⟨gq, 0, none⟩), .agg #[.int .u8 (K : Int), .int .i64 I, .int .i64 Z, v]] W fun e W' => e = .returned (.bool true) ∧ Stepped Zt w gt gp gm gq t N W' := by
  obtain ⟨W1, h1⟩ : ∃ W1, W1 = W.alloc (actObj K I Z v) := ⟨_, rfl⟩
  obtain ⟨gx, hgx⟩ : ∃ gx, gx = W.heap.size := ⟨_, rfl⟩
  have hob : W1.heap[gx]? = some (actObj K I Z v) := by rw [h1, hgx]; exact heap_alloc_new W _
  have hT1 : Two Zt w W1 gt gp gm gq s t F s t G := by rw [h1]; exact h.later (Below.alloc0 _ _)
  have hlts := h.lts
  obtain ⟨x0, x1, _, _⟩ := act_cells hob
  obtain ⟨E, hE⟩ : ∃ E, E = (Tst.skip s t I).2 := ⟨_, rfl⟩
  have hgxF : gx ∉ gp :: F := fun hx => by have := hlts gx (.inl hx); omega
  have hgxm : gx ≠ gm := by
    rintro rfl
    have := hlts gx (.inr (.inl h.gmG))
    omega
  have HPUT : Hid (∀ W', W'.heap = W1.heap → Save [] W1 W' → Calls Try.prog 46 #[.pointer (some ⟨gt, 0, none⟩), .int .i64 I] W' fun e w' => e = .returned (.int .i64 (E : Int)) ∧ w'.cell? ⟨gx, 1, none⟩ = some (.int .i64 I) ∧ Hid (Two Zt w w' gt gp gm gq s (Tst.skip s t I).1 F s t G ∧ w'.heap[gx]? = some (actObj K I Z v))) := by
    refine Lib.hid fun W' hW' hS => ?_
    have hT2 := hT1.save hS (by simp)
    refine (skip_any W' gt gp s t F hT2.liv.tap I hI).mono ?_
    rintro e w' ⟨rfl, h2, h3⟩
    have hob2 : w'.heap[gx]? = some (actObj K I Z v) := (h3.block gx (by rw [hW']; exact lt_of_block hob) (fun hx => hgxF (by simp [hx]))).trans (by rw [hW']; exact hob)
    exact ⟨by rw [hE], (act_cells hob2).2.1, Lib.hid ⟨hT2.prog h2 (h3.mono (fun k hk => by simp [hk])) (fun k hk => .inl hk), hob2⟩⟩
  have HW1 := Lib.hid (And.intro h1 hgx)
  have HE := Lib.hid hE
  have HLK := Lib.hid (And.intro (skip_like s t I) (hwi.mono (show N ≤ N + 1 by omega)))
  have HMM : Hid (∀ W2 : World, Two Zt w W2 gt gp gm gq s (Tst.skip s t I).1 F s t G → W2.heap[gx]? = some (actObj K I Z v) → Calls Try.prog 47 #[.pointer (some ⟨gm, 0, none⟩), .pointer (some ⟨gq, 0, none⟩), .int .i64 I] W2 fun e w' => e = .returned (.int .i64 (E : Int)) ∧ w'.cell? ⟨gx, 1, none⟩ = some (.int .i64 I) ∧ Hid (Stepped Zt w gt gp gm gq t N w')) := by
    refine Lib.hid fun W2 hT hob2 => (mskip_any W2 gm gq s t G hT.mod hT.mpw I hI).mono ?_
    rintro e w' ⟨rfl, h2, h3⟩
    have hgmq : gq ∉ [gm] := by
      simp only [List.mem_singleton]
      rintro rfl
      exact hT.gqG hT.gmG
    have hob3 : w'.heap[gx]? = some (actObj K I Z v) := (h3.block gx (lt_of_block hob2) (by simpa using hgxm)).trans hob2
    exact ⟨by rw [hE], (act_cells hob3).2.1, Lib.hid ⟨_, _, F, G, hT.model (A := []) h2 (hT.mpw.save h3 hgmq) (h3.mono (by simp)) (fun k hk => .inl hk) (by simp), HLK.out.2, HLK.out.1⟩⟩
  clear hI h h1 hgx hob hT1 hE hwi hlts hgxF hgxm
  go_enter Try.func21, Try.ntmps21
  go_upto_region 1 with fail
  change Code.wp _ _ _ _ (W.alloc (actObj K I Z v))
  rw [← HW1.out.1, ← HW1.out.2]
  go_upto_region 28 with fail
  go_region_held3 (fun W => W.cell? ⟨gx, 1, none⟩ = some (.int .i64 I))
    (first | exact x1 | exact k2 | exact k3 | go_keep)
    (first
      | (go_at_call 46; refine (HPUT.out _ ?_ ?_).mono ?_; rfl; exact (Save.refl _ _).drew; rintro e W2 ⟨rfl, k2, H2⟩)
      | (go_at_call 47; refine (HMM.out _ H2.out.1 H2.out.2).mono ?_; rintro e W3 ⟨rfl, k3, H3⟩))
  go_wp2
  go_ret
  exact ⟨by simp, H3.out⟩

theorem till_planned (s : Pw) (a t : Int) : (s.planned a t).till = max a (-1) := by
  by_cases h : 0 ≤ a
  · rw [planned_yes _ _ h]; simp only [Pw.till]; omega
  · rw [planned_no _ _ (by omega)]; simp only [Pw.till]; omega

theorem torn_planned (s : Pw) (a t : Int) : ∀ j u, (s.planned a t).plan = some (j, u) → t = u := by
  intro k t' e
  by_cases h : 0 ≤ a
  · rw [planned_yes _ _ h] at e; simp at e; exact e.2
  · rw [planned_no _ _ (by omega)] at e; cases e

set_option maxHeartbeats 2000000 in
set_option maxRecDepth 100000 in
/-- Up. -/
theorem step6 (Zt : List Nat) (w W : World) (gt gp gm gq : Nat) (s : Pw) (t : Tst) (F G : List Nat) (h : Two Zt w W gt gp gm gq s t F s t G) (N : Nat) (hwi : s.within N) (K : Nat) (I Z : Int) (v : Value) (hK : (K : Int) % 7 = 6) :
    Calls Try.prog 21 #[.pointer (some ⟨gt, 0, none⟩), .pointer (some ⟨gm, 0, none⟩), .pointer (some ⟨gq, 0, none⟩), .agg #[.int .u8 (K : Int), .int .i64 I, .int .i64 Z, v]] W fun e W' => e = .returned (.bool true) ∧ Stepped Zt w gt gp gm gq t N W' := by
  obtain ⟨W1, h1⟩ : ∃ W1, W1 = W.alloc (actObj K I Z v) := ⟨_, rfl⟩
  obtain ⟨gx, hgx⟩ : ∃ gx, gx = W.heap.size := ⟨_, rfl⟩
  have hob : W1.heap[gx]? = some (actObj K I Z v) := by rw [h1, hgx]; exact heap_alloc_new W _
  have hT1 : Two Zt w W1 gt gp gm gq s t F s t G := by rw [h1]; exact h.later (Below.alloc0 _ _)
  have x0 := (act_cells hob).1
  obtain ⟨vv, X, bW, bR, htp⟩ := hT1.liv.tap
  have c0 := htp.cells.1
  have hup := up_any W1 gp s htp.pow
  have hT2 : Two Zt w (put W1 gp (powObj s.up)) gt gp gm gq s.up t F s t G := hT1.prog ⟨vv, X, bW, bR, htp.setPow s.up⟩ ((Save.refl _ _).put (by simp) _) (fun k hk => .inl hk)
  obtain ⟨W2, hW2⟩ : ∃ W2, W2 = put W1 gp (powObj s.up) := ⟨_, rfl⟩
  rw [← hW2] at hup hT2
  obtain ⟨tt, hq, _⟩ := hT2.mpw
  obtain ⟨d0, d1, _⟩ := mpcells hq
  have df := mpsoft hq
  have HU := Lib.hid hup
  have HQ := Lib.hid hq
  have HT2 := Lib.hid hT2
  have HW1 := Lib.hid (And.intro h1 hgx)
  have HLK := Lib.hid (hwi.up.mono (show N ≤ N + 1 by omega))
  clear h h1 hgx hob hT1 hwi htp hup hT2 hq hW2
  go_enter Try.func21, Try.ntmps21
  go_upto_region 1 with fail
  change Code.wp _ _ _ _ (W.alloc (actObj K I Z v))
  rw [← HW1.out.1, ← HW1.out.2]
  go_wp2_with fail
  refine HU.out.mono ?_
  rintro e W3 ⟨rfl, rfl⟩
  go_wp2
  go_ret
  refine ⟨rfl, ?_⟩
  have e1 : W3.setCell ⟨gq, 0, none⟩ (.bool true) = put W3 gq (mpObj true s.till tt) := mplay0 HQ.out true
  have hT := HT2.out
  refine ⟨s.up, t, F, G, hT.model (A := []) (tm' := t) (sm' := s.up) ?_ ?_ ?_ (fun k hk => .inl hk) (by simp), HLK.out, Tst.like_refl t⟩
  · refine hT.mod.save (Y := [gq]) ((Save.set _ _ _ _).trans (Save.set _ _ _ _)) (fun k hk => ?_)
    simp only [List.mem_singleton]
    rintro rfl
    exact hT.gqG hk
  · refine ⟨tt, ?_, fun j u e => by cases e⟩
    rw [e1, mplay1 (put_same HQ.out)]
    exact put_same (put_same HQ.out)
  · exact ((Save.set _ _ _ _).trans (Save.set _ _ _ _)).mono (by simp)

set_option maxHeartbeats 2000000 in
set_option maxRecDepth 100000 in
/-- Plan. -/
theorem step5 (Zt : List Nat) (w W : World) (gt gp gm gq : Nat) (s : Pw) (t : Tst) (F G : List Nat) (h : Two Zt w W gt gp gm gq s t F s t G) (N : Nat) (hwi : s.within N) (K : Nat) (I Z : Int) (v : Value) (hK : (K : Int) % 7 = 5) (hI : I < 9223372036854775808) :
    Calls Try.prog 21 #[.pointer (some ⟨gt, 0, none⟩), .pointer (some ⟨gm, 0, none⟩), .pointer (some ⟨gq, 0, none⟩), .agg #[.int .u8 (K : Int), .int .i64 I, .int .i64 Z, v]] W fun e W' => e = .returned (.bool true) ∧ Stepped Zt w gt gp gm gq t N W' := by
  obtain ⟨W1, h1⟩ : ∃ W1, W1 = W.alloc (actObj K I Z v) := ⟨_, rfl⟩
  obtain ⟨gx, hgx⟩ : ∃ gx, gx = W.heap.size := ⟨_, rfl⟩
  have hob : W1.heap[gx]? = some (actObj K I Z v) := by rw [h1, hgx]; exact heap_alloc_new W _
  have hT1 : Two Zt w W1 gt gp gm gq s t F s t G := by rw [h1]; exact h.later (Below.alloc0 _ _)
  have hlts := h.lts
  obtain ⟨x0, x1, x2, _⟩ := act_cells hob
  obtain ⟨vv, X, bW, bR, htp⟩ := hT1.liv.tap
  have c0 := htp.cells.1
  have hgxp : gx ≠ gp := by
    rintro rfl
    have := hlts gx (.inl (by simp))
    omega
  have hgxq : gx ≠ gq := by
    rintro rfl
    have := hlts gx (.inr (.inr rfl))
    omega
  have hgtp : gt ≠ gp := by
    rintro rfl
    exact htp.fp htp.ft
  have HU : Hid (Calls Try.prog 23 #[.pointer (some ⟨gp, 0, none⟩), .int .i64 I, .int .i64 Z] W1.drew fun e w' => e = .returned (.tuple #[]) ∧ (w'.cell? ⟨gt, 0, none⟩ = some (.pointer (some ⟨gp, 0, none⟩)) ∧ w'.cell? ⟨gx, 1, none⟩ = some (.int .i64 I) ∧ w'.cell? ⟨gx, 2, none⟩ = some (.int .i64 Z)) ∧ Hid (Two Zt w w' gt gp gm gq (s.planned I Z) t F s t G)) := by
    refine Lib.hid ((plan_any W1.drew gp s I Z htp.pow).mono ?_)
    rintro e w' ⟨rfl, rfl⟩
    have htp2 : Tp W1.drew gt gp s t F vv X bW bR := htp.kept (Nat.le_refl _) (fun _ _ _ => rfl) htp.pow
    have hob2 : (put W1.drew gp (powObj (s.planned I Z))).heap[gx]? = some (actObj K I Z v) := (put_other hgxp).trans hob
    refine ⟨rfl, ⟨(htp2.setPow (s.planned I Z)).cells.1, (act_cells hob2).2.1, (act_cells hob2).2.2.1⟩, Lib.hid ?_⟩
    exact hT1.prog ⟨vv, X, bW, bR, htp2.setPow _⟩ (((Save.refl _ _).drew).put (by simp) _) (fun k hk => .inl hk)
  have HW1 := Lib.hid (And.intro h1 hgx)
  have HLK := Lib.hid ((hwi.planned Z hI).mono (show N ≤ N + 1 by omega))
  clear h h1 hgx hob hT1 hwi htp hlts hgxp hgtp hI
  go_enter Try.func21, Try.ntmps21
  go_upto_region 1 with fail
  change Code.wp _ _ _ _ (W.alloc (actObj K I Z v))
  rw [← HW1.out.1, ← HW1.out.2]
  go_upto_region 30 with fail
  go_region_held3 (fun W => W.cell? ⟨gt, 0, none⟩ = some (.pointer (some ⟨gp, 0, none⟩)) ∧ W.cell? ⟨gx, 1, none⟩ = some (.int .i64 I) ∧ W.cell? ⟨gx, 2, none⟩ = some (.int .i64 Z))
    (first | exact ⟨c0, x1, x2⟩ | exact k2 | go_keep)
    (first
      | (go_at_call 23; refine HU.out.mono ?_; rintro e W2 ⟨rfl, k2, H2⟩))
  obtain ⟨m0, m1, m2⟩ := k2
  obtain ⟨tt, hq, _⟩ := H2.out.mpw
  obtain ⟨d0, d1, d2⟩ := mpcells hq
  have df := mpsoft hq
  have HQ := Lib.hid hq
  clear hq c0 x0 x1 x2
  go_upto_region 31 with fail
  go_region
  all_goals
    go_wp2
    go_ret
    refine ⟨rfl, ?_⟩
    have hT := H2.out
    refine ⟨s.planned I Z, t, F, G, hT.model (A := []) (tm' := t) (sm' := s.planned I Z) ?_ ?_ ?_ (fun k hk => .inl hk) (by simp), HLK.out, Tst.like_refl t⟩
    · refine hT.mod.save (Y := [gq]) (((Save.refl _ _).drew.trans (Save.set _ _ _ _)).trans (Save.set _ _ _ _)) (fun k hk => ?_)
      simp only [List.mem_singleton]
      rintro rfl
      exact hT.gqG hk
    · refine ⟨Z, ?_, torn_planned s I Z⟩
      rw [till_planned]
      have e0 : W2.drew.heap[gq]? = some (mpObj s.on s.till tt) := HQ.out
      first
        | (change ((W2.drew.setCell ⟨gq, 1, none⟩ (.int .i64 (max I (-1)))).setCell ⟨gq, 2, none⟩ (.int .i64 Z)).heap[gq]? = _
           rw [mplay1 e0, mplay2 (put_same e0)]; exact put_same (put_same e0))
        | (change ((W2.drew.setCell ⟨gq, 2, none⟩ (.int .i64 Z)).setCell ⟨gq, 1, none⟩ (.int .i64 (max I (-1)))).heap[gq]? = _
           rw [mplay2 e0, mplay1 (put_same e0)]; exact put_same (put_same e0))
    · exact (((Save.refl _ _).drew.trans (Save.set _ _ _ _)).trans (Save.set _ _ _ _)).mono (by simp)

end Go.Proofs.Ytcmbnijjkpfhlaa
