/- The contracts of an image's Put, Clear, Get, over any world. -/
import Derived.Test.YtlmieegemckodaaIArr
import Derived.StillTailTactics
import Derived.Deep.DeepCutAuto
namespace Go.Proofs.Ytlmieegemckodaa
open Go.RowKit
set_option linter.unusedSimpArgs false

theorem arrB_all (g : Nat) (W : World) : (Instr.sliceAt 80 (.pointer (some ⟨g, 0, none⟩)) none none none).run Try.prog W = .ok (.slice (some ⟨g, 0, none⟩) 32 32) W := by
  obtain ⟨i0, hi0, hz0, hz1, hz2⟩ := info_parts info5
  rw [run_sliceAt_array_all (P := Try.prog) W 80 ⟨g, 0, none⟩ (by kernel_rfl)]
  simp [sizeOf, typeInfo, show Try.prog.elem 80 = 5 by kernel_rfl, show Try.prog.arrayLen 80 = 32 by kernel_rfl, hi0, slicedAt, sliced, Addr.add]

theorem rd_blk {w : World} {g : Nat} {T : TypeId} {l : List Nat} (h : w.heap[g]? = some (rowObj T l)) (hl : okB l) : Rd w (some ⟨g, 0, none⟩) 32 l := by
  refine ⟨hl.1, hl.2, fun _ => ⟨g, 0, rfl, fun j hj => ?_⟩⟩
  have hj' : j < l.length := by rw [hl.1]; exact hj
  rw [Nat.zero_add, cell_of_row w g j _ T (0, 0) h]
  simp [cB, List.getD, hj']

/-- A block of these bytes, and of bytes 0 behind them. -/
def padB (b : List Nat) : List Nat := b ++ List.replicate (32 - b.length) 0

theorem padB_ok {b : List Nat} (h : b.length ≤ 32) (hb : ∀ x ∈ b, x < 256) : okB (padB b) := by
  refine ⟨by simp [padB]; omega, fun x hx => ?_⟩
  simp only [padB, List.mem_append] at hx
  rcases hx with hx | hx
  · exact hb x hx
  · exact byte_zeros _ x hx

theorem padB_ne (b : List Nat) : padB b ≠ [] := by
  intro h
  have := congrArg List.length h
  simp only [padB, List.length_append, List.length_replicate, List.length_nil] at this
  omega

theorem okB.ne {l : List Nat} (h : okB l) : l ≠ [] := by
  rintro rfl
  have := h.1
  simp at this

theorem pad_spliced {b : List Nat} (h : b.length ≤ 32) : splice (List.replicate 32 0) 0 (b.take (min b.length 32)) = padB b := by
  rw [show min b.length 32 = b.length by omega, List.take_length]
  unfold splice padB
  rw [List.take_zero, List.nil_append, Nat.zero_add, List.drop_replicate]

theorem isNumber_any (i : Int) (w : World) : Calls Try.prog 31 #[.int .i64 i] w fun e w' => e = .returned (.bool (decide (0 ≤ i ∧ i < 256))) ∧ w' = w := by
  by_cases h0 : 0 ≤ i
  · by_cases h1 : i < 256
    · have : decide (0 ≤ i ∧ i < 256) = true := by simp [h0, h1]
      rw [this]
      go_enter Try.func31, Try.ntmps31
      go_wp2
      go_ret
      exact ⟨rfl, rfl⟩
    · have : decide (0 ≤ i ∧ i < 256) = false := by simp [h1]
      rw [this]
      go_enter Try.func31, Try.ntmps31
      go_wp2
      go_ret
      exact ⟨rfl, rfl⟩
  · have : decide (0 ≤ i ∧ i < 256) = false := by simp [h0]
    rw [this]
    go_enter Try.func31, Try.ntmps31
    go_wp2
    go_ret
    exact ⟨rfl, rfl⟩

theorem all_any (w : World) (g b n : Nat) (F : List (List Nat)) (h : Img w g b n F) : Calls Try.prog 30 #[.pointer (some ⟨g, 0, none⟩)] w fun e w' => e = .returned (.map (some b)) ∧ w' = w := by
  have hc := h.cell
  clear h
  go_enter Try.func30, Try.ntmps30
  go_wp2
  go_ret
  exact ⟨rfl, rfl⟩

theorem clear_no (w : World) (g b n : Nat) (F : List (List Nat)) (i : Int) (_ : Img w g b n F) (hi : i < 0 ∨ 256 ≤ i) :
    Calls Try.prog 10 #[.pointer (some ⟨g, 0, none⟩), .int .i64 i] w fun e w' => e = .returned (.int .i64 1) ∧ w' = w := by
  have HN := Lib.hid (isNumber_any i w)
  rw [show decide (0 ≤ i ∧ i < 256) = false by simp; omega] at HN
  clear hi
  go_enter Try.func10, Try.ntmps10
  go_wp2_with fail
  refine HN.out.mono ?_
  rintro e w1 ⟨rfl, rfl⟩
  go_wp2
  go_ret
  exact ⟨rfl, rfl⟩

theorem clear_yes (w : World) (g b n : Nat) (F : List (List Nat)) (j : Nat) (h : Img w g b n F) (hj : j < 256) :
    Calls Try.prog 10 #[.pointer (some ⟨g, 0, none⟩), .int .i64 (j : Int)] w fun e w' => e = .returned (.int .i64 0) ∧ Img w' g b n (F.set j []) ∧ Save [b] w w' := by
  have HN := Lib.hid (isNumber_any (j : Int) w)
  rw [show decide (0 ≤ (j : Int) ∧ (j : Int) < 256) = true by simp; omega] at HN
  have HA := Lib.hid (all_any w g b n F h)
  have hkey : keyOf Try.prog 3 (.int .i64 (j : Int)) = some (.int .i64 (j : Int)) := Maps.keyOf_int_mk Try.underlying3 (WalkArith.wf_i64 (by omega))
  obtain ⟨D, hown, hA⟩ := h.map
  have HH := Lib.hid (And.intro h hA)
  clear h hA
  go_enter Try.func10, Try.ntmps10
  go_wp2_with fail
  refine HN.out.mono ?_
  rintro e w1 ⟨rfl, rfl⟩
  go_wp2_with fail
  refine HA.out.mono ?_
  rintro e w2 ⟨rfl, rfl⟩
  go_wp2_with (at_delete; refine wpList_delete_own _ rfl _ _ 74 3 rfl 80 keyedInt Try.underlying74 _ b n D rfl hown _ _ rfl hkey ?_; intro w3 hown3 hturn3)
  have HT := Lib.hid (And.intro hown3 hturn3)
  clear hown3 hturn3
  go_wp2
  go_ret
  have hg := HT.out.2.grown
  have hne := HH.out.1.ne
  refine ⟨rfl, ⟨(hg.block g HH.out.1.lt (by simp [hne])).trans HH.out.1.blk, ⟨_, HT.out.1, HH.out.2.del (by rw [HH.out.1.ok.1]; exact hj)⟩, HH.out.1.ok.set j (.inl rfl)⟩, ⟨hg.os, hg.tape, hg.output, hg.size, fun k hk hx => hg.block k hk (by simpa using hx)⟩⟩

theorem get_hole (w : World) (g b n : Nat) (F : List (List Nat)) (i : Int) (h : Img w g b n F) (hi : (Lit.int .i64 i).wf = true) (hf : fAt F i = []) :
    Calls Try.prog 17 #[.pointer (some ⟨g, 0, none⟩), .int .i64 i] w fun e w' => e = .returned (.tuple #[.slice none 0 0, .bool false]) ∧ Below w.heap.size w w' := by
  have HA := Lib.hid (all_any w g b n F h)
  obtain ⟨l, hl, _, hrun, _⟩ := h.map.look i hi
  rw [show decide (fAt F i ≠ []) = false by simp [hf]] at hrun
  have HL := Lib.hid hl
  clear h hf hi hl
  go_enter Try.func17, Try.ntmps17
  go_wp2_with fail
  refine HA.out.mono ?_
  rintro e w2 ⟨rfl, rfl⟩
  go_wp2_with (refine wpList_store_blk rfl (.tmp 6) (.tmp 13) rfl _ 80 (List.replicate 32 0) l rfl rfl (heap_alloc_last _ _) List.length_replicate HL.out.1 ?_; intro w3 H3)
  have HB : Hid (Below w2.heap.size w2 w3) := Lib.hid (by rw [H3.out]; exact (Below.alloc0 _ _).trans (put_below _ (Nat.le_refl _)))
  clear H3
  go_wp2
  go_ret2
  exact ⟨rfl, HB.out⟩

theorem get_block (w : World) (g b n : Nat) (F : List (List Nat)) (i : Int) (h : Img w g b n F) (hi : (Lit.int .i64 i).wf = true) (hf : fAt F i ≠ []) :
    Calls Try.prog 17 #[.pointer (some ⟨g, 0, none⟩), .int .i64 i] w fun e w' => ∃ a c, e = .returned (.tuple #[.slice a 32 c, .bool true]) ∧ Rd w' a 32 (fAt F i) ∧ Below w.heap.size w w' := by
  have HA := Lib.hid (all_any w g b n F h)
  obtain ⟨l, hl, hle, hrun, _⟩ := h.map.look i hi
  rw [show decide (fAt F i ≠ []) = true by simp [hf]] at hrun
  rw [← hle hf]
  have HL := Lib.hid hl
  clear h hf hi hl hle
  obtain ⟨g6, hg6⟩ : ∃ g6, g6 = w.heap.size := ⟨_, rfl⟩
  go_enter Try.func17, Try.ntmps17
  go_wp2_with fail
  refine HA.out.mono ?_
  rintro e w2 ⟨rfl, rfl⟩
  go_wp2_with (refine wpList_store_blk rfl (.tmp 6) (.tmp 13) rfl _ 80 (List.replicate 32 0) l rfl rfl (heap_alloc_last _ _) List.length_replicate HL.out.1 ?_; intro w3 H3)
  have HB : Hid (Below w2.heap.size w2 w3) := Lib.hid (by rw [H3.out]; exact (Below.alloc0 _ _).trans (put_below _ (Nat.le_refl _)))
  have HR : Hid (Rd w3 (some ⟨g6, 0, none⟩) 32 l) := Lib.hid (by rw [H3.out, hg6]; exact rd_blk (put_same (heap_alloc_last _ _)) HL.out)
  clear H3
  rw [← hg6] at HB ⊢
  clear hg6
  have hs := arrB_all g6
  go_wp2
  go_ret2
  first
    | exact ⟨_, _, rfl, HR.out, HB.out⟩
    | exact ⟨_, ⟨_, rfl⟩, HR.out, HB.out⟩

theorem eql_mapnil (b : Nat) (w : World) : (binOp .eql 74 (.map (some b)) (.map none)).run Try.prog w = .ok (.bool false) w := by
  have h : ∀ d : Nat, (Op.equalIn (d + 1) 74 (.map (some b)) (.map none)).run Try.prog w = .ok false w := fun d => by
    simp [Op.equalIn, run_underlying Try.underlying74]
  simp only [binOp]
  simp [Op.equal, Op.maxDepth, h 9999]

theorem imgPut_no (w : World) (g b n : Nat) (F : List (List Nat)) (i : Int) (a : Option Addr) (m c : Nat) (_ : Img w g b n F) (hi : i < 0 ∨ 256 ≤ i ∨ 32 < m) :
    Calls Try.prog 9 #[.pointer (some ⟨g, 0, none⟩), .int .i64 i, .slice a m c] w fun e w' => e = .returned (.int .i64 1) ∧ w' = w := by
  have HN := Lib.hid (isNumber_any i w)
  by_cases h1 : i < 0 ∨ 256 ≤ i
  · rw [show decide (0 ≤ i ∧ i < 256) = false by simp; omega] at HN
    clear hi h1
    go_enter Try.func9, Try.ntmps9
    go_wp2_with fail
    refine HN.out.mono ?_
    rintro e w1 ⟨rfl, rfl⟩
    go_wp2
    go_ret
    exact ⟨rfl, rfl⟩
  · rw [show decide (0 ≤ i ∧ i < 256) = true by simp; omega] at HN
    have hm : 32 < m := by omega
    clear hi h1
    go_enter Try.func9, Try.ntmps9
    go_wp2_with fail
    refine HN.out.mono ?_
    rintro e w1 ⟨rfl, rfl⟩
    go_wp2
    go_ret
    exact ⟨rfl, rfl⟩

set_option maxRecDepth 100000 in
theorem imgPut_yes (w : World) (g b n : Nat) (F : List (List Nat)) (j : Nat) (a : Option Addr) (m c : Nat) (x : List Nat) (h : Img w g b n F) (hn : n < 100000) (hj : j < 256) (hm : m ≤ 32) (hr : Rd w a m x) :
    Calls Try.prog 9 #[.pointer (some ⟨g, 0, none⟩), .int .i64 (j : Int), .slice a m c] w fun e w' => e = .returned (.int .i64 0) ∧ Img w' g b (n + 1) (F.set j (padB x)) ∧ Save [b] w w' := by
  have HN := Lib.hid (isNumber_any (j : Int) w)
  rw [show decide (0 ≤ (j : Int) ∧ (j : Int) < 256) = true by simp; omega] at HN
  have hc := h.cell
  have HH := Lib.hid h
  have HRD := Lib.hid hr
  have HJ := Lib.hid hj
  have HN2 := Lib.hid hn
  have hkey : keyOf Try.prog 3 (.int .i64 (j : Int)) = some (.int .i64 (j : Int)) := Maps.keyOf_int_mk Try.underlying3 (WalkArith.wf_i64 (by omega))
  have HK := Lib.hid hkey
  have hnil := eql_mapnil b
  clear h hr hj hn hkey
  go_enter Try.func9, Try.ntmps9
  go_wp2_with fail
  refine HN.out.mono ?_
  rintro e w1 ⟨rfl, rfl⟩
  go_upto_region 6 with fail
  change Code.wp _ _ _ _ (w1.alloc (rowObj 80 (List.replicate 32 0)))
  obtain ⟨w2, h2⟩ : ∃ w2, w2 = w1.alloc (rowObj 80 (List.replicate 32 0)) := ⟨_, rfl⟩
  obtain ⟨g7, hg7⟩ : ∃ g7, g7 = w1.heap.size := ⟨_, rfl⟩
  rw [← h2, ← hg7]
  have HB2 : Hid (Below w1.heap.size w1 w2) := by rw [h2]; exact Lib.hid (Below.alloc0 _ _)
  have HS2 : Hid (w2.heap[g7]? = some (rowObj 80 (List.replicate 32 0))) := by rw [h2, hg7]; exact Lib.hid (heap_alloc_last _ _)
  have HG7 := Lib.hid hg7
  have HRD2 := Lib.hid (HRD.out.later HB2.out)
  clear h2 hg7
  have HE : Hid (splice (List.replicate 32 0) 0 (x.take (min m 32)) = padB x) := by
    have := pad_spliced (b := x) (by rw [HRD.out.1]; exact hm)
    rw [HRD.out.1] at this
    exact Lib.hid this
  have hs1 := arrB_all g7
  go_wp2_with (refine wpList_copy_bytes rfl (.tmp 29) (.tmp 30) rfl _ _ _ _ _ _ rfl rfl g7 0 80 (List.replicate 32 0) x HS2.out HRD2.out (fun _ => rfl) ?fit (padB x) HE.out ?next)
  case fit => simp only [List.length_replicate]; omega
  case next =>
    intro w3 H3
    have h3 := H3.out
    clear H3
    have HS3 : Hid (w3.heap[g7]? = some (rowObj 80 (padB x))) := by rw [h3]; exact Lib.hid (put_same HS2.out)
    have HB3 : Hid (Below w1.heap.size w1 w3) := by rw [h3]; exact Lib.hid (HB2.out.trans (put_below _ (by rw [HG7.out]; exact Nat.le_refl _)))
    have HH3 := Lib.hid (HH.out.later HB3.out)
    have HPX : Hid (okB (padB x)) := Lib.hid (padB_ok (by rw [HRD.out.1]; exact hm) HRD.out.2.1)
    clear h3 hs1 hc
    go_upto_region 7 with fail
    refine wp_region_still_tail 6 (by kernel_rfl) (by kernel_rfl) ?_
    simp only [List.take_succ_cons, List.take_zero, List.drop_succ_cons, List.drop_zero]
    change wpStill _ _ w3.drew _ _ _
    obtain ⟨w5, h5⟩ : ∃ w5, w5 = w3.drew := ⟨_, rfl⟩
    have HH5 : Hid (Img w5 g b n F) := by rw [h5]; exact Lib.hid HH3.out.drew
    have HB5 : Hid (Below w1.heap.size w1 w5) := by rw [h5]; exact Lib.hid HB3.out.drew
    have HS5 : Hid (w5.heap[g7]? = some (rowObj 80 (padB x))) := by rw [h5]; exact HS3
    have hc5 := HH5.out.cell
    rw [← h5]
    have H5 := Lib.hid h5
    clear h5
    repeat still_step
    refine wpStill_load_blk rfl (.tmp 7) rfl g7 80 (padB x) rfl HS5.out HPX.out.1 ?_
    refine wpStill_nil ?_
    change wpList _ _ _ _ _ w3.drew
    rw [← H5.out]
    obtain ⟨D, hown, hA⟩ := HH5.out.map
    have hlt := HN2.out
    have HIM := Lib.hid hown.isMap
    refine wpList_mapUpdate_own _ rfl _ _ _ 74 rfl 3 80 keyedInt Try.underlying74 blkR b n D rfl hown (by unfold maxLen; omega) _ _ _ rfl rfl HK.out _ [] (blkR_mk HPX.out) ?_
    intro w6 hown6 hgrow6
    have HO := Lib.hid (And.intro hown6 hgrow6)
    have HAg := Lib.hid hA
    clear hown6 hgrow6 hA hown hc5 hlt hnil
    go_wp2
    go_ret
    have hg := HO.out.2
    have hne := HH5.out.ne
    refine ⟨rfl, ⟨(hg.block g HH5.out.lt (by simp [hne])).trans HH5.out.blk, ⟨_, HO.out.1, HAg.out.put HIM.out (by rw [HH5.out.ok.1]; exact HJ.out) (padB_ne x)⟩, HH5.out.ok.set j (.inr HPX.out)⟩, ?_⟩
    exact (Save.of_below HB5.out [b]).trans ⟨hg.os, hg.tape, hg.output, hg.size, fun k hk hx => hg.block k hk (by simpa using hx)⟩

end Go.Proofs.Ytlmieegemckodaa
