/- maps.Copy at maps of blocks; the contracts of New, of, Clone, over any world. -/
import Derived.Test.YtlmieegemckodaaIOps
namespace Go.Proofs.Ytlmieegemckodaa
open Go.RowKit
set_option linter.unusedSimpArgs false

theorem Agr.at_ {D : DataW (List Nat)} {F : List (List Nat)} (h : Agr D F) {x : Int} {l : List Nat} (hat : ∀ z, D.atKey (.int .i64 x) z = .held l) : l = fAt F x := by
  have h1 := Maps.has_true_of_atKey hat
  rw [(h x).1] at h1
  have h2 := (h x).2 (by simpa using h1) .nil
  rw [hat] at h2
  injection h2

/-- The step of a range over a map of blocks. -/
theorem wpList_next_img {w : World} {ops : Array Oper} {rest : List Oper} {o : Oper} {a : Act} {Q : Exit → Act → World → Prop} (hg : o.guard = none) (it : Operand) (hop : o.op = Op.next it false)
    (b r n : Nat) (D : DataW (List Nat)) (F : List (List Nat)) (hA : Agr D F) (left : Lit → Bool) (cnt : Nat) (hit : a.eval it = .pointer (some ⟨r, 0, none⟩)) (h : w.ranges Try.prog 3 blkR b r n D left cnt)
    (hDone : cnt = 0 → (∀ kl, left kl = false) → wpList Try.prog ops Q rest (a.put o.dst (.tuple #[.bool false])) w)
    (hMore : ∀ (x : Int) (l : List Nat) (w' : World) (cnt' : Nat), (Lit.int .i64 x).wf = true → okB l → l = fAt F x → left (.int .i64 x) = true → (∀ zd, D.atKey (.int .i64 x) zd = .held l) → w'.ranges Try.prog 3 blkR b r n D (fun z => left z && !z.sameKey (.int .i64 x)) cnt' → cnt' < cnt →
      w.grownBy w' (some r) → w'.heap.size = w.heap.size → (Instr.entry (.pointer (some ⟨r, 0, none⟩))).run Try.prog w' = .ok (.tuple #[.int .i64 x, .agg (cB l).toArray]) w' → wpList Try.prog ops Q rest (a.put o.dst (.tuple #[.bool true, .int .i64 x, .agg (cB l).toArray])) w') :
    wpList Try.prog ops Q (o :: rest) a w :=
  wpList_next_ranges w hg it hop 3 keyedInt blkR (Value.int .i64) (fun l => .agg (cB l).toArray) (fun key kl hkey => by obtain ⟨x, rfl, _⟩ := Maps.keyOf_int_inv Try.underlying3 hkey; exact ⟨x, rfl⟩) (fun v y hv => by obtain ⟨c, rfl, _⟩ := blkR_inv hv; exact ⟨c, rfl⟩)
    b r n D left cnt hit h hDone (fun x c kl y w' cnt' hkey hlk hv hat hrg hlt hgr hsz hen => by
      obtain ⟨x', ex, rfl, hwx⟩ := Maps.keyOf_int_inv Try.underlying3 hkey
      cases ex
      obtain ⟨c', ec, hc, rfl⟩ := blkR_inv hv
      have : c = c' := cB_inj (congrArg Array.toList (Value.agg.inj ec))
      subst this
      exact hMore x c w' cnt' hwx hc (hA.at_ hat) hlk hat hrg hlt hgr hsz hen)

theorem grown_new (w : World) (o o' : Obj) : w.grownBy (put (w.alloc o) w.heap.size o') none :=
  ⟨rfl, rfl, rfl, by simp [put], fun k hk _ => (put_other (by omega)).trans (Below.heap_alloc _ _ _ hk)⟩

theorem Save.grown {X : List Nat} {w w1 w2 : World} (h : Save X w w1) {row : Option Nat} (hg : w1.grownBy w2 row) (hr : ∀ k, row = some k → w.heap.size ≤ k ∨ k ∈ X) : Save X w w2 :=
  ⟨hg.os.trans h.os, hg.tape.trans h.tape, hg.output.trans h.output, Nat.le_trans h.size hg.size, fun k hk hx => (hg.block k (Nat.lt_of_lt_of_le hk h.size) (by
    intro e
    rcases hr k e.symm with h1 | h1
    · omega
    · exact hx h1)).trans (h.block k hk hx)⟩

theorem Agr.same {D D' : DataW (List Nat)} {F : List (List Nat)} (h : Agr D F) {left : Lit → Bool} (hA : Maps.Agree D' D left) (hl : ∀ k, left k = false) : Agr D' F := by
  intro i
  have e : Maps.has D' (.int .i64 i) = Maps.has D (.int .i64 i) := by rw [hA.1, hl]; simp
  refine ⟨e.trans (h i).1, fun hn z => ?_⟩
  rw [hA.2 _ z (by rw [e, (h i).1]; simp [hn])]
  exact (h i).2 hn z

set_option maxRecDepth 100000 in
theorem copy_any (w : World) (d b n : Nat) (F : List (List Nat)) (hne : d ≠ b) (hd : w.ownsMap Try.prog 3 blkR d 0 (.map [])) (h : Mp w b n F) (hn : n < 100000) :
    Calls Try.prog 53 #[.map (some d), .map (some b)] w fun e w' => e = .returned (.tuple #[]) ∧ Mp w' d n F ∧ Save [d] w w' := by
  obtain ⟨D, hown, hA⟩ := h
  have HAg := Lib.hid hA
  have HO := Lib.hid hown
  have HD := Lib.hid hd
  have HLt := Lib.hid (And.intro hd.lt hown.lt)
  have HSz := Lib.hid hown.size_le
  obtain ⟨r, hr⟩ : ∃ r, r = w.heap.size := ⟨_, rfl⟩
  clear hA hd hown
  go_enter Try.func53, Try.ntmps53
  go_wp2_with (at_range; refine wpList_range_own _ rfl _ 74 rfl 3 80 keyedInt Try.underlying74 _ b n D rfl HO.out ?_; intro w0 hrg0 hg0 hs0)
  go_frame
  rw [← hr] at hrg0 ⊢
  have HR := Lib.hid hr
  have H0 := Lib.hid (And.intro hrg0 hg0)
  clear hr hrg0 hg0 hs0
  go_loopw [4] (fun _ wr => ∃ (left : Lit → Bool) (cnt m : Nat) (Dout : DataW (List Nat)), Hid (wr.ranges Try.prog 3 blkR b r n D left cnt) ∧ Hid (m + cnt ≤ n) ∧ Hid (wr.ownsMap Try.prog 3 blkR d m Dout) ∧ Hid (Maps.Agree Dout D left) ∧ Hid (Save [d] w wr)) (fun _ wr => wr.rangeLeft b r)
  case atStart =>
    exact ⟨_, _, 0, .map [], Lib.hid H0.out.1, Lib.hid (by have := HSz.out; omega), Lib.hid (HD.out.kept H0.out.2 (by simp)), Lib.hid (Maps.agree_start D), Lib.hid ((Save.refl [d] w).grown H0.out.2 (by simp))⟩
  case round =>
    obtain ⟨left, cnt, m, Dout, HRg, HC, HOut, HAgr, HS⟩ := hrel
    go_wp2_with (at_next; refine wpList_next_img rfl _ rfl b r n D F HAg.out left cnt rfl HRg.out ?_ ?_)
    · intro hc0 hl0
      have HL0 := Lib.hid hl0
      clear hc0 hl0
      go_wp2
      go_end0
      refine ⟨rfl, ⟨Dout, HOut.out.mono (by have := HC.out; omega), HAg.out.same HAgr.out HL0.out⟩, HS.out⟩
    · intro x l w1 cnt1 hwx hokl hlF hlx hat hrg1 hlt hg1 hs1 hen
      have HX := Lib.hid (And.intro hwx (And.intro hokl hat))
      have H1 := Lib.hid (And.intro hrg1 (And.intro hlt hg1))
      clear hwx hokl hat hrg1 hlt hg1 hlF hlx hs1
      obtain ⟨g5, hg5⟩ : ∃ g5, g5 = w1.heap.size := ⟨_, rfl⟩
      go_upto_region 3 with (refine wpList_store_blk rfl (.tmp 5) (.tmp 12) rfl _ 80 (List.replicate 32 0) l rfl rfl (heap_alloc_last _ _) List.length_replicate HX.out.2.1.1 ?_; intro w3 H3)
      rw [← hg5]
      have HB3 : Hid (w3.heap[g5]? = some (rowObj 80 l)) := Lib.hid (by rw [H3.out, hg5]; exact put_same (heap_alloc_last _ _))
      have HG3 : Hid (w1.grownBy w3 none) := Lib.hid (by rw [H3.out]; exact grown_new _ _ _)
      have HK3 := Lib.hid ((H1.out.1).kept HG3.out (by simp) (by simp))
      have HO3 := Lib.hid ((HOut.out.kept H1.out.2.2 (by
        have := HLt.out.1; have := HR.out
        intro e; injection e with e; omega)).kept HG3.out (by simp))
      have hm : m < 100000 := by have := HC.out; have := H1.out.2.1; omega
      clear H3 hg5 hen
      go_wp2_with (first
        | (refine wpList_load_blk rfl (.tmp 5) rfl g5 80 l rfl HB3.out HX.out.2.1.1 ?_)
        | (at_mapUpdate; refine wpList_mapUpdate_own _ rfl _ _ _ 74 rfl 3 80 keyedInt Try.underlying74 blkR d m Dout rfl HO3.out (by unfold maxLen; omega) _ _ _ rfl rfl (Maps.keyOf_int_mk Try.underlying3 HX.out.1) _ [] (blkR_mk HX.out.2.1) ?_; intro w4 hout4 hg4; go_frame))
      have hrg4 := HK3.out.kept hg4 (by intro e; injection e with e; exact hne e.symm) (by
        have := HLt.out.1; have := HR.out
        intro e; injection e with e; omega)
      go_roundw
      case rel =>
        refine ⟨_, cnt1, m + 1, _, Lib.hid hrg4, Lib.hid ?_, Lib.hid hout4, Lib.hid (Maps.agree_step HAgr.out HOut.out.isMap (isKey_int x) HX.out.2.2), Lib.hid ?_⟩
        · have := HC.out; have := H1.out.2.1; omega
        · refine (((HS.out.grown H1.out.2.2 ?_).grown HG3.out (by simp)).grown hg4 ?_)
          · intro k e; injection e with e; left; rw [← e, HR.out]; exact Nat.le_refl _
          · intro k e; injection e with e; right; simp [e]
      case measure => rw [hrg4.left_eq, HRg.out.left_eq]; exact H1.out.2.1

theorem copy_none (w : World) (d : Nat) :
    Calls Try.prog 53 #[.map (some d), .map none] w fun e w' => e = .returned (.tuple #[]) ∧ Below w.heap.size w w' := by
  have hrg := run_range_nilMap (P := Try.prog) w 74 3 80 Try.underlying74
  have hnx : ∀ ty, (Instr.next (.pointer (some ⟨w.heap.size, 0, none⟩)) false ty).run Try.prog (w.alloc (.mapIter none 0 #[] 0)) = _ := fun ty => run_next_nilMap _ ty 0 0 #[]
  go_enter Try.func53, Try.ntmps53
  go_wp2
  refine wp_loop_rounds 1 ?_
  rw [rounds_succ]
  go_wp2
  go_end0
  exact ⟨rfl, Below.alloc0 _ _⟩

end Go.Proofs.Ytlmieegemckodaa
