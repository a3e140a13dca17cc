/- A block's bytes, by the document: over any world. -/
import Derived.Test.YtkfnjekeegebaaaSgRefRight
import Derived.Test.YtkfnjekeegebaaaCheckRef
import Derived.Test.YtkfnjekeegebaaaRefNum
import Derived.Lib.AppendStr
import Derived.Deep.DeepCutAuto
import Derived.Deep.CutBlock
namespace Go.Proofs.Ytkfnjekeegebaaa
open Go.RowKit
set_option linter.unusedSimpArgs false

theorem strCells_strB {l : List Nat} (h : ∀ x ∈ l, x < 256) : Lib.strCells (strB l) = cB l := by
  unfold Lib.strCells strB cB
  rw [strOfNums_data]
  simp only [List.map_map]
  refine List.map_congr_left fun x hx => ?_
  have := h x hx
  simp only [Function.comp]
  congr 1
  simp
  omega

/-- Bytes of a string behind a row of the call's own. -/
theorem wpList_append_str {w : World} {ops : Array Oper} {rest : List Oper} {o : Oper} {a : Act} {Q : Exit → Act → World → Prop} (hgd : o.guard = none) (s x : Operand)
    (hop : o.op = .call { callee := .builtin .append, args := #[s, x], argTypes := #[26, 9] }) (v : Value) (hs : a.eval s = v) (l : List Nat) (hlb : ∀ x ∈ l, x < 256) (hx : a.eval x = .string (strB l))
    (base : Nat) (l0 : List Nat) (ho : Own w base v l0) (hbase : base ≤ w.heap.size) (hn : l0.length + l.length ≤ 3000000)
    (h : ∀ v' w', Own w' base v' (l0 ++ l) → Below base w w' → wpList Try.prog ops Q rest (a.put o.dst v') w') :
    wpList Try.prog ops Q (o :: rest) a w := by
  obtain ⟨i0, hi0, hz0, hz1, hz2⟩ := info_parts info5
  refine Lib.wpList_append_own_string w hgd s x 26 9 hop base 5 i0 Try.underlying26 Try.underlying9 hi0 hz0 hz1 hz2 v l0.length (cB l0) hs ho.2 (strB l) hx (by rw [strB_size]; unfold maxLen; omega) (by rw [strB_size]; omega) hbase ?_
  intro v' w' h1 h2 _
  rw [strB_size, strCells_strB hlb, ← cB_append, ← List.length_append] at h1
  refine h v' w' ⟨fun y hy => ?_, h1⟩ ((Below.refl base w).grown h2 hbase fun k hk => (World.ownsRow.lt ho.2 k hk).1)
  rcases List.mem_append.1 hy with hy | hy
  · exact ho.1 y hy
  · exact hlb y hy

theorem wrapV {m : Nat} (h : m ≤ 18446744073709551615) : IntKind.u64.wrap (m : Int) = m := by rw [IntKind.wrap_u64]; omega

/-- The bytes of the first j numbers. -/
def encUp (x : N5) (j : Nat) : List Nat := (x.list.take j).flatMap fun n => vEnc n.toNat

theorem encUp_all (x : N5) : encUp x 5 = x.enc := by simp [encUp, N5.list, N5.enc]

theorem encUp_len (x : N5) (j : Nat) (hj : j ≤ 5) (h : x.ok = true) : (encUp x j).length ≤ 50 := by
  have h1 : ∀ (M : List Int), M.all numOk = true → (M.flatMap fun n => vEnc n.toNat).length ≤ 10 * M.length := by
    intro M
    induction M with
    | nil => simp
    | cons y r ih =>
      intro hy
      simp only [List.all_cons, Bool.and_eq_true] at hy
      obtain ⟨t, rfl, ht⟩ := numOk_nat hy.1
      have e1 := vEnc_len10 (n := t) (by omega)
      have e2 := ih hy.2
      simp only [List.flatMap_cons, List.length_append, List.length_cons, Int.toNat_natCast]
      omega
  have h2 : (x.list.take j).all numOk = true := by
    rw [← ok_all] at h
    rw [List.all_eq_true] at h ⊢
    exact fun z hz => h z (List.mem_of_mem_take hz)
  have h3 := h1 _ h2
  have h4 : (x.list.take j).length ≤ j := List.length_take_le _ _
  unfold encUp
  omega

set_option maxHeartbeats 2000000 in
set_option maxRecDepth 100000 in
theorem refBlB_data (t : List Nat) (w : World) (ht : ∀ z ∈ t, z < 256) (hl : t.length ≤ 1000) :
    Calls Try.prog 20 #[blV 68 N5.zero (strB t)] w fun e w' => ∃ v, e = .returned v ∧ Own w' w.heap.size v ((68 :: t) ++ sumB (cSum (68 :: t))) ∧ Below w.heap.size w w' := by
  obtain ⟨q, hq⟩ : ∃ q, q = w.heap.size := ⟨_, rfl⟩
  obtain ⟨w1, hw1⟩ : ∃ w1, w1 = w.alloc (blkObj 68 N5.zero (strB t)) := ⟨_, rfl⟩
  have HQ : Hid (w1.heap[q]? = some (blkObj 68 N5.zero (strB t))) := Lib.hid (by rw [hw1, hq]; exact heap_alloc_new w _)
  have HB : Hid (Below w.heap.size w w1 ∧ w1.heap.size = q + 1) := Lib.hid (by rw [hw1, hq]; exact ⟨Below.alloc0 _ _, by simp⟩)
  simp only [blkObj, N5.zero] at hw1
  have HW : Hid (w.alloc (.cells #[.int .u8 68, .int .i64 0, .int .i64 0, .int .i64 0, .int .i64 0, .int .i64 0, .string (strB t)] 40) = w1 ∧ w.heap.size = q) := Lib.hid ⟨hw1.symm, hq.symm⟩
  have HTB := Lib.hid ht
  simp only [blV, N5.zero]
  clear hw1 hq ht
  rw [HW.out.2]
  go_enter Try.func20, Try.ntmps20
  go_upto_region 1 with fail
  change Code.wp _ _ _ _ (w.alloc (.cells #[.int .u8 68, .int .i64 0, .int .i64 0, .int .i64 0, .int .i64 0, .int .i64 0, .string (strB t)] 40))
  rw [HW.out.1, HW.out.2]
  obtain ⟨c0, _, _, _, _, _, c6⟩ := seven_cells HQ.out
  have d0 : ∀ o, (w1.alloc o).cell? ⟨q, 0, none⟩ = some (.int .u8 68) := fun o => Lib.cell?_alloc_some _ c0
  have d6 : ∀ o, (w1.alloc o).cell? ⟨q, 6, none⟩ = some (.string (strB t)) := fun o => Lib.cell?_alloc_some _ c6
  have c0' : w1.cell? ⟨q, 0, none⟩ = some (.int .u8 68) := c0
  clear c0
  go_wp2_with (at_builtin; refine wpList_append_str rfl (.tmp 11) (.tmp 13) rfl (.slice (some ⟨w1.heap.size, 0, none⟩) 1 1) rfl t HTB.out rfl (q + 1) [68] (Own.mono (own_one (w := w1.alloc (.cells #[.int .u8 68] 5)) (g := w1.heap.size) (x := 68) (by omega) (heap_alloc_new w1 _)) (by have := HB.out.2; omega)) (by have := HB.out.2; simp; omega) (by simp; omega) ?_; intro v2 x2 hv2 hx2; have HX2 : Hid (Below q w x2) := Lib.hid (by have h1 := HB.out; rw [HW.out.2] at h1; exact (h1.1.trans ((Below.alloc0 w1 _).mono (by omega))).trans (hx2.mono (by omega))); have HV2 : Hid (Own x2 (q + 1) v2 ([68] ++ t)) := Lib.hid hv2; clear hv2 hx2)
  clear d0 d6 c0' c6
  obtain ⟨aP, cP, hvP, hrP, _⟩ := HV2.out.sl
  subst hvP
  refine (refSeal_any aP _ cP ([68] ++ t) x2 hrP (by simp; omega)).mono ?_
  rintro e w3 ⟨v3, rfl, ho3, hb3⟩
  obtain ⟨a3, c3, rfl, _, _⟩ := ho3.sl
  obtain ⟨N, hN⟩ : ∃ N, N = (([68] ++ t) ++ sumB (cSum ([68] ++ t))).length := ⟨_, rfl⟩
  rw [← hN] at ho3 ⊢
  clear hN
  have HF : Hid (Own w3 q (.slice a3 N c3) (([68] ++ t) ++ sumB (cSum ([68] ++ t))) ∧ Below q w w3) := Lib.hid ⟨ho3.mono (by have := HX2.out.size; have := HW.out.2; omega), HX2.out.trans (hb3.mono (by have := HX2.out.size; have := HW.out.2; omega))⟩
  clear ho3 hb3 hrP
  go_wp2
  go_ret
  exact ⟨_, rfl, HF.out.1, HF.out.2⟩

set_option maxHeartbeats 2000000 in
set_option maxRecDepth 100000 in
theorem refBlB_nums (k : Nat) (x : N5) (w : World) (hk : k < 256) (h68 : k ≠ 68) (hok : x.ok = true) :
    Calls Try.prog 20 #[blV k x (strB [])] w fun e w' => ∃ v, e = .returned v ∧ Own w' w.heap.size v ((k :: x.enc) ++ sumB (cSum (k :: x.enc))) ∧ Below w.heap.size w w' := by
  have hs0 : strB [] = ⟨#[]⟩ := rfl
  rw [hs0]
  obtain ⟨q, hq⟩ : ∃ q, q = w.heap.size := ⟨_, rfl⟩
  obtain ⟨w1, hw1⟩ : ∃ w1, w1 = w.alloc (blkObj k x ⟨#[]⟩) := ⟨_, rfl⟩
  have HQ : Hid (w1.heap[q]? = some (blkObj k x ⟨#[]⟩)) := Lib.hid (by rw [hw1, hq]; exact heap_alloc_new w _)
  have HB : Hid (Below w.heap.size w w1 ∧ w1.heap.size = q + 1) := Lib.hid (by rw [hw1, hq]; exact ⟨Below.alloc0 _ _, by simp⟩)
  simp only [blkObj] at hw1
  have HW : Hid (w.alloc (.cells #[.int .u8 (k : Int), .int .i64 x.n0, .int .i64 x.n1, .int .i64 x.n2, .int .i64 x.n3, .int .i64 x.n4, .string ⟨#[]⟩] 40) = w1 ∧ w.heap.size = q) := Lib.hid ⟨hw1.symm, hq.symm⟩
  have HLT : Hid (∀ j : Nat, j < 5 → x.list.take (j + 1) = x.list.take j ++ [x.list.getD j 0]) := Lib.hid fun j hj => list_at x hj
  have HOA : Hid (∀ j : Nat, j < 5 → numOk (x.list.getD j 0) = true) := Lib.hid fun j hj => by
    have h := hok
    rw [← ok_all, List.all_eq_true] at h
    refine h _ ?_
    have : j < x.list.length := hj
    simp [List.getD, this]
  have HEL : Hid (∀ j : Nat, j ≤ 5 → (encUp x j).length ≤ 50) := Lib.hid fun j hj => encUp_len x j hj hok
  have HEN := Lib.hid (encUp_all x)
  have k1 : ((k : Int) == 68) = false := by simp; omega
  have HKB : Hid (k < 256) := Lib.hid hk
  obtain ⟨S, hS⟩ : ∃ S, S = (k :: x.enc) ++ sumB (cSum (k :: x.enc)) := ⟨_, rfl⟩
  have HS := Lib.hid hS
  rw [← hS]
  clear hS
  simp only [blV]
  clear hw1 hq hok hs0 hk
  rw [HW.out.2]
  go_enter Try.func20, Try.ntmps20
  go_upto_region 1 with fail
  change Code.wp _ _ _ _ (w.alloc (.cells #[.int .u8 (k : Int), .int .i64 x.n0, .int .i64 x.n1, .int .i64 x.n2, .int .i64 x.n3, .int .i64 x.n4, .string ⟨#[]⟩] 40))
  rw [HW.out.1, HW.out.2]
  obtain ⟨c0, _, _, _, _, _, _⟩ := seven_cells HQ.out
  have d0 : ∀ o, (w1.alloc o).cell? ⟨q, 0, none⟩ = some (.int .u8 (k : Int)) := fun o => Lib.cell?_alloc_some _ c0
  go_wp2_with fail
  clear c0 d0
  have HD0 : Hid (Own (w1.alloc (.cells #[.int .u8 (k : Int)] 5)) (q + 1) (.slice (some ⟨w1.heap.size, 0, none⟩) 1 1) ([k] ++ encUp x 0) ∧ Below (q + 1) w1 (w1.alloc (.cells #[.int .u8 (k : Int)] 5))) := by
    refine Lib.hid ⟨?_, (Below.alloc0 w1 _).mono (by have := HB.out.2; omega)⟩
    exact Own.mono (own_one (x := k) HKB.out (heap_alloc_new w1 _)) (by have := HB.out.2; omega)
  go_loopg [3, 4] 5 (fun gk d i wr => ∃ j : Nat, gk = 5 - j ∧ j ≤ 5 ∧ i = .int .i64 (j : Int) ∧ Hid (Own wr (q + 1) d ([k] ++ encUp x j) ∧ Below (q + 1) w1 wr))
  case atStart => exact ⟨0, rfl, Nat.zero_le _, rfl, HD0⟩
  case round =>
    obtain ⟨j, hgk, hj, rfl, HI⟩ := hrel
    have HGK := Lib.hid hgk
    clear hgk
    by_cases hlt : j < 5
    · have hlt' : (j : Int) < 5 := by omega
      have hcell := blk_num ((HI.out.2.block q (by omega)).trans HQ.out) hlt
      have hls := HLT.out j hlt
      have hno := HOA.out j hlt
      have hel := HEL.out j (by omega)
      obtain ⟨m, hm⟩ : ∃ m, m = x.list.getD j 0 := ⟨_, rfl⟩
      rw [← hm] at hcell hls hno
      obtain ⟨b, rfl, hb⟩ := numOk_nat hno
      have HLS : Hid (encUp x (j + 1) = encUp x j ++ vEnc b) := Lib.hid (by unfold encUp; rw [hls, List.flatMap_append]; simp)
      have HBB := Lib.hid hb
      have HELJ := Lib.hid hel
      have hw := wrapV (m := b) (by omega)
      clear hls hm hno hb hel
      obtain ⟨ad, cd, hde, hrd, _⟩ := HI.out.1.sl
      subst hde
      clear hrd
      go_wp2_with fail
      refine (refNum_any b (b : Int) wr rfl (by have := HBB.out; omega)).mono ?_
      rintro e u ⟨g2, m2, k2, rfl, hm2, ho2, hb2⟩
      have HN2 : Hid (m2 = (vEnc b).length ∧ Own u wr.heap.size (.slice (some ⟨g2, 0, none⟩) m2 k2) (vEnc b) ∧ Below wr.heap.size wr u) := Lib.hid ⟨hm2, ho2, hb2⟩
      have HLB : Hid ((vEnc b).length ≤ 10) := Lib.hid (vEnc_len10 (by have := HBB.out; omega))
      clear hm2 ho2 hb2
      go_wp2_with (at_builtin; refine wpList_append_rd rfl (.tmp 20) (.tmp 26) rfl _ rfl (some ⟨g2, 0, none⟩) m2 k2 rfl (q + 1) ([k] ++ encUp x j) (HI.out.1.kept HN2.out.2.2) (by have := HI.out.2.size; have := HN2.out.2.2.size; have := HB.out.2; omega) (vEnc b) (HN2.out.2.1.asSlice1 HN2.out.1.symm) (by have := HN2.out.1; have := HLB.out; have := HELJ.out; simp; omega) ?_; intro v3 x3 hv3 hx3; have HX3 : Hid (Own x3 (q + 1) v3 ([k] ++ encUp x (j + 1)) ∧ Below (q + 1) w1 x3) := Lib.hid ⟨by rw [HLS.out, ← List.append_assoc]; exact hv3, (HI.out.2.trans (HN2.out.2.2.mono (by have := HI.out.2.size; have := HB.out.2; omega))).trans hx3⟩; clear hv3 hx3)
      go_roundg (5 - (j + 1))
      case measure => have := HGK.out; omega
      case rel => exact ⟨j + 1, rfl, by omega, by go_num, HX3⟩
    · obtain rfl : j = 5 := by omega
      have ho := HI.out.1
      rw [HEN.out] at ho
      obtain ⟨P, hP⟩ : ∃ P, P = [k] ++ x.enc := ⟨_, rfl⟩
      have hPl : P.length ≤ 51 := by have := HEL.out 5 (by omega); rw [HEN.out] at this; rw [hP]; simp; omega
      have hPe : k :: x.enc = P := hP.symm
      rw [← hP] at ho
      have hsp := HS.out
      rw [hPe] at hsp
      obtain ⟨aP, cP, hvP, hrP, _⟩ := ho.sl
      subst hvP
      have HRP := Lib.hid hrP
      have HSP := Lib.hid hsp
      clear hP hPe ho hrP hsp
      go_wp2_with fail
      refine (refSeal_any aP _ cP P wr HRP.out (by omega)).mono ?_
      rintro e w3 ⟨v3, rfl, ho3, hb3⟩
      rw [← HSP.out] at ho3
      have HF : Hid (Own w3 q v3 S ∧ Below q w w3) := Lib.hid ⟨ho3.mono (by have := HI.out.2.size; have := HB.out.2; omega), by
        have h1 := HB.out.1
        rw [HW.out.2] at h1
        exact (h1.trans (HI.out.2.mono (by omega))).trans (hb3.mono (by have := HI.out.2.size; have := HB.out.2; omega))⟩
      clear ho3 hb3
      go_wp2
      go_ret
      exact ⟨_, rfl, HF.out.1, HF.out.2⟩

/-- The document's bytes of a block that may be. -/
theorem refBlB_any (x : Sg) (w : World) (hok : x.ok = true) (ht : ∀ z ∈ x.text, z < 256) :
    Calls Try.prog 20 #[docV (some x)] w fun e w' => ∃ v, e = .returned v ∧ Own w' w.heap.size v x.bytes ∧ Below w.heap.size w w' := by
  rcases x with ⟨a, b, c, d, e⟩ | ⟨a, b, c, d, z⟩ | ⟨l⟩
  · exact refBlB_nums 72 ⟨a, b, c, d, e⟩ w (by omega) (by omega) hok
  · exact refBlB_nums 84 ⟨a, b, c, d, bit z⟩ w (by omega) (by omega) hok
  · exact refBlB_data l w ht (by simp [Sg.ok] at hok; omega)

end Go.Proofs.Ytkfnjekeegebaaa
