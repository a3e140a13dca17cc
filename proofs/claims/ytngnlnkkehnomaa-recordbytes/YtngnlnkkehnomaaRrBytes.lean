/- A record's bytes: the document's own Text and Bytes, over any world. -/
import Derived.Test.YtngnlnkkehnomaaRcMath
import Derived.Test.YtngnlnkkehnomaaRcPlain
import Derived.Test.YtngnlnkkehnomaaRcBytes
import Derived.Test.YtngnlnkkehnomaaRefNum
import Derived.Test.YtngnlnkkehnomaaCheckRef
import Derived.Lib.AppendStr
import Derived.Deep.DeepCutAuto
import Derived.Deep.CutBlock
namespace Go.Proofs.Ytngnlnkkehnomaa
open Go.RowKit
set_option linter.unusedSimpArgs false

theorem strCells_strB {l : List Nat} (h : ∀ x ∈ l, x < 256) : Lib.strCells (strB l) = cB l := by
  unfold Lib.strCells strB cB
  rw [strOfNums_data]
  simp only [List.map_map]
  refine List.map_congr_left fun x hx => ?_
  have := h x hx
  simp only [Function.comp]
  congr 1
  simp
  omega

/-- Bytes of a string behind a row of the call's own. -/
theorem wpList_append_str {w : World} {ops : Array Oper} {rest : List Oper} {o : Oper} {a : Act} {Q : Exit → Act → World → Prop} (hgd : o.guard = none) (s x : Operand)
    (hop : o.op = .call { callee := .builtin .append, args := #[s, x], argTypes := #[25, 9] }) (v : Value) (hs : a.eval s = v) (l : List Nat) (hlb : ∀ x ∈ l, x < 256) (hx : a.eval x = .string (strB l))
    (base : Nat) (l0 : List Nat) (ho : Own w base v l0) (hbase : base ≤ w.heap.size) (hn : l0.length + l.length ≤ 3000000)
    (h : ∀ v' w', Own w' base v' (l0 ++ l) → Below base w w' → wpList Try.prog ops Q rest (a.put o.dst v') w') :
    wpList Try.prog ops Q (o :: rest) a w := by
  obtain ⟨i0, hi0, hz0, hz1, hz2⟩ := info_parts info5
  refine Lib.wpList_append_own_string w hgd s x 25 9 hop base 5 i0 Try.underlying25 Try.underlying9 hi0 hz0 hz1 hz2 v l0.length (cB l0) hs ho.2 (strB l) hx (by rw [strB_size]; unfold maxLen; omega) (by rw [strB_size]; omega) hbase ?_
  intro v' w' h1 h2 _
  rw [strB_size, strCells_strB hlb, ← cB_append, ← List.length_append] at h1
  refine h v' w' ⟨fun y hy => ?_, h1⟩ ((Below.refl base w).grown h2 hbase fun k hk => (World.ownsRow.lt ho.2 k hk).1)
  rcases List.mem_append.1 hy with hy | hy
  · exact ho.1 y hy
  · exact hlb y hy

set_option maxHeartbeats 1000000 in
theorem refText_any (a : Option Addr) (n c : Nat) (l : List Nat) (w : World) (h : Rd w a n l) (hn : n ≤ 1000000) :
    Calls Try.prog 25 #[.slice a n c] w fun e w' => ∃ v, e = .returned v ∧ Own w' w.heap.size v (tEnc l) ∧ Below w.heap.size w w' := by
  have HR := Lib.hid h
  have HN := Lib.hid (refNum_any n (n : Int) w rfl (by omega))
  have h10 : (vEnc n).length ≤ 10 := vEnc_len10 (by omega)
  have H10 := Lib.hid h10
  clear h h10
  go_enter Try.func25, Try.ntmps25
  go_wp2_with fail
  refine HN.out.mono ?_
  rintro e w2 ⟨g, m, c', rfl, hm, ho, hb⟩
  have HO := Lib.hid ho
  have HB := Lib.hid hb
  have HM := Lib.hid hm
  clear ho hb hm
  go_wp2_with (at_builtin; refine wpList_append_rd rfl (.tmp 6) (.tmp 7) rfl _ rfl a n c rfl w.heap.size _ HO.out HB.out.size l (HR.out.later HB.out) (by have := H10.out; omega) ?_; intro v' w' ho2 hb2)
  have HO2 := Lib.hid ho2
  have HB2 := Lib.hid (HB.out.trans hb2)
  clear ho2 hb2
  go_wp2
  go_ret
  refine ⟨_, rfl, ?_, HB2.out⟩
  have := HO2.out
  unfold tEnc
  rw [HR.out.1]
  exact this

set_option maxHeartbeats 4000000 in
set_option maxRecDepth 100000 in
theorem rbytes_head (i b : Nat) (w : World) (hi : i ≤ 1099511627776) (hb : b ≤ 1099511627776) (hok : Rec.ok ⟨1, i, b, 0, 0, [], 0, 0, 0⟩ = true) :
    Calls Try.prog 12 #[pcV ⟨1, i, b, 0, 0, [], 0, 0, 0⟩] w fun e w' => ∃ v, e = .returned v ∧ Hid (Own w' w.heap.size v (Rec.bytes ⟨1, i, b, 0, 0, [], 0, 0, 0⟩) ∧ Below w.heap.size w w') := by
  obtain ⟨q, hq⟩ : ∃ q, q = w.heap.size := ⟨_, rfl⟩
  obtain ⟨w1, hw1⟩ : ∃ w1, w1 = (w.alloc (.cells #[.int .u8 1, .int .i64 (i : Int), .int .i64 (b : Int), .int .i64 0, .int .i64 0, .string ⟨#[]⟩, .int .i64 0, .int .u64 0, .int .u64 0] 33)).alloc (.cells #[.int .u8 1] 5) := ⟨_, rfl⟩
  have HW : Hid ((w.alloc (.cells #[.int .u8 1, .int .i64 (i : Int), .int .i64 (b : Int), .int .i64 0, .int .i64 0, .string ⟨#[]⟩, .int .i64 0, .int .u64 0, .int .u64 0] 33)).alloc (.cells #[.int .u8 1] 5) = w1 ∧ w.heap.size = q) := Lib.hid ⟨hw1.symm, hq.symm⟩
  have hB1 : Below w.heap.size w w1 := by rw [hw1]; exact ((Below.refl _ _).alloc (Nat.le_refl _) _).alloc (by simp) _
  have hsz : w1.heap.size = q + 2 := by rw [hw1, hq]; simp
  have hblk : w1.heap[q]? = some (.cells #[.int .u8 1, .int .i64 (i : Int), .int .i64 (b : Int), .int .i64 0, .int .i64 0, .string ⟨#[]⟩, .int .i64 0, .int .u64 0, .int .u64 0] 33 (0, 0)) := by rw [hw1, hq]; exact (heap_alloc_old _ _ (by simp)).trans (heap_alloc_new w _)
  have hone : w1.heap[q + 1]? = some (.cells #[.int .u8 ((1 : Nat) : Int)] 5 (0, 0)) := by
    rw [hw1, hq]
    have e := heap_alloc_new (w.alloc (.cells #[.int .u8 1, .int .i64 (i : Int), .int .i64 (b : Int), .int .i64 0, .int .i64 0, .string ⟨#[]⟩, .int .i64 0, .int .u64 0, .int .u64 0] 33)) (.cells #[.int .u8 1] 5)
    rw [World.size_alloc] at e
    exact e
  have HK : Hid (∀ W, Below (q + 1) w1 W → W.heap[q]? = some (.cells #[.int .u8 1, .int .i64 (i : Int), .int .i64 (b : Int), .int .i64 0, .int .i64 0, .string ⟨#[]⟩, .int .i64 0, .int .u64 0, .int .u64 0] 33 (0, 0))) := Lib.hid fun W hW => (hW.block q (by omega)).trans hblk
  have HO0 : Hid (Own w1 (q + 1) (.slice (some ⟨q + 1, 0, none⟩) 1 1) [1]) := Lib.hid (own_one (by omega) hone)
  have HBW := Lib.hid hB1
  have H0 : Hid (Below (q + 1) w1 w1) := Lib.hid (Below.refl _ _)
  have HSZ := Lib.hid hsz
  have hui := wrap_u64 (m := i) (by omega)
  have hub := wrap_u64 (m := b) (by omega)
  have HOKK : Hid (Rec.ok ⟨1, i, b, 0, 0, [], 0, 0, 0⟩ = true) := Lib.hid hok
  clear hw1 hq hB1 hsz hblk hone
  simp only [pcV]
  go_enter Try.func12, Try.ntmps12
  go_upto_region 2 with fail
  change Code.wp _ _ _ _ ((w.alloc (.cells #[.int .u8 1, .int .i64 (i : Int), .int .i64 (b : Int), .int .i64 0, .int .i64 0, .string ⟨#[]⟩, .int .i64 0, .int .u64 0, .int .u64 0] 33)).alloc (.cells #[.int .u8 1] 5))
  rw [HW.out.1]
  try rw [HW.out.2]
  obtain ⟨c0, c1, c2, c3, c4, c5, c6, c7, c8⟩ := rec_cells (HK.out w1 H0.out)
  have hn1 := refNum_any i (i : Int) w1 rfl (by omega)
  have HN1 := Lib.hid hn1
  have l101 : (vEnc i).length ≤ 10 := vEnc_len10 (by omega)
  have HL1 := Lib.hid l101
  clear hn1 l101
  go_wp2_with fail
  refine HN1.out.mono ?_
  rintro e u1 ⟨g1, m1, k1, rfl, hm1, ho1, hb1⟩
  have HOa1 := Lib.hid ho1
  have HM1 := Lib.hid hm1
  have HBa1 : Hid (Below (q + 1) w1 u1) := Lib.hid (H0.out.trans (hb1.mono (by have := H0.out.size; have := HSZ.out; omega)))
  have HRow1 : Hid (Own u1 (q + 1) (.slice (some ⟨q + 1, 0, none⟩) 1 1) [1]) := Lib.hid (HO0.out.kept hb1)
  clear hm1 ho1 hb1 c0 c1 c2 c3 c4 c5 c6 c7 c8
  go_wp2_with (at_builtin; refine wpList_append_rd rfl (.tmp 11) (.tmp 15) rfl (.slice (some ⟨q + 1, 0, none⟩) 1 1) rfl (some ⟨g1, 0, none⟩) m1 k1 rfl (q + 1) _ HRow1.out (by have := HBa1.out.size; have := HSZ.out; omega) (vEnc i) (HOa1.out.asSlice1 HM1.out.symm) (by have := HM1.out; have := HL1.out;  simp; omega) ?_; intro v1 x1 hv1 hx1; have HB1 : Hid (Below (q + 1) w1 x1) := Lib.hid (HBa1.out.trans hx1); have HO1 := Lib.hid hv1; obtain ⟨c0, c1, c2, c3, c4, c5, c6, c7, c8⟩ := rec_cells (HK.out x1 HB1.out); clear hv1 hx1)
  have hn2 := refNum_any b (b : Int) x1 rfl (by omega)
  have HN2 := Lib.hid hn2
  have l102 : (vEnc b).length ≤ 10 := vEnc_len10 (by omega)
  have HL2 := Lib.hid l102
  clear hn2 l102
  go_wp2_with fail
  refine HN2.out.mono ?_
  rintro e u2 ⟨g2, m2, k2, rfl, hm2, ho2, hb2⟩
  have HOa2 := Lib.hid ho2
  have HM2 := Lib.hid hm2
  have HBa2 : Hid (Below (q + 1) w1 u2) := Lib.hid (HB1.out.trans (hb2.mono (by have := HB1.out.size; have := HSZ.out; omega)))
  have HRow2 : Hid (Own u2 (q + 1) v1 ([1] ++ vEnc i)) := Lib.hid (HO1.out.kept hb2)
  clear hm2 ho2 hb2 c0 c1 c2 c3 c4 c5 c6 c7 c8
  go_wp2_with (at_builtin; refine wpList_append_rd rfl (.tmp 17) (.tmp 21) rfl v1 rfl (some ⟨g2, 0, none⟩) m2 k2 rfl (q + 1) _ HRow2.out (by have := HBa2.out.size; have := HSZ.out; omega) (vEnc b) (HOa2.out.asSlice1 HM2.out.symm) (by have := HM2.out; have := HL2.out; have := HL1.out; simp; omega) ?_; intro v2 x2 hv2 hx2; have HB2 : Hid (Below (q + 1) w1 x2) := Lib.hid (HBa2.out.trans hx2); have HO2 := Lib.hid hv2; obtain ⟨c0, c1, c2, c3, c4, c5, c6, c7, c8⟩ := rec_cells (HK.out x2 HB2.out); clear hv2 hx2)
  have hpl : (([1] ++ vEnc i) ++ vEnc b) = Rec.plain ⟨1, i, b, 0, 0, [], 0, 0, 0⟩ := by simp [Rec.plain]
  have HPL : Hid (1 ≤ (Rec.plain ⟨1, i, b, 0, 0, [], 0, 0, 0⟩).length ∧ (Rec.plain ⟨1, i, b, 0, 0, [], 0, 0, 0⟩).length ≤ 139) := Lib.hid (Rec.plain_len HOKK.out)
  obtain ⟨P, hP⟩ : ∃ P, P = Rec.plain ⟨1, i, b, 0, 0, [], 0, 0, 0⟩ := ⟨_, rfl⟩
  have hby : Rec.bytes ⟨1, i, b, 0, 0, [], 0, 0, 0⟩ = tEnc (P ++ sumB (cSum P)) := by rw [hP]; rfl
  have HBYE := Lib.hid hby
  have hOP : Own x2 (q + 1) v2 P := by rw [hP, ← hpl]; exact HO2.out
  rw [← hP] at HPL
  obtain ⟨aP, cP, hvP, hrP, _⟩ := hOP.sl
  have HRP := Lib.hid hrP
  clear hpl hP hby hOP hrP
  have hSe := refSeal_any aP P.length cP P x2 HRP.out (by have := HPL.out; omega)
  have HSE := Lib.hid hSe
  clear hSe
  subst hvP
  go_wp2_with fail
  refine HSE.out.mono ?_
  rintro e y1 ⟨vS, rfl, hoS, hbS⟩
  obtain ⟨aS, cS, rfl, hrS, _⟩ := hoS.sl
  have HRS := Lib.hid hrS
  have HBS : Hid (Below (q + 1) w1 y1) := Lib.hid (HB2.out.trans (hbS.mono (by have := HB2.out.size; have := HSZ.out; omega)))
  have hlS : (P ++ sumB (cSum P)).length ≤ 143 := by have := HPL.out; simp [sumB]; omega
  obtain ⟨Z, hZ⟩ : ∃ Z, Z = P ++ sumB (cSum P) := ⟨_, rfl⟩
  rw [← hZ] at HRS hlS HBYE ⊢
  have HTX := Lib.hid (refText_any aS Z.length cS Z y1 HRS.out (by omega))
  clear hoS hrS hbS hZ hlS HSE
  go_wp2_with fail
  refine HTX.out.mono ?_
  rintro e y2 ⟨vT, rfl, hoT, hbT⟩
  have HFI : Hid (Own y2 w.heap.size vT (Rec.bytes ⟨1, i, b, 0, 0, [], 0, 0, 0⟩) ∧ Below w.heap.size w y2) := Lib.hid (by
    have h1 := HBS.out.size
    have h2 := HSZ.out
    have h3 := HW.out.2
    rw [HBYE.out]
    exact ⟨hoT.mono (by omega), HBW.out.trans ((HBS.out.mono (by omega)).trans (hbT.mono (by omega)))⟩)
  clear hoT hbT
  go_wp2
  go_ret
  exact ⟨_, rfl, HFI.out⟩

set_option maxHeartbeats 4000000 in
set_option maxRecDepth 100000 in
theorem rbytes_hole (f t : Nat) (w : World) (hi : f ≤ 256) (hb : t ≤ 256) (hok : Rec.ok ⟨3, 0, 0, f, t, [], 0, 0, 0⟩ = true) :
    Calls Try.prog 12 #[pcV ⟨3, 0, 0, f, t, [], 0, 0, 0⟩] w fun e w' => ∃ v, e = .returned v ∧ Hid (Own w' w.heap.size v (Rec.bytes ⟨3, 0, 0, f, t, [], 0, 0, 0⟩) ∧ Below w.heap.size w w') := by
  obtain ⟨q, hq⟩ : ∃ q, q = w.heap.size := ⟨_, rfl⟩
  obtain ⟨w1, hw1⟩ : ∃ w1, w1 = (w.alloc (.cells #[.int .u8 3, .int .i64 0, .int .i64 0, .int .i64 (f : Int), .int .i64 (t : Int), .string ⟨#[]⟩, .int .i64 0, .int .u64 0, .int .u64 0] 33)).alloc (.cells #[.int .u8 3] 5) := ⟨_, rfl⟩
  have HW : Hid ((w.alloc (.cells #[.int .u8 3, .int .i64 0, .int .i64 0, .int .i64 (f : Int), .int .i64 (t : Int), .string ⟨#[]⟩, .int .i64 0, .int .u64 0, .int .u64 0] 33)).alloc (.cells #[.int .u8 3] 5) = w1 ∧ w.heap.size = q) := Lib.hid ⟨hw1.symm, hq.symm⟩
  have hB1 : Below w.heap.size w w1 := by rw [hw1]; exact ((Below.refl _ _).alloc (Nat.le_refl _) _).alloc (by simp) _
  have hsz : w1.heap.size = q + 2 := by rw [hw1, hq]; simp
  have hblk : w1.heap[q]? = some (.cells #[.int .u8 3, .int .i64 0, .int .i64 0, .int .i64 (f : Int), .int .i64 (t : Int), .string ⟨#[]⟩, .int .i64 0, .int .u64 0, .int .u64 0] 33 (0, 0)) := by rw [hw1, hq]; exact (heap_alloc_old _ _ (by simp)).trans (heap_alloc_new w _)
  have hone : w1.heap[q + 1]? = some (.cells #[.int .u8 ((3 : Nat) : Int)] 5 (0, 0)) := by
    rw [hw1, hq]
    have e := heap_alloc_new (w.alloc (.cells #[.int .u8 3, .int .i64 0, .int .i64 0, .int .i64 (f : Int), .int .i64 (t : Int), .string ⟨#[]⟩, .int .i64 0, .int .u64 0, .int .u64 0] 33)) (.cells #[.int .u8 3] 5)
    rw [World.size_alloc] at e
    exact e
  have HK : Hid (∀ W, Below (q + 1) w1 W → W.heap[q]? = some (.cells #[.int .u8 3, .int .i64 0, .int .i64 0, .int .i64 (f : Int), .int .i64 (t : Int), .string ⟨#[]⟩, .int .i64 0, .int .u64 0, .int .u64 0] 33 (0, 0))) := Lib.hid fun W hW => (hW.block q (by omega)).trans hblk
  have HO0 : Hid (Own w1 (q + 1) (.slice (some ⟨q + 1, 0, none⟩) 1 1) [3]) := Lib.hid (own_one (by omega) hone)
  have HBW := Lib.hid hB1
  have H0 : Hid (Below (q + 1) w1 w1) := Lib.hid (Below.refl _ _)
  have HSZ := Lib.hid hsz
  have huf := wrap_u64 (m := f) (by omega)
  have hut := wrap_u64 (m := t) (by omega)
  have HOKK : Hid (Rec.ok ⟨3, 0, 0, f, t, [], 0, 0, 0⟩ = true) := Lib.hid hok
  clear hw1 hq hB1 hsz hblk hone
  simp only [pcV]
  go_enter Try.func12, Try.ntmps12
  go_upto_region 2 with fail
  change Code.wp _ _ _ _ ((w.alloc (.cells #[.int .u8 3, .int .i64 0, .int .i64 0, .int .i64 (f : Int), .int .i64 (t : Int), .string ⟨#[]⟩, .int .i64 0, .int .u64 0, .int .u64 0] 33)).alloc (.cells #[.int .u8 3] 5))
  rw [HW.out.1]
  try rw [HW.out.2]
  obtain ⟨c0, c1, c2, c3, c4, c5, c6, c7, c8⟩ := rec_cells (HK.out w1 H0.out)
  have hn1 := refNum_any f (f : Int) w1 rfl (by omega)
  have HN1 := Lib.hid hn1
  have l101 : (vEnc f).length ≤ 10 := vEnc_len10 (by omega)
  have HL1 := Lib.hid l101
  clear hn1 l101
  go_wp2_with fail
  refine HN1.out.mono ?_
  rintro e u1 ⟨g1, m1, k1, rfl, hm1, ho1, hb1⟩
  have HOa1 := Lib.hid ho1
  have HM1 := Lib.hid hm1
  have HBa1 : Hid (Below (q + 1) w1 u1) := Lib.hid (H0.out.trans (hb1.mono (by have := H0.out.size; have := HSZ.out; omega)))
  have HRow1 : Hid (Own u1 (q + 1) (.slice (some ⟨q + 1, 0, none⟩) 1 1) [3]) := Lib.hid (HO0.out.kept hb1)
  clear hm1 ho1 hb1 c0 c1 c2 c3 c4 c5 c6 c7 c8
  go_wp2_with (at_builtin; refine wpList_append_rd rfl (.tmp 37) (.tmp 41) rfl (.slice (some ⟨q + 1, 0, none⟩) 1 1) rfl (some ⟨g1, 0, none⟩) m1 k1 rfl (q + 1) _ HRow1.out (by have := HBa1.out.size; have := HSZ.out; omega) (vEnc f) (HOa1.out.asSlice1 HM1.out.symm) (by have := HM1.out; have := HL1.out;  simp; omega) ?_; intro v1 x1 hv1 hx1; have HB1 : Hid (Below (q + 1) w1 x1) := Lib.hid (HBa1.out.trans hx1); have HO1 := Lib.hid hv1; obtain ⟨c0, c1, c2, c3, c4, c5, c6, c7, c8⟩ := rec_cells (HK.out x1 HB1.out); clear hv1 hx1)
  have hn2 := refNum_any t (t : Int) x1 rfl (by omega)
  have HN2 := Lib.hid hn2
  have l102 : (vEnc t).length ≤ 10 := vEnc_len10 (by omega)
  have HL2 := Lib.hid l102
  clear hn2 l102
  go_wp2_with fail
  refine HN2.out.mono ?_
  rintro e u2 ⟨g2, m2, k2, rfl, hm2, ho2, hb2⟩
  have HOa2 := Lib.hid ho2
  have HM2 := Lib.hid hm2
  have HBa2 : Hid (Below (q + 1) w1 u2) := Lib.hid (HB1.out.trans (hb2.mono (by have := HB1.out.size; have := HSZ.out; omega)))
  have HRow2 : Hid (Own u2 (q + 1) v1 ([3] ++ vEnc f)) := Lib.hid (HO1.out.kept hb2)
  clear hm2 ho2 hb2 c0 c1 c2 c3 c4 c5 c6 c7 c8
  go_wp2_with (at_builtin; refine wpList_append_rd rfl (.tmp 43) (.tmp 47) rfl v1 rfl (some ⟨g2, 0, none⟩) m2 k2 rfl (q + 1) _ HRow2.out (by have := HBa2.out.size; have := HSZ.out; omega) (vEnc t) (HOa2.out.asSlice1 HM2.out.symm) (by have := HM2.out; have := HL2.out; have := HL1.out; simp; omega) ?_; intro v2 x2 hv2 hx2; have HB2 : Hid (Below (q + 1) w1 x2) := Lib.hid (HBa2.out.trans hx2); have HO2 := Lib.hid hv2; obtain ⟨c0, c1, c2, c3, c4, c5, c6, c7, c8⟩ := rec_cells (HK.out x2 HB2.out); clear hv2 hx2)
  have hpl : (([3] ++ vEnc f) ++ vEnc t) = Rec.plain ⟨3, 0, 0, f, t, [], 0, 0, 0⟩ := by simp [Rec.plain]
  have HPL : Hid (1 ≤ (Rec.plain ⟨3, 0, 0, f, t, [], 0, 0, 0⟩).length ∧ (Rec.plain ⟨3, 0, 0, f, t, [], 0, 0, 0⟩).length ≤ 139) := Lib.hid (Rec.plain_len HOKK.out)
  obtain ⟨P, hP⟩ : ∃ P, P = Rec.plain ⟨3, 0, 0, f, t, [], 0, 0, 0⟩ := ⟨_, rfl⟩
  have hby : Rec.bytes ⟨3, 0, 0, f, t, [], 0, 0, 0⟩ = tEnc (P ++ sumB (cSum P)) := by rw [hP]; rfl
  have HBYE := Lib.hid hby
  have hOP : Own x2 (q + 1) v2 P := by rw [hP, ← hpl]; exact HO2.out
  rw [← hP] at HPL
  obtain ⟨aP, cP, hvP, hrP, _⟩ := hOP.sl
  have HRP := Lib.hid hrP
  clear hpl hP hby hOP hrP
  have hSe := refSeal_any aP P.length cP P x2 HRP.out (by have := HPL.out; omega)
  have HSE := Lib.hid hSe
  clear hSe
  subst hvP
  go_wp2_with fail
  refine HSE.out.mono ?_
  rintro e y1 ⟨vS, rfl, hoS, hbS⟩
  obtain ⟨aS, cS, rfl, hrS, _⟩ := hoS.sl
  have HRS := Lib.hid hrS
  have HBS : Hid (Below (q + 1) w1 y1) := Lib.hid (HB2.out.trans (hbS.mono (by have := HB2.out.size; have := HSZ.out; omega)))
  have hlS : (P ++ sumB (cSum P)).length ≤ 143 := by have := HPL.out; simp [sumB]; omega
  obtain ⟨Z, hZ⟩ : ∃ Z, Z = P ++ sumB (cSum P) := ⟨_, rfl⟩
  rw [← hZ] at HRS hlS HBYE ⊢
  have HTX := Lib.hid (refText_any aS Z.length cS Z y1 HRS.out (by omega))
  clear hoS hrS hbS hZ hlS HSE
  go_wp2_with fail
  refine HTX.out.mono ?_
  rintro e y2 ⟨vT, rfl, hoT, hbT⟩
  have HFI : Hid (Own y2 w.heap.size vT (Rec.bytes ⟨3, 0, 0, f, t, [], 0, 0, 0⟩) ∧ Below w.heap.size w y2) := Lib.hid (by
    have h1 := HBS.out.size
    have h2 := HSZ.out
    have h3 := HW.out.2
    rw [HBYE.out]
    exact ⟨hoT.mono (by omega), HBW.out.trans ((HBS.out.mono (by omega)).trans (hbT.mono (by omega)))⟩)
  clear hoT hbT
  go_wp2
  go_ret
  exact ⟨_, rfl, HFI.out⟩

set_option maxHeartbeats 4000000 in
set_option maxRecDepth 100000 in
theorem rbytes_tail (c dn ds : Nat) (w : World) (hc : c ≤ 1099511627776) (hn : dn ≤ 1099511627776) (hs : ds < 2305843009213693951) (hok : Rec.ok ⟨4, 0, 0, 0, 0, [], c, dn, ds⟩ = true) :
    Calls Try.prog 12 #[pcV ⟨4, 0, 0, 0, 0, [], c, dn, ds⟩] w fun e w' => ∃ v, e = .returned v ∧ Hid (Own w' w.heap.size v (Rec.bytes ⟨4, 0, 0, 0, 0, [], c, dn, ds⟩) ∧ Below w.heap.size w w') := by
  obtain ⟨q, hq⟩ : ∃ q, q = w.heap.size := ⟨_, rfl⟩
  obtain ⟨w1, hw1⟩ : ∃ w1, w1 = (w.alloc (.cells #[.int .u8 4, .int .i64 0, .int .i64 0, .int .i64 0, .int .i64 0, .string ⟨#[]⟩, .int .i64 (c : Int), .int .u64 (dn : Int), .int .u64 (ds : Int)] 33)).alloc (.cells #[.int .u8 4] 5) := ⟨_, rfl⟩
  have HW : Hid ((w.alloc (.cells #[.int .u8 4, .int .i64 0, .int .i64 0, .int .i64 0, .int .i64 0, .string ⟨#[]⟩, .int .i64 (c : Int), .int .u64 (dn : Int), .int .u64 (ds : Int)] 33)).alloc (.cells #[.int .u8 4] 5) = w1 ∧ w.heap.size = q) := Lib.hid ⟨hw1.symm, hq.symm⟩
  have hB1 : Below w.heap.size w w1 := by rw [hw1]; exact ((Below.refl _ _).alloc (Nat.le_refl _) _).alloc (by simp) _
  have hsz : w1.heap.size = q + 2 := by rw [hw1, hq]; simp
  have hblk : w1.heap[q]? = some (.cells #[.int .u8 4, .int .i64 0, .int .i64 0, .int .i64 0, .int .i64 0, .string ⟨#[]⟩, .int .i64 (c : Int), .int .u64 (dn : Int), .int .u64 (ds : Int)] 33 (0, 0)) := by rw [hw1, hq]; exact (heap_alloc_old _ _ (by simp)).trans (heap_alloc_new w _)
  have hone : w1.heap[q + 1]? = some (.cells #[.int .u8 ((4 : Nat) : Int)] 5 (0, 0)) := by
    rw [hw1, hq]
    have e := heap_alloc_new (w.alloc (.cells #[.int .u8 4, .int .i64 0, .int .i64 0, .int .i64 0, .int .i64 0, .string ⟨#[]⟩, .int .i64 (c : Int), .int .u64 (dn : Int), .int .u64 (ds : Int)] 33)) (.cells #[.int .u8 4] 5)
    rw [World.size_alloc] at e
    exact e
  have HK : Hid (∀ W, Below (q + 1) w1 W → W.heap[q]? = some (.cells #[.int .u8 4, .int .i64 0, .int .i64 0, .int .i64 0, .int .i64 0, .string ⟨#[]⟩, .int .i64 (c : Int), .int .u64 (dn : Int), .int .u64 (ds : Int)] 33 (0, 0))) := Lib.hid fun W hW => (hW.block q (by omega)).trans hblk
  have HO0 : Hid (Own w1 (q + 1) (.slice (some ⟨q + 1, 0, none⟩) 1 1) [4]) := Lib.hid (own_one (by omega) hone)
  have HBW := Lib.hid hB1
  have H0 : Hid (Below (q + 1) w1 w1) := Lib.hid (Below.refl _ _)
  have HSZ := Lib.hid hsz
  have huc := wrap_u64 (m := c) (by omega)
  have HOKK : Hid (Rec.ok ⟨4, 0, 0, 0, 0, [], c, dn, ds⟩ = true) := Lib.hid hok
  clear hw1 hq hB1 hsz hblk hone
  simp only [pcV]
  go_enter Try.func12, Try.ntmps12
  go_upto_region 2 with fail
  change Code.wp _ _ _ _ ((w.alloc (.cells #[.int .u8 4, .int .i64 0, .int .i64 0, .int .i64 0, .int .i64 0, .string ⟨#[]⟩, .int .i64 (c : Int), .int .u64 (dn : Int), .int .u64 (ds : Int)] 33)).alloc (.cells #[.int .u8 4] 5))
  rw [HW.out.1]
  try rw [HW.out.2]
  obtain ⟨c0, c1, c2, c3, c4, c5, c6, c7, c8⟩ := rec_cells (HK.out w1 H0.out)
  have hn1 := refNum_any c (c : Int) w1 rfl (by omega)
  have HN1 := Lib.hid hn1
  have l101 : (vEnc c).length ≤ 10 := vEnc_len10 (by omega)
  have HL1 := Lib.hid l101
  clear hn1 l101
  go_wp2_with fail
  refine HN1.out.mono ?_
  rintro e u1 ⟨g1, m1, k1, rfl, hm1, ho1, hb1⟩
  have HOa1 := Lib.hid ho1
  have HM1 := Lib.hid hm1
  have HBa1 : Hid (Below (q + 1) w1 u1) := Lib.hid (H0.out.trans (hb1.mono (by have := H0.out.size; have := HSZ.out; omega)))
  have HRow1 : Hid (Own u1 (q + 1) (.slice (some ⟨q + 1, 0, none⟩) 1 1) [4]) := Lib.hid (HO0.out.kept hb1)
  clear hm1 ho1 hb1 c0 c1 c2 c3 c4 c5 c6 c7 c8
  go_wp2_with (at_builtin; refine wpList_append_rd rfl (.tmp 51) (.tmp 55) rfl (.slice (some ⟨q + 1, 0, none⟩) 1 1) rfl (some ⟨g1, 0, none⟩) m1 k1 rfl (q + 1) _ HRow1.out (by have := HBa1.out.size; have := HSZ.out; omega) (vEnc c) (HOa1.out.asSlice1 HM1.out.symm) (by have := HM1.out; have := HL1.out;  simp; omega) ?_; intro v1 x1 hv1 hx1; have HB1 : Hid (Below (q + 1) w1 x1) := Lib.hid (HBa1.out.trans hx1); have HO1 := Lib.hid hv1; obtain ⟨c0, c1, c2, c3, c4, c5, c6, c7, c8⟩ := rec_cells (HK.out x1 HB1.out); clear hv1 hx1)
  have hn2 := refNum_any dn (dn : Int) x1 rfl (by omega)
  have HN2 := Lib.hid hn2
  have l102 : (vEnc dn).length ≤ 10 := vEnc_len10 (by omega)
  have HL2 := Lib.hid l102
  clear hn2 l102
  go_wp2_with fail
  refine HN2.out.mono ?_
  rintro e u2 ⟨g2, m2, k2, rfl, hm2, ho2, hb2⟩
  have HOa2 := Lib.hid ho2
  have HM2 := Lib.hid hm2
  have HBa2 : Hid (Below (q + 1) w1 u2) := Lib.hid (HB1.out.trans (hb2.mono (by have := HB1.out.size; have := HSZ.out; omega)))
  have HRow2 : Hid (Own u2 (q + 1) v1 ([4] ++ vEnc c)) := Lib.hid (HO1.out.kept hb2)
  clear hm2 ho2 hb2 c0 c1 c2 c3 c4 c5 c6 c7 c8
  go_wp2_with (at_builtin; refine wpList_append_rd rfl (.tmp 57) (.tmp 60) rfl v1 rfl (some ⟨g2, 0, none⟩) m2 k2 rfl (q + 1) _ HRow2.out (by have := HBa2.out.size; have := HSZ.out; omega) (vEnc dn) (HOa2.out.asSlice1 HM2.out.symm) (by have := HM2.out; have := HL2.out; have := HL1.out; simp; omega) ?_; intro v2 x2 hv2 hx2; have HB2 : Hid (Below (q + 1) w1 x2) := Lib.hid (HBa2.out.trans hx2); have HO2 := Lib.hid hv2; obtain ⟨c0, c1, c2, c3, c4, c5, c6, c7, c8⟩ := rec_cells (HK.out x2 HB2.out); clear hv2 hx2)
  have hn3 := refNum_any ds (ds : Int) x2 rfl (by omega)
  have HN3 := Lib.hid hn3
  have l103 : (vEnc ds).length ≤ 10 := vEnc_len10 (by omega)
  have HL3 := Lib.hid l103
  clear hn3 l103
  go_wp2_with fail
  refine HN3.out.mono ?_
  rintro e u3 ⟨g3, m3, k3, rfl, hm3, ho3, hb3⟩
  have HOa3 := Lib.hid ho3
  have HM3 := Lib.hid hm3
  have HBa3 : Hid (Below (q + 1) w1 u3) := Lib.hid (HB2.out.trans (hb3.mono (by have := HB2.out.size; have := HSZ.out; omega)))
  have HRow3 : Hid (Own u3 (q + 1) v2 (([4] ++ vEnc c) ++ vEnc dn)) := Lib.hid (HO2.out.kept hb3)
  clear hm3 ho3 hb3 c0 c1 c2 c3 c4 c5 c6 c7 c8
  go_wp2_with (at_builtin; refine wpList_append_rd rfl (.tmp 62) (.tmp 65) rfl v2 rfl (some ⟨g3, 0, none⟩) m3 k3 rfl (q + 1) _ HRow3.out (by have := HBa3.out.size; have := HSZ.out; omega) (vEnc ds) (HOa3.out.asSlice1 HM3.out.symm) (by have := HM3.out; have := HL3.out; have := HL1.out; have := HL2.out; simp; omega) ?_; intro v3 x3 hv3 hx3; have HB3 : Hid (Below (q + 1) w1 x3) := Lib.hid (HBa3.out.trans hx3); have HO3 := Lib.hid hv3; obtain ⟨c0, c1, c2, c3, c4, c5, c6, c7, c8⟩ := rec_cells (HK.out x3 HB3.out); clear hv3 hx3)
  have hpl : ((([4] ++ vEnc c) ++ vEnc dn) ++ vEnc ds) = Rec.plain ⟨4, 0, 0, 0, 0, [], c, dn, ds⟩ := by simp [Rec.plain]
  have HPL : Hid (1 ≤ (Rec.plain ⟨4, 0, 0, 0, 0, [], c, dn, ds⟩).length ∧ (Rec.plain ⟨4, 0, 0, 0, 0, [], c, dn, ds⟩).length ≤ 139) := Lib.hid (Rec.plain_len HOKK.out)
  obtain ⟨P, hP⟩ : ∃ P, P = Rec.plain ⟨4, 0, 0, 0, 0, [], c, dn, ds⟩ := ⟨_, rfl⟩
  have hby : Rec.bytes ⟨4, 0, 0, 0, 0, [], c, dn, ds⟩ = tEnc (P ++ sumB (cSum P)) := by rw [hP]; rfl
  have HBYE := Lib.hid hby
  have hOP : Own x3 (q + 1) v3 P := by rw [hP, ← hpl]; exact HO3.out
  rw [← hP] at HPL
  obtain ⟨aP, cP, hvP, hrP, _⟩ := hOP.sl
  have HRP := Lib.hid hrP
  clear hpl hP hby hOP hrP
  have hSe := refSeal_any aP P.length cP P x3 HRP.out (by have := HPL.out; omega)
  have HSE := Lib.hid hSe
  clear hSe
  subst hvP
  go_wp2_with fail
  refine HSE.out.mono ?_
  rintro e y1 ⟨vS, rfl, hoS, hbS⟩
  obtain ⟨aS, cS, rfl, hrS, _⟩ := hoS.sl
  have HRS := Lib.hid hrS
  have HBS : Hid (Below (q + 1) w1 y1) := Lib.hid (HB3.out.trans (hbS.mono (by have := HB3.out.size; have := HSZ.out; omega)))
  have hlS : (P ++ sumB (cSum P)).length ≤ 143 := by have := HPL.out; simp [sumB]; omega
  obtain ⟨Z, hZ⟩ : ∃ Z, Z = P ++ sumB (cSum P) := ⟨_, rfl⟩
  rw [← hZ] at HRS hlS HBYE ⊢
  have HTX := Lib.hid (refText_any aS Z.length cS Z y1 HRS.out (by omega))
  clear hoS hrS hbS hZ hlS HSE
  go_wp2_with fail
  refine HTX.out.mono ?_
  rintro e y2 ⟨vT, rfl, hoT, hbT⟩
  have HFI : Hid (Own y2 w.heap.size vT (Rec.bytes ⟨4, 0, 0, 0, 0, [], c, dn, ds⟩) ∧ Below w.heap.size w y2) := Lib.hid (by
    have h1 := HBS.out.size
    have h2 := HSZ.out
    have h3 := HW.out.2
    rw [HBYE.out]
    exact ⟨hoT.mono (by omega), HBW.out.trans ((HBS.out.mono (by omega)).trans (hbT.mono (by omega)))⟩)
  clear hoT hbT
  go_wp2
  go_ret
  exact ⟨_, rfl, HFI.out⟩

set_option maxHeartbeats 4000000 in
set_option maxRecDepth 100000 in
theorem rbytes_data (f t : Nat) (l : List Nat) (w : World) (hf : f ≤ 256) (hl : l.length ≤ 1000) (hby : ∀ z ∈ l, z < 256) (hok : Rec.ok ⟨2, 0, 0, f, t, l, 0, 0, 0⟩ = true) :
    Calls Try.prog 12 #[pcV ⟨2, 0, 0, f, t, l, 0, 0, 0⟩] w fun e w' => ∃ v, e = .returned v ∧ Hid (Own w' w.heap.size v (Rec.bytes ⟨2, 0, 0, f, t, l, 0, 0, 0⟩) ∧ Below w.heap.size w w') := by
  obtain ⟨q, hq⟩ : ∃ q, q = w.heap.size := ⟨_, rfl⟩
  obtain ⟨w1, hw1⟩ : ∃ w1, w1 = (w.alloc (.cells #[.int .u8 2, .int .i64 0, .int .i64 0, .int .i64 (f : Int), .int .i64 (t : Int), .string (strB l), .int .i64 0, .int .u64 0, .int .u64 0] 33)).alloc (.cells #[.int .u8 2] 5) := ⟨_, rfl⟩
  have HW : Hid ((w.alloc (.cells #[.int .u8 2, .int .i64 0, .int .i64 0, .int .i64 (f : Int), .int .i64 (t : Int), .string (strB l), .int .i64 0, .int .u64 0, .int .u64 0] 33)).alloc (.cells #[.int .u8 2] 5) = w1 ∧ w.heap.size = q) := Lib.hid ⟨hw1.symm, hq.symm⟩
  have hB1 : Below w.heap.size w w1 := by rw [hw1]; exact ((Below.refl _ _).alloc (Nat.le_refl _) _).alloc (by simp) _
  have hsz : w1.heap.size = q + 2 := by rw [hw1, hq]; simp
  have hblk : w1.heap[q]? = some (.cells #[.int .u8 2, .int .i64 0, .int .i64 0, .int .i64 (f : Int), .int .i64 (t : Int), .string (strB l), .int .i64 0, .int .u64 0, .int .u64 0] 33 (0, 0)) := by rw [hw1, hq]; exact (heap_alloc_old _ _ (by simp)).trans (heap_alloc_new w _)
  have hone : w1.heap[q + 1]? = some (.cells #[.int .u8 ((2 : Nat) : Int)] 5 (0, 0)) := by
    rw [hw1, hq]
    have e := heap_alloc_new (w.alloc (.cells #[.int .u8 2, .int .i64 0, .int .i64 0, .int .i64 (f : Int), .int .i64 (t : Int), .string (strB l), .int .i64 0, .int .u64 0, .int .u64 0] 33)) (.cells #[.int .u8 2] 5)
    rw [World.size_alloc] at e
    exact e
  have HK : Hid (∀ W, Below (q + 1) w1 W → W.heap[q]? = some (.cells #[.int .u8 2, .int .i64 0, .int .i64 0, .int .i64 (f : Int), .int .i64 (t : Int), .string (strB l), .int .i64 0, .int .u64 0, .int .u64 0] 33 (0, 0))) := Lib.hid fun W hW => (hW.block q (by omega)).trans hblk
  have HO0 : Hid (Own w1 (q + 1) (.slice (some ⟨q + 1, 0, none⟩) 1 1) [2]) := Lib.hid (own_one (by omega) hone)
  have HBW := Lib.hid hB1
  have H0 : Hid (Below (q + 1) w1 w1) := Lib.hid (Below.refl _ _)
  have HSZ := Lib.hid hsz
  have huf := wrap_u64 (m := f) (by omega)
  have HOKK : Hid (Rec.ok ⟨2, 0, 0, f, t, l, 0, 0, 0⟩ = true) := Lib.hid hok
  have HLB := Lib.hid hl
  have HBY := Lib.hid hby
  clear hby hl
  clear hw1 hq hB1 hsz hblk hone
  simp only [pcV]
  go_enter Try.func12, Try.ntmps12
  go_upto_region 2 with fail
  change Code.wp _ _ _ _ ((w.alloc (.cells #[.int .u8 2, .int .i64 0, .int .i64 0, .int .i64 (f : Int), .int .i64 (t : Int), .string (strB l), .int .i64 0, .int .u64 0, .int .u64 0] 33)).alloc (.cells #[.int .u8 2] 5))
  rw [HW.out.1]
  try rw [HW.out.2]
  obtain ⟨c0, c1, c2, c3, c4, c5, c6, c7, c8⟩ := rec_cells (HK.out w1 H0.out)
  have hn1 := refNum_any f (f : Int) w1 rfl (by omega)
  have HN1 := Lib.hid hn1
  have l101 : (vEnc f).length ≤ 10 := vEnc_len10 (by omega)
  have HL1 := Lib.hid l101
  clear hn1 l101
  go_wp2_with fail
  refine HN1.out.mono ?_
  rintro e u1 ⟨g1, m1, k1, rfl, hm1, ho1, hb1⟩
  have HOa1 := Lib.hid ho1
  have HM1 := Lib.hid hm1
  have HBa1 : Hid (Below (q + 1) w1 u1) := Lib.hid (H0.out.trans (hb1.mono (by have := H0.out.size; have := HSZ.out; omega)))
  have HRow1 : Hid (Own u1 (q + 1) (.slice (some ⟨q + 1, 0, none⟩) 1 1) [2]) := Lib.hid (HO0.out.kept hb1)
  clear hm1 ho1 hb1 c0 c1 c2 c3 c4 c5 c6 c7 c8
  go_wp2_with (at_builtin; first | (refine wpList_append_rd rfl (.tmp 25) (.tmp 29) rfl (.slice (some ⟨q + 1, 0, none⟩) 1 1) rfl (some ⟨g1, 0, none⟩) m1 k1 rfl (q + 1) _ HRow1.out (by have := HBa1.out.size; have := HSZ.out; omega) (vEnc f) (HOa1.out.asSlice1 HM1.out.symm) (by have := HM1.out; have := HL1.out;  simp; omega) ?_; intro v1 x1 hv1 hx1; have HB1 : Hid (Below (q + 1) w1 x1) := Lib.hid (HBa1.out.trans hx1); have HO1 := Lib.hid hv1; obtain ⟨c0, c1, c2, c3, c4, c5, c6, c7, c8⟩ := rec_cells (HK.out x1 HB1.out); clear hv1 hx1) | (refine wpList_append_str rfl (.tmp 31) (.tmp 33) rfl v1 rfl l HBY.out rfl (q + 1) _ HO1.out (by have := HB1.out.size; have := HSZ.out; omega) (by have := HL1.out; have := HLB.out; simp; omega) ?_; intro v9 x9 hv9 hx9; have HB9 : Hid (Below (q + 1) w1 x9) := Lib.hid (HB1.out.trans hx9); have HO9 := Lib.hid hv9; clear hv9 hx9))
  clear c0 c1 c2 c3 c4 c5 c6 c7 c8
  have hpl : (([2] ++ vEnc f) ++ l) = Rec.plain ⟨2, 0, 0, f, t, l, 0, 0, 0⟩ := by simp [Rec.plain]
  have HPL : Hid (1 ≤ (Rec.plain ⟨2, 0, 0, f, t, l, 0, 0, 0⟩).length ∧ (Rec.plain ⟨2, 0, 0, f, t, l, 0, 0, 0⟩).length ≤ 139) := Lib.hid (Rec.plain_len HOKK.out)
  obtain ⟨P, hP⟩ : ∃ P, P = Rec.plain ⟨2, 0, 0, f, t, l, 0, 0, 0⟩ := ⟨_, rfl⟩
  have hby : Rec.bytes ⟨2, 0, 0, f, t, l, 0, 0, 0⟩ = tEnc (P ++ sumB (cSum P)) := by rw [hP]; rfl
  have HBYE := Lib.hid hby
  have hOP : Own x9 (q + 1) v9 P := by rw [hP, ← hpl]; exact HO9.out
  rw [← hP] at HPL
  obtain ⟨aP, cP, hvP, hrP, _⟩ := hOP.sl
  have HRP := Lib.hid hrP
  clear hpl hP hby hOP hrP
  have hSe := refSeal_any aP P.length cP P x9 HRP.out (by have := HPL.out; omega)
  have HSE := Lib.hid hSe
  clear hSe
  subst hvP
  go_wp2_with fail
  refine HSE.out.mono ?_
  rintro e y1 ⟨vS, rfl, hoS, hbS⟩
  obtain ⟨aS, cS, rfl, hrS, _⟩ := hoS.sl
  have HRS := Lib.hid hrS
  have HBS : Hid (Below (q + 1) w1 y1) := Lib.hid (HB9.out.trans (hbS.mono (by have := HB9.out.size; have := HSZ.out; omega)))
  have hlS : (P ++ sumB (cSum P)).length ≤ 143 := by have := HPL.out; simp [sumB]; omega
  obtain ⟨Z, hZ⟩ : ∃ Z, Z = P ++ sumB (cSum P) := ⟨_, rfl⟩
  rw [← hZ] at HRS hlS HBYE ⊢
  have HTX := Lib.hid (refText_any aS Z.length cS Z y1 HRS.out (by omega))
  clear hoS hrS hbS hZ hlS HSE
  go_wp2_with fail
  refine HTX.out.mono ?_
  rintro e y2 ⟨vT, rfl, hoT, hbT⟩
  have HFI : Hid (Own y2 w.heap.size vT (Rec.bytes ⟨2, 0, 0, f, t, l, 0, 0, 0⟩) ∧ Below w.heap.size w y2) := Lib.hid (by
    have h1 := HBS.out.size
    have h2 := HSZ.out
    have h3 := HW.out.2
    rw [HBYE.out]
    exact ⟨hoT.mono (by omega), HBW.out.trans ((HBS.out.mono (by omega)).trans (hbT.mono (by omega)))⟩)
  clear hoT hbT
  go_wp2
  go_ret
  exact ⟨_, rfl, HFI.out⟩

/-- A record's bytes, by the document. -/
theorem refBytes_any (x : Rec) (w : World) (hx : x.ok = true) (hl : ∀ z ∈ x.l, z < 256) :
    Calls Try.prog 12 #[pcV x] w fun e w' => ∃ v, e = .returned v ∧ Hid (Own w' w.heap.size v x.bytes ∧ Below w.heap.size w w') := by
  rcases Rec.ok_cases hx with ⟨i, b, h1, h2, rfl⟩ | ⟨f, t, l, h1, h2, h3, h4, rfl⟩ | ⟨f, t, h1, h2, rfl⟩ | ⟨c, dn, ds, h1, h2, h3, rfl⟩
  · exact rbytes_head i b w h1 h2 hx
  · exact rbytes_data f t l w (by omega) (by omega) hl hx
  · exact rbytes_hole f t w (by omega) (by omega) hx
  · exact rbytes_tail c dn ds w h1 h2 h3 hx

end Go.Proofs.Ytngnlnkkehnomaa
