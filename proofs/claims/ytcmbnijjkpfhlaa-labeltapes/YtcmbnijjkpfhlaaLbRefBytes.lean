/- A label's block, by the document's own Bytes; over any world. -/
import Derived.Test.YtcmbnijjkpfhlaaLbBytes
import Derived.Test.YtcmbnijjkpfhlaaGRefNum
import Derived.Test.YtcmbnijjkpfhlaaCheckRef
import Derived.Deep.DeepCutAuto
import Derived.Deep.CutBlock
import Derived.ArgAppend
import Derived.Lib.SlBytesConst
namespace Go.Proofs.Ytcmbnijjkpfhlaa
open Go.RowKit
set_option linter.unusedSimpArgs false

set_option maxRecDepth 100000 in
/-- Bytes behind bytes that have no room left. -/
theorem wpList_append_full {w : World} {ops : Array Oper} {rest : List Oper} {o : Oper} {a : Act} {Q : Exit → Act → World → Prop} (hgd : o.guard = none) (s x : Operand)
    (hop : o.op = .call { callee := .builtin .append, args := #[s, x], argTypes := #[25, 25] }) (ao : Addr) (n cap : Nat) (hs : a.eval s = .slice (some ao) n cap) (A : Addr) (m c : Nat) (hx : a.eval x = .slice (some A) m c)
    (l0 : List Nat) (h0 : Rd w (some ao) n l0) (l : List Nat) (hr : Rd w (some A) m l) (hcap : cap < n + m) (hn : n + m ≤ 3000000)
    (h : ∀ v' w', Own w' w.heap.size v' (l0 ++ l) → Below w.heap.size w w' → wpList Try.prog ops Q rest (a.put o.dst v') w') :
    wpList Try.prog ops Q (o :: rest) a w := by
  obtain ⟨i0, hi0, hz0, hz1, hz2⟩ := info_parts info5
  refine wpList_append_grows w hgd s x 25 hop 5 i0 _ 1 1 Try.underlying25 hi0 hz0 hz1 hz2 rfl (by omega) (some ao) n cap (cB l0) hs (fun e => by cases e) (by rw [cB_length, h0.1]; omega)
    (fun b hb j u hj => by injection hb with hb; subst hb; exact rd_cells h0 j u hj) A m c (cB l) hx (by rw [cB_length, hr.1]; omega) (rd_cells hr) (cB_one l) hcap (by unfold maxLen; omega) (by omega) ?_
  intro v' w' ho hg
  refine h v' w' ⟨fun y hy => ?_, ?_⟩ ((Below.refl _ _).grown hg (Nat.le_refl _) (by simp))
  · rcases List.mem_append.1 hy with hy | hy
    · exact h0.2.1 y hy
    · exact hr.2.1 y hy
  · rw [cB_append, List.length_append, h0.1, hr.1]
    exact ho

set_option maxHeartbeats 2000000 in
set_option maxRecDepth 100000 in
theorem refBytes_any (x : Lab) (w : World) (hok : x.ok = true) :
    Calls Try.prog 15 #[lbV x] w fun e w' => ∃ a c, e = .returned (.slice a x.bytes.length c) ∧ Own w' w.heap.size (.slice a x.bytes.length c) x.bytes ∧ Below w.heap.size w w' := by
  obtain ⟨l1, l2⟩ := Lab.plain_len hok
  obtain ⟨p, g, m, rfl, hp, g1, g2, m2⟩ := Lab.ok_parts hok
  obtain ⟨p1, p2, p3⟩ := poolB_byte hp
  have HPL : Hid (((([76] ++ tEnc p) ++ vEnc g) ++ vEnc m) = Lab.plain ⟨p, g, m⟩) := Lib.hid (by simp [Lab.plain])
  have HBY : Hid (Lab.bytes ⟨p, g, m⟩ = Lab.plain ⟨p, g, m⟩ ++ sumB (cSum (Lab.plain ⟨p, g, m⟩))) := Lib.hid rfl
  obtain ⟨Y, hY⟩ : ∃ Y, Y = Lab.bytes ⟨p, g, m⟩ := ⟨_, rfl⟩
  obtain ⟨P, hP⟩ : ∃ P, P = Lab.plain ⟨p, g, m⟩ := ⟨_, rfl⟩
  rw [← hY] at HBY ⊢
  rw [← hP] at HPL HBY l1 l2
  have HLP := Lib.hid (And.intro l1 l2)
  have HPB := Lib.hid (And.intro p2 p3)
  have hu1 := wrap_u64 (m := g) (by omega)
  have hu2 := wrap_u64 (m := m) (by omega)
  have hcs := fun W => conv_str W (strB p)
  have HSR : Hid (∀ W, Rd (strW W (strB p)) (some ⟨W.heap.size, 0, none⟩) p.length p ∧ Below W.heap.size W (strW W (strB p)) ∧ (strW W (strB p)).heap.size = W.heap.size + 1) := Lib.hid fun W => ⟨strW_rd W p3, strW_below _ _, strW_size _ _⟩
  have hss : (strB p).size = p.length := strB_size p
  rw [hss] at hcs
  have HG := Lib.hid (And.intro g2 m2)
  simp only [lbV]
  obtain ⟨s, hs⟩ : ∃ s, s = strB p := ⟨_, rfl⟩
  obtain ⟨n, hn⟩ : ∃ n, n = p.length := ⟨_, rfl⟩
  rw [← hs] at hcs HSR ⊢
  rw [← hn] at hcs HSR
  have HN := Lib.hid hn
  have hT := tEnc_len p2
  have HT8 : Hid (([76] ++ tEnc p).length ≤ 10) := Lib.hid (by simp; omega)
  clear hok hY hP l1 l2 hp g1 g2 m2 p1 p2 p3 hss hs hn hT
  obtain ⟨q, hq⟩ : ∃ q, q = w.heap.size := ⟨_, rfl⟩
  obtain ⟨w1, hw1⟩ : ∃ w1, w1 = (w.alloc (.cells #[.string s, .int .i64 (g : Int), .int .i64 (m : Int)] 30)).alloc (.cells #[.int .u8 76] 5 (1, 2)) := ⟨_, rfl⟩
  have HW : Hid ((w.alloc (.cells #[.string s, .int .i64 (g : Int), .int .i64 (m : Int)] 30)).alloc (.cells #[.int .u8 76] 5 (1, 2)) = w1 ∧ w.heap.size = q) := Lib.hid ⟨hw1.symm, hq.symm⟩
  have hB1 : Below q w w1 := by rw [hw1, hq]; exact ((Below.refl _ _).alloc (Nat.le_refl _) _).alloc (by simp) _
  have hsz : w1.heap.size = q + 2 := by rw [hw1, hq]; simp
  have hblk : w1.heap[q]? = some (.cells #[.string s, .int .i64 (g : Int), .int .i64 (m : Int)] 30 (0, 0)) := by rw [hw1, hq]; exact (heap_alloc_old _ _ (by simp)).trans (heap_alloc_new w _)
  have hone : w1.heap[q + 1]? = some (.cells #[.int .u8 ((76 : Nat) : Int)] 5 (1, 2)) := by
    rw [hw1, hq]
    have e := heap_alloc_new (w.alloc (.cells #[.string s, .int .i64 (g : Int), .int .i64 (m : Int)] 30)) (.cells #[.int .u8 76] 5 (1, 2))
    rw [World.size_alloc] at e
    exact e
  have HK : Hid (∀ W, Below (q + 1) w1 W → W.heap[q]? = some (.cells #[.string s, .int .i64 (g : Int), .int .i64 (m : Int)] 30 (0, 0))) := Lib.hid fun W hW => (hW.block q (by omega)).trans hblk
  have HO0 : Hid (Rd w1 (some ⟨q + 1, 0, none⟩) 1 [76]) := Lib.hid ⟨rfl, by simp, fun _ => ⟨_, _, rfl, fun j hj => by
    obtain rfl : j = 0 := by omega
    rw [cell_of_row w1 (q + 1) _ _ 5 (1, 2) hone]
    rfl⟩⟩
  have HBW := Lib.hid hB1
  have HSZ := Lib.hid hsz
  clear hw1 hq hB1 hsz hblk hone
  rw [HW.out.2]
  go_enter Try.func15, Try.ntmps15
  go_upto_region 1 with fail
  have kc : (convert 25 25 (.slice (some ⟨w.heap.size + 1, 0, none⟩) 1 1)).run Try.prog ((w.alloc (.cells #[.string s, .int .i64 (g : Int), .int .i64 (m : Int)] 30)).alloc (.cells #[.int .u8 76] 5)) = .ok (.slice (some ⟨w.heap.size + 1, 0, none⟩) 1 1) w1 := by
    have := Lib.run_convert_bytes_const (P := Try.prog) (w.alloc (.cells #[.string s, .int .i64 (g : Int), .int .i64 (m : Int)] 30)) 25 5 #[.int .u8 76] 1 1 Try.underlying25 Try.underlying5
    rw [World.size_alloc] at this
    rw [this, ← HW.out.1]
    rfl
  have hc0 : w1.cell? ⟨w.heap.size, 0, none⟩ = some (.string s) := by rw [HW.out.2]; exact (lab_cells (HK.out w1 (Below.refl _ _))).1
  go_wp2_with fail
  try rw [HW.out.2]
  clear hc0 kc
  have hsr := HSR.out w1
  obtain ⟨w2, hw2⟩ : ∃ w2, w2 = strW w1 s := ⟨_, rfl⟩
  rw [← hw2] at hsr ⊢
  obtain ⟨hr2, hb2, hz2⟩ := hsr
  have HRS := Lib.hid hr2
  have HB2 : Hid (Below (q + 1) w1 w2) := Lib.hid (hb2.mono (by have := HSZ.out; omega))
  have HO2 : Hid (Rd w2 (some ⟨q + 1, 0, none⟩) 1 [76]) := Lib.hid (HO0.out.later hb2)
  have HTX := Lib.hid (rrText_any (some ⟨w1.heap.size, 0, none⟩) n (strC w1 s) p w2 HRS.out (by have := HPB.out.1; have := HN.out; omega))
  clear hw2 hr2 hb2 hz2
  refine HTX.out.mono ?_
  rintro e u1 ⟨v1, rfl, ho1, hb1⟩
  obtain ⟨ga, c1, rfl⟩ := ho1.held (by have := HT8.out; unfold tEnc; have := vEnc_pos p.length; simp; omega)
  have HR1 := Lib.hid (ho1.asSlice1 rfl)
  have HU1 : Hid (Below (q + 1) w1 u1) := Lib.hid (HB2.out.trans (hb1.mono (by have := HB2.out.size; have := HSZ.out; omega)))
  have HO3 : Hid (Rd u1 (some ⟨q + 1, 0, none⟩) 1 [76]) := Lib.hid (HO2.out.later hb1)
  have HTP : Hid (0 < (tEnc p).length) := Lib.hid (by unfold tEnc; have := vEnc_pos p.length; simp; omega)
  clear ho1 hb1 HTX
  go_wp2_with (at_builtin; refine wpList_append_full rfl (.tmp 5) (.tmp 9) rfl ⟨q + 1, 0, none⟩ 1 1 rfl ⟨ga, 0, none⟩ (tEnc p).length c1 rfl [76] HO3.out (tEnc p) HR1.out (by have := HTP.out; omega) (by have := HT8.out; simp at this; omega) ?_; intro v2 x2 hv2 hx2; have HX2 : Hid (Below (q + 1) w1 x2) := Lib.hid (HU1.out.trans (hx2.mono (by have := HU1.out.size; have := HSZ.out; omega))); have HV2 : Hid (Own x2 (q + 1) v2 ([76] ++ tEnc p)) := Lib.hid (hv2.mono (by have := HU1.out.size; have := HSZ.out; omega)); obtain ⟨c0, c1, c2⟩ := lab_cells (HK.out x2 HX2.out); clear hv2 hx2)
  have hn2 := refNum_any g (g : Int) x2 rfl (by have := HG.out; omega)
  have HN2 := Lib.hid hn2
  have l102 : (vEnc g).length ≤ 10 := vEnc_len10 (by have := HG.out; omega)
  have HL2 := Lib.hid l102
  clear hn2 l102 HO3 HO2 HO0 HR1
  refine HN2.out.mono ?_
  rintro e u2 ⟨g2, m2, k2, rfl, hm2, ho2, hb2⟩
  have HOa2 := Lib.hid ho2
  have HM2 := Lib.hid hm2
  have HBa2 : Hid (Below (q + 1) w1 u2) := Lib.hid (HX2.out.trans (hb2.mono (by have := HX2.out.size; have := HSZ.out; omega)))
  have HRow2 : Hid (Own u2 (q + 1) v2 ([76] ++ tEnc p)) := Lib.hid (HV2.out.kept hb2)
  clear hm2 ho2 hb2 c0 c1 c2
  go_wp2_with (at_builtin; refine wpList_append_rd rfl (.tmp 11) (.tmp 15) rfl v2 rfl (some ⟨g2, 0, none⟩) m2 k2 rfl (q + 1) _ HRow2.out (by have := HBa2.out.size; have := HSZ.out; omega) (vEnc g) (HOa2.out.asSlice1 HM2.out.symm) (by have := HM2.out; have := HL2.out; have := HT8.out; omega) ?_; intro v3 x3 hv3 hx3; have HX3 : Hid (Below (q + 1) w1 x3) := Lib.hid (HBa2.out.trans hx3); have HV3 := Lib.hid hv3; obtain ⟨c0, c1, c2⟩ := lab_cells (HK.out x3 HX3.out); clear hv3 hx3)
  have hn3 := refNum_any m (m : Int) x3 rfl (by have := HG.out; omega)
  have HN3 := Lib.hid hn3
  have l103 : (vEnc m).length ≤ 10 := vEnc_len10 (by have := HG.out; omega)
  have HL3 := Lib.hid l103
  clear hn3 l103
  refine HN3.out.mono ?_
  rintro e u3 ⟨g3, m3, k3, rfl, hm3, ho3, hb3⟩
  have HOa3 := Lib.hid ho3
  have HM3 := Lib.hid hm3
  have HBa3 : Hid (Below (q + 1) w1 u3) := Lib.hid (HX3.out.trans (hb3.mono (by have := HX3.out.size; have := HSZ.out; omega)))
  have HRow3 : Hid (Own u3 (q + 1) v3 (([76] ++ tEnc p) ++ vEnc g)) := Lib.hid (HV3.out.kept hb3)
  clear hm3 ho3 hb3 c0 c1 c2
  go_wp2_with (at_builtin; refine wpList_append_rd rfl (.tmp 17) (.tmp 21) rfl v3 rfl (some ⟨g3, 0, none⟩) m3 k3 rfl (q + 1) _ HRow3.out (by have := HBa3.out.size; have := HSZ.out; omega) (vEnc m) (HOa3.out.asSlice1 HM3.out.symm) (by have := HM3.out; have := HL2.out; have := HL3.out; have := HT8.out; rw [List.length_append]; omega) ?_; intro v4 x4 hv4 hx4; have HX4 : Hid (Below (q + 1) w1 x4) := Lib.hid (HBa3.out.trans hx4); have HV4 := Lib.hid hv4; clear hv4 hx4)
  have hOP : Own x4 (q + 1) v4 P := by rw [← HPL.out]; exact HV4.out
  obtain ⟨aP, cP, hvP, hrP, _⟩ := hOP.sl
  have HSE := Lib.hid (refSeal_any aP P.length cP P x4 hrP (by have := HLP.out; omega))
  subst hvP
  clear hOP hrP
  refine HSE.out.mono ?_
  rintro e y1 ⟨vS, rfl, hoS, hbS⟩
  rw [← HBY.out] at hoS
  have hfin : Own y1 q vS Y ∧ Below q w y1 := by
    have h1 := HX4.out.size
    have h2 := HSZ.out
    exact ⟨hoS.mono (by omega), HBW.out.trans ((HX4.out.mono (by omega)).trans (hbS.mono (by omega)))⟩
  obtain ⟨aS, cS, rfl, _, _⟩ := hoS.sl
  have HFI := Lib.hid hfin
  clear hoS hbS hfin HSE
  go_wp2
  go_ret
  exact ⟨_, _, rfl, HFI.out⟩

end Go.Proofs.Ytcmbnijjkpfhlaa
