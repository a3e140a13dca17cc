/- The document's records of a stream: of an image, by a base. -/
import Derived.Test.YtaijldcfoaeogaaGreatGIWritesToIRefDiff
import Derived.Test.YtaijldcfoaeogaaGreatGRrRowToRrHead
import Derived.Test.YtaijldcfoaeogaaGreatGSmMathToSmMk
import Derived.Test.YtaijldcfoaeogaaGreatReadyC
import Derived.Test.YtaijldcfoaeogaaGreatGRcMathToRcBytes
import Derived.Test.YtaijldcfoaeogaaGreatGVPutToVBytes
import Derived.Test.YtaijldcfoaeogaaGreatGCheckRefToRefRdrBytesHi
import Derived.Lib.AppendStr
import Derived.Deep.DeepCutAuto
import Derived.Deep.CutBlock
import Derived.Test.YtaijldcfoaeogaaGreatDRef
import Derived.Test.YtaijldcfoaeogaaGreatGSmBackToSmLives
import Derived.Test.YtaijldcfoaeogaaGreatGSmChangeToSmApply
import Derived.Test.YtaijldcfoaeogaaGreatSmMake
namespace Go.Proofs.YtaijldcfoaeogaaGreat
open Go.RowKit
set_option maxRecDepth 100000
set_option linter.unusedSimpArgs false

theorem OwnP.mono {w : World} {base base' : Nat} {v : Value} {L : List Rec} (h : OwnP w base v L) (hb : base' ≤ base) : OwnP w base' v L := by
  obtain ⟨h0, h1⟩ := h
  refine ⟨h0, ?_⟩
  rcases h1 with h1 | ⟨g, cap, cur, e, h2, h3⟩
  · exact .inl h1
  · exact .inr ⟨g, cap, cur, e, Nat.le_trans hb h2, h3⟩

theorem OwnP.kept {w w' : World} {base : Nat} {v : Value} {L : List Rec} (h : OwnP w base v L) (hk : ∀ z, v.ownBlock = some z → w'.heap[z]? = w.heap[z]?) : OwnP w' base v L := owns_same h hk

theorem OwnP.lt {w : World} {base : Nat} {v : Value} {L : List Rec} (h : OwnP w base v L) {z : Nat} (hz : v.ownBlock = some z) : z < w.heap.size := by
  obtain ⟨_, cur, hcur⟩ := owns_block h hz
  exact lt_of_block hcur

theorem ownP_new (w : World) (x : Rec) : OwnP (w.alloc (.cells (prL x).toArray 50)) w.heap.size (.slice (some ⟨w.heap.size, 0, none⟩) 1 1) [x] := by
  refine ⟨by simp [cPr, prL], .inr ⟨w.heap.size, 1, (prL x).toArray, rfl, Nat.le_refl _, heap_alloc_new w _, Nat.le_refl _, by decide, by simp [prL], ?_⟩⟩
  simp [cPr, prL]

theorem pcs_len {H : List (List Nat)} {M : List Rn} (hH : H.length = 256) (hM : SetF H M) : (pcsR M).length ≤ 256 := by
  have h1 := pcsR_len M
  have := whole_len hH (pre := numsR M) (List.Pairwise.imp (fun h => Int.ne_of_lt h) (by obtain ⟨a, ha⟩ := hM.set; exact numsR_sorted ha)) fun x hx => (hM.mem x).1 (mem_numsR.1 hx)
  omega

theorem blk_le {F : List (List Nat)} (hF : okF F) (f : Int) : ∀ k : Nat, ((segR f k).flatMap (fAt F)).length ≤ 32 * k := by
  intro k
  induction k with
  | zero => simp [segR]
  | succ k ih =>
    rw [segR_succ, List.flatMap_append, List.length_append]
    have h2 : (fAt F (f + (k : Int))).length ≤ 32 := by
      rcases hF.at_ (f + (k : Int)) with h | h
      · rw [h]; simp
      · rw [h.1]; exact Nat.le_refl _
    simp only [List.flatMap_cons, List.flatMap_nil, List.append_nil]
    omega

theorem pr_new (w : World) (x : Rec) : ∀ t u, (prL x)[t]? = some u → (w.alloc (.cells (prL x).toArray 50)).cell? ((⟨w.heap.size, 0, none⟩ : Addr).add t) = some u := by
  intro t u h
  rw [add_plain]
  simp only [Nat.zero_add]
  rw [cell_of_row _ _ _ _ _ _ (heap_alloc_new w _)]
  simpa using h

theorem ready_append_p {o : Oper} {a : Act} {w : World} {K : Act → World → Prop} {Q : Exit → Act → World → Prop} {c : Prop} [Decidable c] (hw : c) (s x : Operand)
    (hop : o.op = .call { callee := .builtin .append, args := #[s, x], argTypes := #[35, 35] }) (v : Value) (hs : a.eval s = v) (A : Addr) (cc : Nat) (hx : a.eval x = .slice (some A) 1 cc)
    (base : Nat) (L : List Rec) (ho : OwnP w base v L) (hbase : base ≤ w.heap.size) (e : Rec) (hr : ∀ t u, (prL e)[t]? = some u → w.cell? (A.add t) = some u) (hn : L.length ≤ 1000000)
    (h : ∀ v' w', OwnP w' base v' (L ++ [e]) → w.grownBy w' v.ownBlock → K (a.put o.dst v') w') : if c then Oper.wp Tryz.prog o a w K Q else K (a.put o.dst undef) w := by
  obtain ⟨v', w', hrun, h1, h2, h3⟩ := run_append_p w base v L ho hbase A cc e hr hn o.type
  rw [if_pos hw]
  unfold Oper.wp execOp
  simp only [hop, resolve, invoke, builtin, Sem.run_bind, Sem.run_pure, Result.andThen_ok, List.map_toArray, List.map_cons, List.map_nil, hs, hx, hrun]
  exact h v' w' h1 h2

set_option maxHeartbeats 8000000 in
set_option maxRecDepth 100000 in
theorem rrecords_any (w : World) (i b : Int) (F G : List (List Nat)) (hF : okF F) (hG : okF G) :
    Calls Tryz.prog 8 #[.int .i64 i, .int .i64 b, .agg (cS F).toArray, .agg (cS G).toArray] w fun e w' => ∃ M N v, SetF (diffF F G) M ∧ SetF (goneF F G) N ∧ e = .returned v ∧ OwnP w' w.heap.size v (recsR i b F M N) ∧ Below w.heap.size w w' := by
  have HOk := Lib.hid (And.intro hF hG)
  obtain ⟨p, hp⟩ : ∃ p, p = w.heap.size := ⟨_, rfl⟩
  clear hF hG
  go_enter Tryz.func8, Tryz.ntmps8
  go_upto_region 1 with fail
  change Code.wp _ _ _ _ ((w.alloc (arrObj F)).alloc (arrObj G))
  obtain ⟨w2, h2⟩ : ∃ w2, w2 = (w.alloc (arrObj F)).alloc (arrObj G) := ⟨_, rfl⟩
  rw [← h2, ← hp]
  have HB2 : Hid (Below p w w2) := Lib.hid (by rw [h2, hp]; exact (Below.alloc0 _ _).alloc (by simp) _)
  have HS2 : Hid (w2.heap.size = p + 2) := Lib.hid (by rw [h2, hp]; simp)
  have HA2 : Hid (w2.heap[p]? = some (arrObj F)) := Lib.hid (by rw [h2, hp]; exact (heap_alloc_old _ _ (by simp)).trans (heap_alloc_last _ _))
  have HC2 : Hid (w2.heap[p + 1]? = some (arrObj G)) := Lib.hid (by
    rw [h2, hp]
    exact heap_alloc2 w _ _)
  have HP := Lib.hid hp
  have HDf := Lib.hid (refDiff_any w2 F G HOk.out.1 HOk.out.2)
  clear h2 hp
  go_wp2_with (first
    | (refine wpList_load_img rfl (.tmp 6) rfl p F rfl HA2.out HOk.out.1.1 ?_)
    | (refine wpList_load_img rfl (.tmp 7) rfl (p + 1) G rfl HC2.out HOk.out.2.1 ?_))
  refine HDf.out.mono ?_
  rintro e w3 ⟨v, u, M, N, rfl, hoM, hM, hoN, hN, hb3⟩
  obtain ⟨aM, cM, rfl, hrM, hcM, hfM⟩ := hoM.rd
  obtain ⟨aN, cN, rfl, hrN, hcN, hfN⟩ := hoN.rd
  have HRM := Lib.hid hrM
  have HRN := Lib.hid hrN
  have HM := Lib.hid (And.intro hM hN)
  have hME := hM.ends (diffF_len F G)
  have hNE := hN.ends (goneF_len F G)
  have HE := Lib.hid (And.intro hME hNE)
  have HB3 : Hid (Below w2.heap.size w2 w3) := Lib.hid hb3
  obtain ⟨p3, hp3⟩ : ∃ p3, p3 = w3.heap.size := ⟨_, rfl⟩
  have HP3 : Hid (p3 = w3.heap.size ∧ p + 2 ≤ p3) := Lib.hid ⟨hp3, by have := hb3.size; have := HS2.out; omega⟩
  have HA3 : Hid (w3.heap[p]? = some (arrObj F)) := Lib.hid ((hb3.block p (by have := HS2.out; omega)).trans HA2.out)
  obtain ⟨w4, hw4⟩ : ∃ w4, w4 = w3.alloc (.cells #[.int .u8 1, .int .i64 i, .int .i64 b, .int .i64 0, .int .i64 0, .string ⟨#[]⟩, .int .i64 0, .int .u64 0, .int .u64 0] 50) := ⟨_, rfl⟩
  have HW4 : Hid (w3.alloc (.cells #[.int .u8 1, .int .i64 i, .int .i64 b, .int .i64 0, .int .i64 0, .string ⟨#[]⟩, .int .i64 0, .int .u64 0, .int .u64 0] 50) = w4) := Lib.hid hw4.symm
  have HO4 : Hid (OwnP w4 p3 (.slice (some ⟨p3, 0, none⟩) 1 1) [headR i b]) := Lib.hid (by rw [hw4, hp3]; exact ownP_new w3 (headR i b))
  have HB4 : Hid (Below p3 w3 w4) := Lib.hid (by rw [hw4, hp3]; exact Below.alloc0 _ _)
  obtain ⟨mM, hmM⟩ : ∃ mM, mM = M.length := ⟨_, rfl⟩
  obtain ⟨mN, hmN⟩ : ∃ mN, mN = N.length := ⟨_, rfl⟩
  rw [← hmM] at hrM HRM hcM ⊢
  rw [← hmN] at hrN HRN hcN ⊢
  have HLN := Lib.hid (And.intro hmM hmN)
  have hm128 : mM ≤ 128 := by rw [hmM]; exact hM.len (diffF_len F G)
  have hn128 : mN ≤ 128 := by rw [hmN]; exact hN.len (goneF_len F G)
  clear hrM hrN hM hN hoM hoN hb3 hfM hfN hME hNE hp3 hw4 hmM hmN hcM hcN
  go_upto_region 3 with fail
  try change Code.wp _ _ _ _ (w3.alloc (.cells #[.int .u8 1, .int .i64 i, .int .i64 b, .int .i64 0, .int .i64 0, .string ⟨#[]⟩, .int .i64 0, .int .u64 0, .int .u64 0] 50))
  rw [HW4.out, ← HP3.out.1]
  go_wp2_with fail
  go_loopg [11, 12] mM (fun gk v11 v12 wr => ∃ (j : Nat) (v : Value), v = v11 ∧ gk = mM - j ∧ j ≤ mM ∧ v12 = .int .i64 (j : Int) ∧ Hid (OwnP wr p3 v (headR i b :: (pcsR (M.take j)).map (dataR F))) ∧ Hid (Below p3 w3 wr))
  case atStart => exact ⟨0, _, rfl, rfl, Nat.zero_le _, rfl, Lib.hid (by simpa [pcsR] using HO4.out), HB4⟩
  case round =>
    obtain ⟨j, v, rfl, hgk, hj, rfl, HO, HB⟩ := hrel
    have HGK := Lib.hid hgk
    clear hgk
    by_cases hlt : j < mM
    · obtain ⟨br, or_, r, hra, hre, hbr, c0, c1⟩ := HRM.out.at_ (by rw [← HP3.out.1]; exact HB.out) hlt
      subst hra
      have hjl : j < M.length := by have := HLN.out.1; omega
      have hrm : r ∈ M := by rw [hre]; simp [List.getD, hjl]
      obtain ⟨f, t⟩ := r
      have hft := HE.out.1 _ hrm
      simp only at hft c0 c1
      have HTK : Hid (pcsR (M.take (j + 1)) = pcsR (M.take j) ++ segP f t (pcN f t)) := Lib.hid (by
        rw [List.take_succ_eq_append_getElem hjl, pcsR_append, pcsR_one]
        have : M[j] = ⟨f, t⟩ := by rw [hre]; simp [List.getD, hjl]
        rw [this])
      have HPN : Hid (0 ≤ f ∧ f < t ∧ t ≤ 256) := Lib.hid hft
      obtain ⟨nn, hnn⟩ : ∃ nn, nn = pcN f t := ⟨_, rfl⟩
      have HNN := Lib.hid hnn
      have HCM : Hid (∀ W, Below p3 w3 W → W.cell? ⟨br, or_ + j * 2, none⟩ = some (.int .i64 f) ∧ W.cell? ⟨br, or_ + j * 2 + 1, none⟩ = some (.int .i64 t)) := Lib.hid fun W hW => by
        obtain ⟨br2, or2, r2, hra2, hre2, hbr2, d0, d1⟩ := HRM.out.at_ (by rw [← HP3.out.1]; exact hW) hlt
        injection hra2 with h9
        injection h9 with h8 h7
        subst h8
        subst h7
        rw [← hre] at hre2
        subst hre2
        exact ⟨d0, d1⟩
      rw [← hnn] at HTK
      clear hre hbr hjl hrm hnn hft
      go_wp2_with fail
      go_loopg [11, 13] nn (fun gk v11 v13 wr => ∃ (k : Nat) (v : Value), v = v11 ∧ gk = nn - k ∧ k ≤ nn ∧ v13 = .int .i64 (f + 4 * (k : Int)) ∧ Hid (OwnP wr p3 v (headR i b :: (pcsR (M.take j) ++ segP f t k).map (dataR F))) ∧ Hid (Below p3 w3 wr))
      case atStart => exact ⟨0, _, rfl, rfl, Nat.zero_le _, by simp, Lib.hid (by simpa [segP] using HO.out), HB⟩
      case round =>
        obtain ⟨k, v, rfl, hgk2, hk, rfl, HO, HB⟩ := hrel
        have HGK2 := Lib.hid hgk2
        clear hgk2
        obtain ⟨c0, c1⟩ := HCM.out _ HB.out
        obtain ⟨f1, hf1⟩ : ∃ f1, f1 = f + 4 * (k : Int) := ⟨_, rfl⟩
        rw [← hf1]
        have HF1 := Lib.hid hf1
        clear hf1
        by_cases hlk : k < nn
        · have hlf : f1 < t := by rw [HF1.out]; exact pcN_lt.1 (by rw [← HNN.out]; exact hlk)
          have hb0 : 0 ≤ f1 ∧ t ≤ 256 := by have := HPN.out; have := HF1.out; omega
          have HSG : Hid (segP f t (k + 1) = segP f t k ++ [⟨f1, min (f1 + 4) t⟩]) := Lib.hid (by rw [segP_succ, HF1.out])
          go_upto_region 10 with fail
          obtain ⟨fn, rfl⟩ := Int.eq_ofNat_of_zero_le hb0.1
          obtain ⟨tn, htn⟩ : ∃ tn : Nat, min ((fn : Int) + 4) t = (tn : Int) := Int.eq_ofNat_of_zero_le (by omega)
          rw [htn] at HSG ⊢
          have hbt : fn < tn ∧ tn ≤ 256 ∧ tn ≤ fn + 4 := by omega
          have HBT := Lib.hid hbt
          obtain ⟨q, hq⟩ : ∃ q, q = wr.heap.size := ⟨_, rfl⟩
          obtain ⟨w5, hw5⟩ : ∃ w5, w5 = wr.alloc (.cells #[.int .u8 2, .int .i64 0, .int .i64 0, .int .i64 (fn : Int), .int .i64 (tn : Int), .string ⟨#[]⟩, .int .i64 0, .int .u64 0, .int .u64 0] 50) := ⟨_, rfl⟩
          have HW5 : Hid (wr.alloc (.cells #[.int .u8 2, .int .i64 0, .int .i64 0, .int .i64 (fn : Int), .int .i64 (tn : Int), .string ⟨#[]⟩, .int .i64 0, .int .u64 0, .int .u64 0] 50) = w5 ∧ wr.heap.size = q) := Lib.hid ⟨hw5.symm, hq.symm⟩
          have HQ5 : Hid (w5.heap[q]? = some (.cells #[.int .u8 2, .int .i64 0, .int .i64 0, .int .i64 (fn : Int), .int .i64 (tn : Int), .string (strB ((segR (fn : Int) 0).flatMap (fAt F))), .int .i64 0, .int .u64 0, .int .u64 0] 50 (0, 0))) := Lib.hid (by rw [hw5, hq]; exact heap_alloc_new wr _)
          have HB5 : Hid (Below p3 w3 w5) := Lib.hid (by rw [hw5]; exact HB.out.alloc (by have := HB.out.size; have := HP3.out.1; omega) _)
          have HQP : Hid (p3 ≤ q ∧ w5.heap.size = q + 1) := Lib.hid ⟨by have := HB.out.size; have := HP3.out.1; omega, by rw [hw5, hq]; simp⟩
          have HO5 : Hid (OwnP w5 p3 v (headR i b :: (pcsR (M.take j) ++ segP f t k).map (dataR F)) ∧ ∀ z, v.ownBlock = some z → z < q) := Lib.hid ⟨HO.out.kept fun z hz => by rw [hw5]; exact heap_alloc_old _ _ (HO.out.lt hz), fun z hz => by rw [hq]; exact HO.out.lt hz⟩
          clear hq hw5 hbt c0 c1
          go_upto_region 11 with fail
          try change Code.wp _ _ _ _ (wr.alloc (.cells #[.int .u8 2, .int .i64 0, .int .i64 0, .int .i64 (fn : Int), .int .i64 (tn : Int), .string ⟨#[]⟩, .int .i64 0, .int .u64 0, .int .u64 0] 50))
          rw [HW5.out.1]
          try rw [HW5.out.2]
          go_wp2_with fail
          go_loopg [16] (tn - fn) (fun gk v16 wr => ∃ u : Nat, gk = (tn - fn) - u ∧ u ≤ tn - fn ∧ v16 = .int .i64 ((fn + u : Nat) : Int) ∧ Hid (wr.heap[q]? = some (.cells #[.int .u8 2, .int .i64 0, .int .i64 0, .int .i64 (fn : Int), .int .i64 (tn : Int), .string (strB ((segR (fn : Int) u).flatMap (fAt F))), .int .i64 0, .int .u64 0, .int .u64 0] 50 (0, 0))) ∧ Hid (Save [q] w5 wr))
          case atStart => exact ⟨0, rfl, Nat.zero_le _, rfl, HQ5, Lib.hid (Save.refl _ _)⟩
          case round =>
            obtain ⟨u, hgk3, hu, rfl, HQ, HSV⟩ := hrel
            have HGK3 := Lib.hid hgk3
            clear hgk3
            obtain ⟨x, hx⟩ : ∃ x, x = fn + u := ⟨_, rfl⟩
            rw [← hx]
            have HXE := Lib.hid hx
            clear hx
            by_cases hlx : x < tn
            · obtain ⟨y, hy⟩ : ∃ y, y = (segR (fn : Int) u).flatMap (fAt F) := ⟨_, rfl⟩
              have HY : Hid ((segR (fn : Int) (u + 1)).flatMap (fAt F) = y ++ F.getD x []) := Lib.hid (by
                rw [segR_succ, List.flatMap_append, ← hy]
                have e : (fn : Int) + (u : Int) = ((x : Nat) : Int) := by rw [HXE.out]; simp
                simp [e, fAt_nat])
              rw [← hy] at HQ
              have hq := HQ.out
              have hxi : (x : Int) < 256 := by have := HBT.out; omega
              have hp := (HSV.out.block p (by have := HQP.out; have := HP3.out; omega) (by have := HQP.out; have := HP3.out; simp; omega)).trans ((HB5.out.block p (by have := HP3.out; omega)).trans HA3.out)
              have hcp := arr_cell (j := x) hp (by have := HBT.out; have := HOk.out.1.1; omega)
              obtain ⟨z, hz⟩ : ∃ z, z = F.getD x [] := ⟨_, rfl⟩
              rw [← hz] at hcp HY
              have hc5 : wr.cell? ⟨q, 5, none⟩ = some (.string (strB y)) := by simp [World.cell?, hq]
              have hf5 : wr.frozen? ⟨q, 5, none⟩ = false := by simp [World.frozen?, hq]
              have hset := set_put (i := 5) (.string (strB (y ++ z))) hq
              have hyl : y.length ≤ 32 * u := by rw [hy]; exact blk_le HOk.out.1 _ u
              have hzl : z.length ≤ 32 := by
                rw [hz, ← fAt_nat]
                rcases HOk.out.1.at_ (x : Int) with h | h
                · rw [h]; simp
                · rw [h.1]; exact Nat.le_refl _
              have hsz : ¬ (9223372036854775807 < (strB y).size + (strB z).size) := by
                rw [strB_size, strB_size]
                have := HBT.out
                omega
              have happ := strB_append y z
              clear hy hz hp hq hyl hzl
              go_upto_region 14 with fail
              go_region
              have hq9 : (put wr q (.cells #[.int .u8 2, .int .i64 0, .int .i64 0, .int .i64 (fn : Int), .int .i64 (tn : Int), .string (strB (y ++ z)), .int .i64 0, .int .u64 0, .int .u64 0] 50 (0, 0))).drew.heap[q]? = some (.cells #[.int .u8 2, .int .i64 0, .int .i64 0, .int .i64 (fn : Int), .int .i64 (tn : Int), .string (strB (y ++ z)), .int .i64 0, .int .u64 0, .int .u64 0] 50 (0, 0)) := put_same HQ.out
              have hs9 : Save [q] w5 (put wr q (.cells #[.int .u8 2, .int .i64 0, .int .i64 0, .int .i64 (fn : Int), .int .i64 (tn : Int), .string (strB (y ++ z)), .int .i64 0, .int .u64 0, .int .u64 0] 50 (0, 0))).drew := (HSV.out.put (by simp) _).drew
              try simp only [List.setIfInBounds_toArray, List.set_cons_succ, List.set_cons_zero]
              generalize (put wr q (.cells #[.int .u8 2, .int .i64 0, .int .i64 0, .int .i64 (fn : Int), .int .i64 (tn : Int), .string (strB (y ++ z)), .int .i64 0, .int .u64 0, .int .u64 0] 50 (0, 0))).drew = w9 at hq9 hs9 ⊢
              rw [← HY.out] at hq9
              have HQ9 := Lib.hid hq9
              have HS9 := Lib.hid hs9
              clear hq9 hs9 hset hcp hc5 hf5 hsz happ
              go_wp2_with fail
              go_roundg ((tn - fn) - (u + 1))
              case measure => have := HGK3.out; have := HXE.out; omega
              case rel => exact ⟨u + 1, rfl, by have := HXE.out; omega, by have := HXE.out; simp; omega, HQ9, HS9⟩
            · have he : u = tn - fn := by have := HXE.out; omega
              have hbk : (segR (fn : Int) u).flatMap (fAt F) = blkF F ⟨(fn : Int), (tn : Int)⟩ := by
                unfold blkF
                simp only
                rw [he]
                congr 2
                have := HBT.out
                omega
              rw [hbk] at HQ
              have hq := HQ.out
              obtain ⟨y, hy⟩ : ∃ y, y = blkF F ⟨(fn : Int), (tn : Int)⟩ := ⟨_, rfl⟩
              rw [← hy] at HQ hq
              have HDR : Hid ((⟨2, 0, 0, (fn : Int), (tn : Int), y, 0, 0, 0⟩ : Rec) = dataR F ⟨(fn : Int), (tn : Int)⟩) := Lib.hid (by rw [hy]; rfl)
              obtain ⟨c0, c1, c2, c3, c4, c5, c6, c7, c8⟩ := rec_cells hq
              have HOw : Hid (OwnP wr p3 v (headR i b :: (pcsR (M.take j) ++ segP f t k).map (dataR F))) := Lib.hid (HO5.out.1.kept fun z hz => HSV.out.block z (by have := HO5.out.2 z hz; have := HQP.out; omega) (by have := HO5.out.2 z hz; simp; omega))
              have HBw : Hid (Below p3 w3 wr) := Lib.hid (HB5.out.trans (HSV.out.below (by have := HQP.out; omega) (by have := HQP.out; simp; omega)))
              have HOx : Hid (OwnP (wr.alloc (.cells #[.int .u8 2, .int .i64 0, .int .i64 0, .int .i64 (fn : Int), .int .i64 (tn : Int), .string (strB y), .int .i64 0, .int .u64 0, .int .u64 0] 50)) p3 v (headR i b :: (pcsR (M.take j) ++ segP f t k).map (dataR F))) := Lib.hid (HOw.out.kept fun z hz => heap_alloc_old _ _ (HOw.out.lt hz))
              have hlen : (headR i b :: (pcsR (M.take j) ++ segP f t k).map (dataR F)).length ≤ 1000000 := by
                have h1 : (pcsR (M.take j) ++ segP f t k).length ≤ 256 + 300 := by
                  rw [List.length_append]
                  have h2 := (pcsR_take_prefix M j).length_le
                  have h3 := pcs_len (diffF_len F G) HM.out.1
                  have h4 : (segP f t k).length = k := by simp [segP]
                  have h5 : nn ≤ 300 := by rw [HNN.out]; unfold pcN; have := HPN.out; omega
                  omega
                simp only [List.length_cons, List.length_map]
                omega
              have HLE := Lib.hid hlen
              have HPW : Hid (p3 ≤ wr.heap.size) := Lib.hid (by have := HBw.out.size; have := HP3.out.1; omega)
              clear he hbk hq hy hlen
              go_wp2_with (at_builtin; refine wpList_append_p rfl (.tmp 72) (.tmp 74) rfl v rfl ⟨wr.heap.size, 0, none⟩ 1 rfl p3 _ HOx.out (by simp; have := HPW.out; omega) ⟨2, 0, 0, (fn : Int), (tn : Int), y, 0, 0, 0⟩ (pr_new wr _) HLE.out ?_; intro v' w' h1 h2 h3)
              rw [HDR.out] at h1
              have HO9 : Hid (OwnP w' p3 v' (headR i b :: (pcsR (M.take j) ++ segP f t (k + 1)).map (dataR F))) := Lib.hid (by
                rw [HSG.out]
                simpa using h1)
              have HB9 : Hid (Below p3 w3 w') := Lib.hid (HBw.out.trans (((Below.alloc0 wr _).mono HPW.out).trans ((Below.refl p3 _).grown h2 (by simp; have := HPW.out; omega) fun z hz => (World.ownsRow.lt HOx.out z hz).1)))
              clear h1 h2 h3 c0 c1 c2 c3 c4 c5 c6 c7 c8
              go_wp2_with fail
              go_roundg (nn - (k + 1))
              case measure => have := HGK2.out; omega
              case rel => exact ⟨k + 1, _, rfl, rfl, by omega, by rw [HF1.out]; simp; omega, HO9, HB9⟩
        · obtain rfl : k = nn := by omega
          have hlf : ¬ f1 < t := by rw [HF1.out]; intro h; have := pcN_lt.2 h; have := HNN.out; omega
          have hs : segP f t k = segP f t (pcN f t) := by rw [← HNN.out]
          rw [hs, ← HNN.out, ← HTK.out] at HO
          have HO9 := HO
          clear hs HO
          go_wp2_with fail
          go_roundg (mM - (j + 1))
          case measure => have := HGK.out; omega
          case rel => exact ⟨j + 1, _, rfl, rfl, by omega, by go_num, HO9, HB⟩
    · obtain rfl : j = mM := by omega
      have htk : M.take j = M := List.take_of_length_le (by have := HLN.out.1; omega)
      rw [htk] at HO
      have HOM := HO
      clear htk HO hlt
      go_wp2_with fail
      go_loopg [11, 17] mN (fun gk v11 v17 wr => ∃ (l : Nat) (v : Value), v = v11 ∧ gk = mN - l ∧ l ≤ mN ∧ v17 = .int .i64 (l : Int) ∧ Hid (OwnP wr p3 v (headR i b :: ((pcsR M).map (dataR F) ++ (N.take l).map holeR))) ∧ Hid (Below p3 w3 wr))
      case atStart => exact ⟨0, _, rfl, rfl, Nat.zero_le _, rfl, Lib.hid (by simpa using HOM.out), HB⟩
      case round =>
        obtain ⟨l, v, rfl, hgk, hl, rfl, HO, HB⟩ := hrel
        have HGK := Lib.hid hgk
        clear hgk
        by_cases hlt : l < mN
        · obtain ⟨br, or_, r, hra, hre, hbr, c0, c1⟩ := HRN.out.at_ (by rw [← HP3.out.1]; exact HB.out) hlt
          subst hra
          have hll : l < N.length := by have := HLN.out.2; omega
          obtain ⟨f, t⟩ := r
          simp only at c0 c1
          have HTK : Hid ((N.take (l + 1)).map holeR = (N.take l).map holeR ++ [holeR ⟨f, t⟩]) := Lib.hid (by
            rw [List.take_succ_eq_append_getElem hll]
            have : N[l] = ⟨f, t⟩ := by rw [hre]; simp [List.getD, hll]
            rw [this]
            simp)
          have HCN : Hid (∀ W, Below p3 w3 W → W.cell? ⟨br, or_ + l * 2, none⟩ = some (.int .i64 f) ∧ W.cell? ⟨br, or_ + l * 2 + 1, none⟩ = some (.int .i64 t)) := Lib.hid fun W hW => by
            obtain ⟨br2, or2, r2, hra2, hre2, hbr2, d0, d1⟩ := HRN.out.at_ (by rw [← HP3.out.1]; exact hW) hlt
            injection hra2 with h9
            injection h9 with h8 h7
            subst h8
            subst h7
            rw [← hre] at hre2
            subst hre2
            exact ⟨d0, d1⟩
          have HLL : Hid ((headR i b :: ((pcsR M).map (dataR F) ++ (N.take l).map holeR)).length ≤ 1000000) := Lib.hid (by
            have h1 := pcs_len (diffF_len F G) HM.out.1
            have h2 := HM.out.2.len (goneF_len F G)
            simp only [List.length_cons, List.length_append, List.length_map, List.length_take]
            omega)
          clear hre hbr hll c0 c1
          go_upto_region 19 with fail
          have H0 : Hid (Below p3 w3 wr.drew) := Lib.hid HB.out.drew
          have hli : (l : Int) < (mN : Int) := by omega
          refine wp_region_held_drew (S := fun W => W.cell? ⟨br, or_ + l * 2, none⟩ = some (.int .i64 f) ∧ W.cell? ⟨br, or_ + l * 2 + 1, none⟩ = some (.int .i64 t)) (by kernel_rfl) (HCN.out _ H0.out) (fun _ => ?_)
          refine wpAnyH_take (i := 0) (v := ?va0) rfl (by kernel_rfl) (by kernel_rfl) (by kernel_rfl) (fun _ _ _ h => h) (Or.inl ⟨by rfl, ?ha0⟩) (HCN.out _ H0.out) ?ra0
          case ha0 => (intro W hW; (try dsimp only at hW); go_simp; try with_reducible rfl)
          simp only [Act.put, List.getElem_toArray, List.getElem_cons_succ, List.getElem_cons_zero, List.setIfInBounds_toArray, List.set_cons_zero, List.set_cons_succ]
          refine wpAnyH_take (i := 1) (v := ?va1) rfl (by kernel_rfl) (by kernel_rfl) (by kernel_rfl) (fun _ _ _ h => h) (Or.inl ⟨by rfl, ?ha1⟩) (HCN.out _ H0.out) ?ra1
          case ha1 => (intro W hW; (try dsimp only at hW); go_simp; try with_reducible rfl)
          simp only [Act.put, List.getElem_toArray, List.getElem_cons_succ, List.getElem_cons_zero, List.setIfInBounds_toArray, List.set_cons_zero, List.set_cons_succ]
          refine wpAnyH_take (i := 2) (v := ?va2) rfl (by kernel_rfl) (by kernel_rfl) (by kernel_rfl) (fun _ _ _ h => h) (Or.inl ⟨by rfl, ?ha2⟩) (HCN.out _ H0.out) ?ra2
          case ha2 => (intro W hW; (try dsimp only at hW); go_simp; try with_reducible rfl)
          simp only [Act.put, List.getElem_toArray, List.getElem_cons_succ, List.getElem_cons_zero, List.setIfInBounds_toArray, List.set_cons_zero, List.set_cons_succ]
          refine wpAnyH_take (i := 3) (v := ?va3) rfl (by kernel_rfl) (by kernel_rfl) (by kernel_rfl) (fun _ _ _ h => h) (Or.inl ⟨by rfl, ?ha3⟩) (HCN.out _ H0.out) ?ra3
          case ha3 => (intro W hW; (try dsimp only at hW); go_simp; try with_reducible rfl)
          simp only [Act.put, List.getElem_toArray, List.getElem_cons_succ, List.getElem_cons_zero, List.setIfInBounds_toArray, List.set_cons_zero, List.set_cons_succ]
          refine wpAnyH_take (i := 4) (v := ?va4) rfl (by kernel_rfl) (by kernel_rfl) (by kernel_rfl) (fun _ _ _ h => h) (Or.inl ⟨by rfl, ?ha4⟩) (HCN.out _ H0.out) ?ra4
          case ha4 => (intro W hW; (try dsimp only at hW); go_simp; try with_reducible rfl)
          simp only [Act.put, List.getElem_toArray, List.getElem_cons_succ, List.getElem_cons_zero, List.setIfInBounds_toArray, List.set_cons_zero, List.set_cons_succ]
          refine wpAnyH_take (i := 5) (v := ?va5) rfl (by kernel_rfl) (by kernel_rfl) (by kernel_rfl) (fun _ _ _ h => h) (Or.inl ⟨by rfl, ?ha5⟩) (HCN.out _ H0.out) ?ra5
          case ha5 => (intro W hW; (try dsimp only at hW); go_simp; try with_reducible rfl)
          simp only [Act.put, List.getElem_toArray, List.getElem_cons_succ, List.getElem_cons_zero, List.setIfInBounds_toArray, List.set_cons_zero, List.set_cons_succ]
          refine wpAnyH_take (i := 6) (v := ?va6) rfl (by kernel_rfl) (by kernel_rfl) (by kernel_rfl) (fun _ _ _ h => h) (Or.inl ⟨by rfl, ?ha6⟩) (HCN.out _ H0.out) ?ra6
          case ha6 => (intro W hW; (try dsimp only at hW); go_simp; try with_reducible rfl)
          simp only [Act.put, List.getElem_toArray, List.getElem_cons_succ, List.getElem_cons_zero, List.setIfInBounds_toArray, List.set_cons_zero, List.set_cons_succ]
          refine wpAnyH_take (i := 7) (v := ?va7) rfl (by kernel_rfl) (by kernel_rfl) (by kernel_rfl) (fun _ _ _ h => h) (Or.inl ⟨by rfl, ?ha7⟩) (HCN.out _ H0.out) ?ra7
          case ha7 => (intro W hW; (try dsimp only at hW); go_simp; try with_reducible rfl)
          simp only [Act.put, List.getElem_toArray, List.getElem_cons_succ, List.getElem_cons_zero, List.setIfInBounds_toArray, List.set_cons_zero, List.set_cons_succ]
          refine wpAnyH_take (i := 8) (v := ?va8) rfl (by kernel_rfl) (by kernel_rfl) (by kernel_rfl) (fun _ _ _ h => h) (Or.inl ⟨by rfl, ?ha8⟩) (HCN.out _ H0.out) ?ra8
          case ha8 => (intro W hW; (try dsimp only at hW); go_simp; try with_reducible rfl)
          simp only [Act.put, List.getElem_toArray, List.getElem_cons_succ, List.getElem_cons_zero, List.setIfInBounds_toArray, List.set_cons_zero, List.set_cons_succ]
          refine wpAnyH_take (i := 9) (v := ?va9) rfl (by kernel_rfl) (by kernel_rfl) (by kernel_rfl) (fun _ _ _ h => h) (Or.inl ⟨by rfl, ?ha9⟩) (HCN.out _ H0.out) ?ra9
          case ha9 => (intro W hW; (try dsimp only at hW); go_simp; try with_reducible rfl)
          simp only [Act.put, List.getElem_toArray, List.getElem_cons_succ, List.getElem_cons_zero, List.setIfInBounds_toArray, List.set_cons_zero, List.set_cons_succ]
          refine wpAnyH_take (i := 10) (v := ?va10) rfl (by kernel_rfl) (by kernel_rfl) (by kernel_rfl) (fun _ _ _ h => h) (Or.inl ⟨by rfl, ?ha10⟩) (HCN.out _ H0.out) ?ra10
          case ha10 => (intro W hW; (try dsimp only at hW); go_simp; try with_reducible rfl)
          simp only [Act.put, List.getElem_toArray, List.getElem_cons_succ, List.getElem_cons_zero, List.setIfInBounds_toArray, List.set_cons_zero, List.set_cons_succ]
          refine wpAnyH_take (i := 11) (v := ?va11) rfl (by kernel_rfl) (by kernel_rfl) (by kernel_rfl) (fun _ _ _ h => h) (Or.inl ⟨by rfl, ?ha11⟩) (HCN.out _ H0.out) ?ra11
          case ha11 => (intro W hW; (try dsimp only at hW); go_simp; try with_reducible rfl)
          simp only [Act.put, List.getElem_toArray, List.getElem_cons_succ, List.getElem_cons_zero, List.setIfInBounds_toArray, List.set_cons_zero, List.set_cons_succ]
          have HPW : Hid (p3 ≤ wr.drew.heap.size) := Lib.hid (by have := H0.out.size; have := HP3.out.1; omega)
          have HO0 : Hid (OwnP wr.drew p3 v (headR i b :: ((pcsR M).map (dataR F) ++ (N.take l).map holeR))) := Lib.hid (HO.out.kept fun z hz => rfl)
          obtain ⟨W0, hW0⟩ : ∃ W0, W0 = wr.drew := ⟨_, rfl⟩
          rw [← hW0] at H0 HPW HO0 ⊢
          clear hW0
          have H1 : Hid (Below p3 w3 (W0.alloc (.cells #[.int .u8 3, .int .i64 0, .int .i64 0, .int .i64 f, .int .i64 t, .string ⟨#[]⟩, .int .i64 0, .int .u64 0, .int .u64 0] 50))) := Lib.hid (H0.out.trans ((Below.alloc0 W0 _).mono HPW.out))
          have HOx : Hid (OwnP (W0.alloc (.cells #[.int .u8 3, .int .i64 0, .int .i64 0, .int .i64 f, .int .i64 t, .string ⟨#[]⟩, .int .i64 0, .int .u64 0, .int .u64 0] 50)) p3 v (headR i b :: ((pcsR M).map (dataR F) ++ (N.take l).map holeR))) := Lib.hid (HO0.out.kept fun z hz => heap_alloc_old _ _ (HO0.out.lt hz))
          have HPX := Lib.hid (pr_new W0 (holeR ⟨f, t⟩))
          refine wpAnyH_ready (rs := [12]) (by kernel_rfl) (by simp) ?_
          refine AllReadyH.cons rfl (fun K hK => ?_) AllReadyH.nil
          refine ready_made (w' := W0.alloc (.cells #[.int .u8 3, .int .i64 0, .int .i64 0, .int .i64 f, .int .i64 t, .string ⟨#[]⟩, .int .i64 0, .int .u64 0, .int .u64 0] 50)) (v := .slice (some ⟨W0.heap.size, 0, none⟩) 1 1) (by rfl) (by (go_simp; try with_reducible rfl)) ?_
          refine hK.out _ _ (HCN.out _ H1.out) (fun _ => ?_)
          clear hK K
          simp only [Act.put, List.getElem_toArray, List.getElem_cons_succ, List.getElem_cons_zero, List.setIfInBounds_toArray, List.set_cons_zero, List.set_cons_succ]
          refine wpAnyH_ready (rs := [13]) (by kernel_rfl) (by simp) ?_
          refine AllReadyH.cons rfl (fun K hK => ?_) AllReadyH.nil
          refine ready_append_p (by rfl) _ _ (by rfl) v (by rfl) ⟨W0.heap.size, 0, none⟩ 1 (by rfl) p3 _ HOx.out (by simp; have := HPW.out; omega) (holeR ⟨f, t⟩) HPX.out HLL.out ?_
          intro v' w' h1 h2
          have HO9 : Hid (OwnP w' p3 v' (headR i b :: ((pcsR M).map (dataR F) ++ (N.take (l + 1)).map holeR))) := Lib.hid (by
            rw [HTK.out]
            simpa using h1)
          have HB9 : Hid (Below p3 w3 w') := Lib.hid (H1.out.trans ((Below.refl p3 _).grown h2 (by simp; have := HPW.out; omega) fun z hz => (World.ownsRow.lt HOx.out z hz).1))
          clear h1 h2
          refine hK.out _ _ (HCN.out _ HB9.out) (fun _ => ?_)
          clear hK K
          simp only [Act.put, List.getElem_toArray, List.getElem_cons_succ, List.getElem_cons_zero, List.setIfInBounds_toArray, List.set_cons_zero, List.set_cons_succ]
          refine wpAnyH_take (i := 14) (v := ?va14) rfl (by kernel_rfl) (by kernel_rfl) (by kernel_rfl) (fun _ _ _ h => h) (Or.inl ⟨by rfl, ?ha14⟩) (HCN.out _ HB9.out) ?ra14
          case ha14 => (intro W hW; (try dsimp only at hW); go_simp; try with_reducible rfl)
          simp only [Act.put, List.getElem_toArray, List.getElem_cons_succ, List.getElem_cons_zero, List.setIfInBounds_toArray, List.set_cons_zero, List.set_cons_succ]
          refine wpAnyH_done (by kernel_rfl) ?_ _
          go_wp2_with fail
          go_roundg (mN - (l + 1))
          case measure => have := HGK.out; omega
          case rel => exact ⟨l + 1, _, rfl, rfl, by omega, by go_num, HO9, HB9⟩
        · obtain rfl : l = mN := by omega
          have htk : N.take l = N := List.take_of_length_le (by have := HLN.out.2; omega)
          rw [htk] at HO
          have HON := HO
          clear htk HO hlt
          go_wp2_with fail
          go_ret
          have hp2 := HP3.out.2
          rw [← HP.out]
          refine ⟨M, N, _, HM.out.1, HM.out.2, rfl, HON.out.mono (by omega), ?_⟩
          have h23 := HB2.out.trans (HB3.out.mono (by have := HS2.out; omega))
          exact h23.trans (HB.out.mono (by omega))

end Go.Proofs.YtaijldcfoaeogaaGreat

/- The contract of the document's own Number (revenantref01), over any world. -/
namespace Go.Proofs.YtaijldcfoaeogaaGreat
open Go.RowKit
set_option maxRecDepth 100000

set_option maxHeartbeats 400000 in
set_option maxRecDepth 100000 in
theorem refNum_any (N : Nat) : ∀ (x : Int) (w : World), x = N → N ≤ 18446744073709551615 → Calls Tryz.prog 48 #[.int .u64 x] w fun e w' => ∃ g m c, e = .returned (.slice (some ⟨g, 0, none⟩) m c) ∧ m = (vEnc N).length ∧ Own w' w.heap.size (.slice (some ⟨g, 0, none⟩) m c) (vEnc N) ∧ Below w.heap.size w w' := by
  induction N using Nat.strongRecOn with
  | _ N ih =>
    rintro x w rfl hN
    obtain ⟨i0, hi0, hz0, hz1, hz2⟩ := info_parts info5
    have h10 : (vEnc (N / 128)).length ≤ 10 := vEnc_len10 (by omega)
    have HN := Lib.hid hN
    have HI := Lib.hid ih
    clear hN ih
    by_cases hlt : N < 128
    · have hlt' : (N : Int) < 128 := by omega
      go_enter Tryz.func48, Tryz.ntmps48
      go_wp2
      go_ret
      rw [vEnc_small hlt]
      exact ⟨_, _, _, rfl, rfl, own_one (by omega) (heap_alloc_new w _), Below.alloc0 _ _⟩
    · have hlt' : 128 ≤ (N : Int) := by omega
      go_enter Tryz.func48, Tryz.ntmps48
      go_wp2_with fail
      refine (HI.out (N / 128) (by omega) _ _ (u64_quo HN.out) (by have := HN.out; omega)).mono ?_
      rintro e w1 ⟨g, m, c, rfl, hm, ho, hb⟩
      have HM := Lib.hid hm
      have HO := Lib.hid ho
      have HB := Lib.hid hb
      have hm10 : m ≤ 10 := by omega
      have HD : Hid (w1.heap[w.heap.size]? = some (.cells #[.int .u8 ((N % 128 + 128 : Nat) : Int)] 5 (0, 0))) := by
        rw [show Hid (w1.heap[w.heap.size]? = some (.cells #[.int .u8 ((N % 128 + 128 : Nat) : Int)] 5 (0, 0))) = (w1.heap[w.heap.size]? = some (.cells #[.int .u8 ((N % 128 + 128 : Nat) : Int)] 5 (0, 0))) from rfl]
        rw [hb.block w.heap.size (by simp), heap_alloc_new]
        congr 3
      have HP := Lib.hid (own_one (x := N % 128 + 128) (by omega) HD.out)
      clear hm ho hb
      go_wp2_with (at_builtin; refine wpList_append_own_at _ rfl (.tmp 12) (.tmp 15) 31 rfl w.heap.size 5 i0 _ 1 1 Tryz.underlying31 hi0 hz0 hz1 hz2 rfl (by omega) (.slice (some ⟨w.heap.size, 0, none⟩) 1 1) 1 (cB [N % 128 + 128]) rfl HP.out.2 ⟨g, 0, none⟩ m c (cB (vEnc (N / 128))) rfl ?hlen ?hcells (cB_one _) ?h63 ?hby ?hbase ?next)
      case hlen => rw [cB_length, HM.out]; omega
      case hcells => exact rd_cells (HO.out.asSlice1 HM.out.symm)
      case h63 => unfold maxLen; omega
      case hby => omega
      case hbase => have := HB.out.size; simp at this; omega
      case next =>
        intro v' w' hown hg _ _
        have HO' : Hid (Own w' w.heap.size v' (vEnc N)) := by
          refine ⟨vEnc_byte N, ?_⟩
          rw [vEnc_large hlt]
          have e : ((N % 128 + 128) :: vEnc (N / 128)).length = 1 + m := by simp [HM.out]; omega
          rw [e]
          have e2 : cB ((N % 128 + 128) :: vEnc (N / 128)) = cB [N % 128 + 128] ++ cB (vEnc (N / 128)) := by simp [cB]
          rw [e2]; exact hown
        have HB' : Hid (Below w.heap.size w w') := ((Below.alloc0 w _).trans (HB.out.mono (by simp))).grown hg (by have := HB.out.size; simp at this; omega) (by simp [Value.ownBlock])
        obtain ⟨g', c', hv⟩ := HO'.out.held (vEnc_pos N)
        rw [hv]
        rw [hv] at HO'
        clear hown hg hv
        go_wp2
        go_ret
        exact ⟨_, _, _, rfl, rfl, HO'.out, HB'.out⟩
end Go.Proofs.YtaijldcfoaeogaaGreat

/- A record's bytes: the document's own Text and Bytes, over any world. -/
namespace Go.Proofs.YtaijldcfoaeogaaGreat
open Go.RowKit
set_option maxRecDepth 100000
set_option linter.unusedSimpArgs false

theorem strCells_strBR {l : List Nat} (h : ∀ x ∈ l, x < 256) : Lib.strCells (strB l) = cB l := by
  unfold Lib.strCells strB cB
  rw [strOfNums_data]
  simp only [List.map_map]
  refine List.map_congr_left fun x hx => ?_
  have := h x hx
  simp only [Function.comp]
  congr 1
  simp
  omega

/-- Bytes of a string behind a row of the call's own. -/
theorem wpList_append_strR {w : World} {ops : Array Oper} {rest : List Oper} {o : Oper} {a : Act} {Q : Exit → Act → World → Prop} (hgd : o.guard = none) (s x : Operand)
    (hop : o.op = .call { callee := .builtin .append, args := #[s, x], argTypes := #[31, 9] }) (v : Value) (hs : a.eval s = v) (l : List Nat) (hlb : ∀ x ∈ l, x < 256) (hx : a.eval x = .string (strB l))
    (base : Nat) (l0 : List Nat) (ho : Own w base v l0) (hbase : base ≤ w.heap.size) (hn : l0.length + l.length ≤ 3000000)
    (h : ∀ v' w', Own w' base v' (l0 ++ l) → Below base w w' → wpList Tryz.prog ops Q rest (a.put o.dst v') w') :
    wpList Tryz.prog ops Q (o :: rest) a w := by
  obtain ⟨i0, hi0, hz0, hz1, hz2⟩ := info_parts info5
  refine Lib.wpList_append_own_string w hgd s x 31 9 hop base 5 i0 Tryz.underlying31 Tryz.underlying9 hi0 hz0 hz1 hz2 v l0.length (cB l0) hs ho.2 (strB l) hx (by rw [strB_size]; unfold maxLen; omega) (by rw [strB_size]; omega) hbase ?_
  intro v' w' h1 h2 _
  rw [strB_size, strCells_strBR hlb, ← cB_append, ← List.length_append] at h1
  refine h v' w' ⟨fun y hy => ?_, h1⟩ ((Below.refl base w).grown h2 hbase fun k hk => (World.ownsRow.lt ho.2 k hk).1)
  rcases List.mem_append.1 hy with hy | hy
  · exact ho.1 y hy
  · exact hlb y hy

set_option maxHeartbeats 1000000 in
theorem rrText_any (a : Option Addr) (n c : Nat) (l : List Nat) (w : World) (h : Rd w a n l) (hn : n ≤ 1000000) :
    Calls Tryz.prog 49 #[.slice a n c] w fun e w' => ∃ v, e = .returned v ∧ Own w' w.heap.size v (tEnc l) ∧ Below w.heap.size w w' := by
  have HR := Lib.hid h
  have HN := Lib.hid (refNum_any n (n : Int) w rfl (by omega))
  have h10 : (vEnc n).length ≤ 10 := vEnc_len10 (by omega)
  have H10 := Lib.hid h10
  clear h h10
  go_enter Tryz.func49, Tryz.ntmps49
  go_wp2_with fail
  refine HN.out.mono ?_
  rintro e w2 ⟨g, m, c', rfl, hm, ho, hb⟩
  have HO := Lib.hid ho
  have HB := Lib.hid hb
  have HM := Lib.hid hm
  clear ho hb hm
  go_wp2_with (at_builtin; refine wpList_append_rd rfl (.tmp 6) (.tmp 7) rfl _ rfl a n c rfl w.heap.size _ HO.out HB.out.size l (HR.out.later HB.out) (by have := H10.out; omega) ?_; intro v' w' ho2 hb2)
  have HO2 := Lib.hid ho2
  have HB2 := Lib.hid (HB.out.trans hb2)
  clear ho2 hb2
  go_wp2
  go_ret
  refine ⟨_, rfl, ?_, HB2.out⟩
  have := HO2.out
  unfold tEnc
  rw [HR.out.1]
  exact this

set_option maxHeartbeats 4000000 in
set_option maxRecDepth 100000 in
theorem rbytes_head (i b : Nat) (w : World) (hi : i ≤ 1099511627776) (hb : b ≤ 1099511627776) (hok : Rec.ok ⟨1, i, b, 0, 0, [], 0, 0, 0⟩ = true) :
    Calls Tryz.prog 28 #[pcV ⟨1, i, b, 0, 0, [], 0, 0, 0⟩] w fun e w' => ∃ v, e = .returned v ∧ Hid (Own w' w.heap.size v (Rec.bytes ⟨1, i, b, 0, 0, [], 0, 0, 0⟩) ∧ Below w.heap.size w w') := by
  obtain ⟨q, hq⟩ : ∃ q, q = w.heap.size := ⟨_, rfl⟩
  obtain ⟨w1, hw1⟩ : ∃ w1, w1 = (w.alloc (.cells #[.int .u8 1, .int .i64 (i : Int), .int .i64 (b : Int), .int .i64 0, .int .i64 0, .string ⟨#[]⟩, .int .i64 0, .int .u64 0, .int .u64 0] 50)).alloc (.cells #[.int .u8 1] 5) := ⟨_, rfl⟩
  have HW : Hid ((w.alloc (.cells #[.int .u8 1, .int .i64 (i : Int), .int .i64 (b : Int), .int .i64 0, .int .i64 0, .string ⟨#[]⟩, .int .i64 0, .int .u64 0, .int .u64 0] 50)).alloc (.cells #[.int .u8 1] 5) = w1 ∧ w.heap.size = q) := Lib.hid ⟨hw1.symm, hq.symm⟩
  have hB1 : Below w.heap.size w w1 := by rw [hw1]; exact ((Below.refl _ _).alloc (Nat.le_refl _) _).alloc (by simp) _
  have hsz : w1.heap.size = q + 2 := by rw [hw1, hq]; simp
  have hblk : w1.heap[q]? = some (.cells #[.int .u8 1, .int .i64 (i : Int), .int .i64 (b : Int), .int .i64 0, .int .i64 0, .string ⟨#[]⟩, .int .i64 0, .int .u64 0, .int .u64 0] 50 (0, 0)) := by rw [hw1, hq]; exact (heap_alloc_old _ _ (by simp)).trans (heap_alloc_new w _)
  have hone : w1.heap[q + 1]? = some (.cells #[.int .u8 ((1 : Nat) : Int)] 5 (0, 0)) := by
    rw [hw1, hq]
    have e := heap_alloc_new (w.alloc (.cells #[.int .u8 1, .int .i64 (i : Int), .int .i64 (b : Int), .int .i64 0, .int .i64 0, .string ⟨#[]⟩, .int .i64 0, .int .u64 0, .int .u64 0] 50)) (.cells #[.int .u8 1] 5)
    rw [World.size_alloc] at e
    exact e
  have HK : Hid (∀ W, Below (q + 1) w1 W → W.heap[q]? = some (.cells #[.int .u8 1, .int .i64 (i : Int), .int .i64 (b : Int), .int .i64 0, .int .i64 0, .string ⟨#[]⟩, .int .i64 0, .int .u64 0, .int .u64 0] 50 (0, 0))) := Lib.hid fun W hW => (hW.block q (by omega)).trans hblk
  have HO0 : Hid (Own w1 (q + 1) (.slice (some ⟨q + 1, 0, none⟩) 1 1) [1]) := Lib.hid (own_one (by omega) hone)
  have HBW := Lib.hid hB1
  have H0 : Hid (Below (q + 1) w1 w1) := Lib.hid (Below.refl _ _)
  have HSZ := Lib.hid hsz
  have hui := wrap_u64 (m := i) (by omega)
  have hub := wrap_u64 (m := b) (by omega)
  have HOKK : Hid (Rec.ok ⟨1, i, b, 0, 0, [], 0, 0, 0⟩ = true) := Lib.hid hok
  clear hw1 hq hB1 hsz hblk hone
  simp only [pcV]
  go_enter Tryz.func28, Tryz.ntmps28
  go_upto_region 2 with fail
  change Code.wp _ _ _ _ ((w.alloc (.cells #[.int .u8 1, .int .i64 (i : Int), .int .i64 (b : Int), .int .i64 0, .int .i64 0, .string ⟨#[]⟩, .int .i64 0, .int .u64 0, .int .u64 0] 50)).alloc (.cells #[.int .u8 1] 5))
  rw [HW.out.1]
  try rw [HW.out.2]
  obtain ⟨c0, c1, c2, c3, c4, c5, c6, c7, c8⟩ := rec_cells (HK.out w1 H0.out)
  have hn1 := refNum_any i (i : Int) w1 rfl (by omega)
  have HN1 := Lib.hid hn1
  have l101 : (vEnc i).length ≤ 10 := vEnc_len10 (by omega)
  have HL1 := Lib.hid l101
  clear hn1 l101
  go_wp2_with fail
  refine HN1.out.mono ?_
  rintro e u1 ⟨g1, m1, k1, rfl, hm1, ho1, hb1⟩
  have HOa1 := Lib.hid ho1
  have HM1 := Lib.hid hm1
  have HBa1 : Hid (Below (q + 1) w1 u1) := Lib.hid (H0.out.trans (hb1.mono (by have := H0.out.size; have := HSZ.out; omega)))
  have HRow1 : Hid (Own u1 (q + 1) (.slice (some ⟨q + 1, 0, none⟩) 1 1) [1]) := Lib.hid (HO0.out.kept hb1)
  clear hm1 ho1 hb1 c0 c1 c2 c3 c4 c5 c6 c7 c8
  go_wp2_with (at_builtin; refine wpList_append_rd rfl (.tmp 11) (.tmp 15) rfl (.slice (some ⟨q + 1, 0, none⟩) 1 1) rfl (some ⟨g1, 0, none⟩) m1 k1 rfl (q + 1) _ HRow1.out (by have := HBa1.out.size; have := HSZ.out; omega) (vEnc i) (HOa1.out.asSlice1 HM1.out.symm) (by have := HM1.out; have := HL1.out;  simp; omega) ?_; intro v1 x1 hv1 hx1; have HB1 : Hid (Below (q + 1) w1 x1) := Lib.hid (HBa1.out.trans hx1); have HO1 := Lib.hid hv1; obtain ⟨c0, c1, c2, c3, c4, c5, c6, c7, c8⟩ := rec_cells (HK.out x1 HB1.out); clear hv1 hx1)
  have hn2 := refNum_any b (b : Int) x1 rfl (by omega)
  have HN2 := Lib.hid hn2
  have l102 : (vEnc b).length ≤ 10 := vEnc_len10 (by omega)
  have HL2 := Lib.hid l102
  clear hn2 l102
  go_wp2_with fail
  refine HN2.out.mono ?_
  rintro e u2 ⟨g2, m2, k2, rfl, hm2, ho2, hb2⟩
  have HOa2 := Lib.hid ho2
  have HM2 := Lib.hid hm2
  have HBa2 : Hid (Below (q + 1) w1 u2) := Lib.hid (HB1.out.trans (hb2.mono (by have := HB1.out.size; have := HSZ.out; omega)))
  have HRow2 : Hid (Own u2 (q + 1) v1 ([1] ++ vEnc i)) := Lib.hid (HO1.out.kept hb2)
  clear hm2 ho2 hb2 c0 c1 c2 c3 c4 c5 c6 c7 c8
  go_wp2_with (at_builtin; refine wpList_append_rd rfl (.tmp 17) (.tmp 21) rfl v1 rfl (some ⟨g2, 0, none⟩) m2 k2 rfl (q + 1) _ HRow2.out (by have := HBa2.out.size; have := HSZ.out; omega) (vEnc b) (HOa2.out.asSlice1 HM2.out.symm) (by have := HM2.out; have := HL2.out; have := HL1.out; simp; omega) ?_; intro v2 x2 hv2 hx2; have HB2 : Hid (Below (q + 1) w1 x2) := Lib.hid (HBa2.out.trans hx2); have HO2 := Lib.hid hv2; obtain ⟨c0, c1, c2, c3, c4, c5, c6, c7, c8⟩ := rec_cells (HK.out x2 HB2.out); clear hv2 hx2)
  have hpl : (([1] ++ vEnc i) ++ vEnc b) = Rec.plain ⟨1, i, b, 0, 0, [], 0, 0, 0⟩ := by simp [Rec.plain]
  have HPL : Hid (1 ≤ (Rec.plain ⟨1, i, b, 0, 0, [], 0, 0, 0⟩).length ∧ (Rec.plain ⟨1, i, b, 0, 0, [], 0, 0, 0⟩).length ≤ 139) := Lib.hid (Rec.plain_len HOKK.out)
  obtain ⟨P, hP⟩ : ∃ P, P = Rec.plain ⟨1, i, b, 0, 0, [], 0, 0, 0⟩ := ⟨_, rfl⟩
  have hby : Rec.bytes ⟨1, i, b, 0, 0, [], 0, 0, 0⟩ = tEnc (P ++ sumB (cSum P)) := by rw [hP]; rfl
  have HBYE := Lib.hid hby
  have hOP : Own x2 (q + 1) v2 P := by rw [hP, ← hpl]; exact HO2.out
  rw [← hP] at HPL
  obtain ⟨aP, cP, hvP, hrP, _⟩ := hOP.sl
  have HRP := Lib.hid hrP
  clear hpl hP hby hOP hrP
  have hSe := refSeal_any aP P.length cP P x2 HRP.out (by have := HPL.out; omega)
  have HSE := Lib.hid hSe
  clear hSe
  subst hvP
  go_wp2_with fail
  refine HSE.out.mono ?_
  rintro e y1 ⟨vS, rfl, hoS, hbS⟩
  obtain ⟨aS, cS, rfl, hrS, _⟩ := hoS.sl
  have HRS := Lib.hid hrS
  have HBS : Hid (Below (q + 1) w1 y1) := Lib.hid (HB2.out.trans (hbS.mono (by have := HB2.out.size; have := HSZ.out; omega)))
  have hlS : (P ++ sumB (cSum P)).length ≤ 143 := by have := HPL.out; simp [sumB]; omega
  obtain ⟨Z, hZ⟩ : ∃ Z, Z = P ++ sumB (cSum P) := ⟨_, rfl⟩
  rw [← hZ] at HRS hlS HBYE ⊢
  have HTX := Lib.hid (rrText_any aS Z.length cS Z y1 HRS.out (by omega))
  clear hoS hrS hbS hZ hlS HSE
  go_wp2_with fail
  refine HTX.out.mono ?_
  rintro e y2 ⟨vT, rfl, hoT, hbT⟩
  have HFI : Hid (Own y2 w.heap.size vT (Rec.bytes ⟨1, i, b, 0, 0, [], 0, 0, 0⟩) ∧ Below w.heap.size w y2) := Lib.hid (by
    have h1 := HBS.out.size
    have h2 := HSZ.out
    have h3 := HW.out.2
    rw [HBYE.out]
    exact ⟨hoT.mono (by omega), HBW.out.trans ((HBS.out.mono (by omega)).trans (hbT.mono (by omega)))⟩)
  clear hoT hbT
  go_wp2
  go_ret
  exact ⟨_, rfl, HFI.out⟩

set_option maxHeartbeats 4000000 in
set_option maxRecDepth 100000 in
theorem rbytes_hole (f t : Nat) (w : World) (hi : f ≤ 256) (hb : t ≤ 256) (hok : Rec.ok ⟨3, 0, 0, f, t, [], 0, 0, 0⟩ = true) :
    Calls Tryz.prog 28 #[pcV ⟨3, 0, 0, f, t, [], 0, 0, 0⟩] w fun e w' => ∃ v, e = .returned v ∧ Hid (Own w' w.heap.size v (Rec.bytes ⟨3, 0, 0, f, t, [], 0, 0, 0⟩) ∧ Below w.heap.size w w') := by
  obtain ⟨q, hq⟩ : ∃ q, q = w.heap.size := ⟨_, rfl⟩
  obtain ⟨w1, hw1⟩ : ∃ w1, w1 = (w.alloc (.cells #[.int .u8 3, .int .i64 0, .int .i64 0, .int .i64 (f : Int), .int .i64 (t : Int), .string ⟨#[]⟩, .int .i64 0, .int .u64 0, .int .u64 0] 50)).alloc (.cells #[.int .u8 3] 5) := ⟨_, rfl⟩
  have HW : Hid ((w.alloc (.cells #[.int .u8 3, .int .i64 0, .int .i64 0, .int .i64 (f : Int), .int .i64 (t : Int), .string ⟨#[]⟩, .int .i64 0, .int .u64 0, .int .u64 0] 50)).alloc (.cells #[.int .u8 3] 5) = w1 ∧ w.heap.size = q) := Lib.hid ⟨hw1.symm, hq.symm⟩
  have hB1 : Below w.heap.size w w1 := by rw [hw1]; exact ((Below.refl _ _).alloc (Nat.le_refl _) _).alloc (by simp) _
  have hsz : w1.heap.size = q + 2 := by rw [hw1, hq]; simp
  have hblk : w1.heap[q]? = some (.cells #[.int .u8 3, .int .i64 0, .int .i64 0, .int .i64 (f : Int), .int .i64 (t : Int), .string ⟨#[]⟩, .int .i64 0, .int .u64 0, .int .u64 0] 50 (0, 0)) := by rw [hw1, hq]; exact (heap_alloc_old _ _ (by simp)).trans (heap_alloc_new w _)
  have hone : w1.heap[q + 1]? = some (.cells #[.int .u8 ((3 : Nat) : Int)] 5 (0, 0)) := by
    rw [hw1, hq]
    have e := heap_alloc_new (w.alloc (.cells #[.int .u8 3, .int .i64 0, .int .i64 0, .int .i64 (f : Int), .int .i64 (t : Int), .string ⟨#[]⟩, .int .i64 0, .int .u64 0, .int .u64 0] 50)) (.cells #[.int .u8 3] 5)
    rw [World.size_alloc] at e
    exact e
  have HK : Hid (∀ W, Below (q + 1) w1 W → W.heap[q]? = some (.cells #[.int .u8 3, .int .i64 0, .int .i64 0, .int .i64 (f : Int), .int .i64 (t : Int), .string ⟨#[]⟩, .int .i64 0, .int .u64 0, .int .u64 0] 50 (0, 0))) := Lib.hid fun W hW => (hW.block q (by omega)).trans hblk
  have HO0 : Hid (Own w1 (q + 1) (.slice (some ⟨q + 1, 0, none⟩) 1 1) [3]) := Lib.hid (own_one (by omega) hone)
  have HBW := Lib.hid hB1
  have H0 : Hid (Below (q + 1) w1 w1) := Lib.hid (Below.refl _ _)
  have HSZ := Lib.hid hsz
  have huf := wrap_u64 (m := f) (by omega)
  have hut := wrap_u64 (m := t) (by omega)
  have HOKK : Hid (Rec.ok ⟨3, 0, 0, f, t, [], 0, 0, 0⟩ = true) := Lib.hid hok
  clear hw1 hq hB1 hsz hblk hone
  simp only [pcV]
  go_enter Tryz.func28, Tryz.ntmps28
  go_upto_region 2 with fail
  change Code.wp _ _ _ _ ((w.alloc (.cells #[.int .u8 3, .int .i64 0, .int .i64 0, .int .i64 (f : Int), .int .i64 (t : Int), .string ⟨#[]⟩, .int .i64 0, .int .u64 0, .int .u64 0] 50)).alloc (.cells #[.int .u8 3] 5))
  rw [HW.out.1]
  try rw [HW.out.2]
  obtain ⟨c0, c1, c2, c3, c4, c5, c6, c7, c8⟩ := rec_cells (HK.out w1 H0.out)
  have hn1 := refNum_any f (f : Int) w1 rfl (by omega)
  have HN1 := Lib.hid hn1
  have l101 : (vEnc f).length ≤ 10 := vEnc_len10 (by omega)
  have HL1 := Lib.hid l101
  clear hn1 l101
  go_wp2_with fail
  refine HN1.out.mono ?_
  rintro e u1 ⟨g1, m1, k1, rfl, hm1, ho1, hb1⟩
  have HOa1 := Lib.hid ho1
  have HM1 := Lib.hid hm1
  have HBa1 : Hid (Below (q + 1) w1 u1) := Lib.hid (H0.out.trans (hb1.mono (by have := H0.out.size; have := HSZ.out; omega)))
  have HRow1 : Hid (Own u1 (q + 1) (.slice (some ⟨q + 1, 0, none⟩) 1 1) [3]) := Lib.hid (HO0.out.kept hb1)
  clear hm1 ho1 hb1 c0 c1 c2 c3 c4 c5 c6 c7 c8
  go_wp2_with (at_builtin; refine wpList_append_rd rfl (.tmp 37) (.tmp 41) rfl (.slice (some ⟨q + 1, 0, none⟩) 1 1) rfl (some ⟨g1, 0, none⟩) m1 k1 rfl (q + 1) _ HRow1.out (by have := HBa1.out.size; have := HSZ.out; omega) (vEnc f) (HOa1.out.asSlice1 HM1.out.symm) (by have := HM1.out; have := HL1.out;  simp; omega) ?_; intro v1 x1 hv1 hx1; have HB1 : Hid (Below (q + 1) w1 x1) := Lib.hid (HBa1.out.trans hx1); have HO1 := Lib.hid hv1; obtain ⟨c0, c1, c2, c3, c4, c5, c6, c7, c8⟩ := rec_cells (HK.out x1 HB1.out); clear hv1 hx1)
  have hn2 := refNum_any t (t : Int) x1 rfl (by omega)
  have HN2 := Lib.hid hn2
  have l102 : (vEnc t).length ≤ 10 := vEnc_len10 (by omega)
  have HL2 := Lib.hid l102
  clear hn2 l102
  go_wp2_with fail
  refine HN2.out.mono ?_
  rintro e u2 ⟨g2, m2, k2, rfl, hm2, ho2, hb2⟩
  have HOa2 := Lib.hid ho2
  have HM2 := Lib.hid hm2
  have HBa2 : Hid (Below (q + 1) w1 u2) := Lib.hid (HB1.out.trans (hb2.mono (by have := HB1.out.size; have := HSZ.out; omega)))
  have HRow2 : Hid (Own u2 (q + 1) v1 ([3] ++ vEnc f)) := Lib.hid (HO1.out.kept hb2)
  clear hm2 ho2 hb2 c0 c1 c2 c3 c4 c5 c6 c7 c8
  go_wp2_with (at_builtin; refine wpList_append_rd rfl (.tmp 43) (.tmp 47) rfl v1 rfl (some ⟨g2, 0, none⟩) m2 k2 rfl (q + 1) _ HRow2.out (by have := HBa2.out.size; have := HSZ.out; omega) (vEnc t) (HOa2.out.asSlice1 HM2.out.symm) (by have := HM2.out; have := HL2.out; have := HL1.out; simp; omega) ?_; intro v2 x2 hv2 hx2; have HB2 : Hid (Below (q + 1) w1 x2) := Lib.hid (HBa2.out.trans hx2); have HO2 := Lib.hid hv2; obtain ⟨c0, c1, c2, c3, c4, c5, c6, c7, c8⟩ := rec_cells (HK.out x2 HB2.out); clear hv2 hx2)
  have hpl : (([3] ++ vEnc f) ++ vEnc t) = Rec.plain ⟨3, 0, 0, f, t, [], 0, 0, 0⟩ := by simp [Rec.plain]
  have HPL : Hid (1 ≤ (Rec.plain ⟨3, 0, 0, f, t, [], 0, 0, 0⟩).length ∧ (Rec.plain ⟨3, 0, 0, f, t, [], 0, 0, 0⟩).length ≤ 139) := Lib.hid (Rec.plain_len HOKK.out)
  obtain ⟨P, hP⟩ : ∃ P, P = Rec.plain ⟨3, 0, 0, f, t, [], 0, 0, 0⟩ := ⟨_, rfl⟩
  have hby : Rec.bytes ⟨3, 0, 0, f, t, [], 0, 0, 0⟩ = tEnc (P ++ sumB (cSum P)) := by rw [hP]; rfl
  have HBYE := Lib.hid hby
  have hOP : Own x2 (q + 1) v2 P := by rw [hP, ← hpl]; exact HO2.out
  rw [← hP] at HPL
  obtain ⟨aP, cP, hvP, hrP, _⟩ := hOP.sl
  have HRP := Lib.hid hrP
  clear hpl hP hby hOP hrP
  have hSe := refSeal_any aP P.length cP P x2 HRP.out (by have := HPL.out; omega)
  have HSE := Lib.hid hSe
  clear hSe
  subst hvP
  go_wp2_with fail
  refine HSE.out.mono ?_
  rintro e y1 ⟨vS, rfl, hoS, hbS⟩
  obtain ⟨aS, cS, rfl, hrS, _⟩ := hoS.sl
  have HRS := Lib.hid hrS
  have HBS : Hid (Below (q + 1) w1 y1) := Lib.hid (HB2.out.trans (hbS.mono (by have := HB2.out.size; have := HSZ.out; omega)))
  have hlS : (P ++ sumB (cSum P)).length ≤ 143 := by have := HPL.out; simp [sumB]; omega
  obtain ⟨Z, hZ⟩ : ∃ Z, Z = P ++ sumB (cSum P) := ⟨_, rfl⟩
  rw [← hZ] at HRS hlS HBYE ⊢
  have HTX := Lib.hid (rrText_any aS Z.length cS Z y1 HRS.out (by omega))
  clear hoS hrS hbS hZ hlS HSE
  go_wp2_with fail
  refine HTX.out.mono ?_
  rintro e y2 ⟨vT, rfl, hoT, hbT⟩
  have HFI : Hid (Own y2 w.heap.size vT (Rec.bytes ⟨3, 0, 0, f, t, [], 0, 0, 0⟩) ∧ Below w.heap.size w y2) := Lib.hid (by
    have h1 := HBS.out.size
    have h2 := HSZ.out
    have h3 := HW.out.2
    rw [HBYE.out]
    exact ⟨hoT.mono (by omega), HBW.out.trans ((HBS.out.mono (by omega)).trans (hbT.mono (by omega)))⟩)
  clear hoT hbT
  go_wp2
  go_ret
  exact ⟨_, rfl, HFI.out⟩

set_option maxHeartbeats 4000000 in
set_option maxRecDepth 100000 in
theorem rbytes_tail (c dn ds : Nat) (w : World) (hc : c ≤ 1099511627776) (hn : dn ≤ 1099511627776) (hs : ds < 2305843009213693951) (hok : Rec.ok ⟨4, 0, 0, 0, 0, [], c, dn, ds⟩ = true) :
    Calls Tryz.prog 28 #[pcV ⟨4, 0, 0, 0, 0, [], c, dn, ds⟩] w fun e w' => ∃ v, e = .returned v ∧ Hid (Own w' w.heap.size v (Rec.bytes ⟨4, 0, 0, 0, 0, [], c, dn, ds⟩) ∧ Below w.heap.size w w') := by
  obtain ⟨q, hq⟩ : ∃ q, q = w.heap.size := ⟨_, rfl⟩
  obtain ⟨w1, hw1⟩ : ∃ w1, w1 = (w.alloc (.cells #[.int .u8 4, .int .i64 0, .int .i64 0, .int .i64 0, .int .i64 0, .string ⟨#[]⟩, .int .i64 (c : Int), .int .u64 (dn : Int), .int .u64 (ds : Int)] 50)).alloc (.cells #[.int .u8 4] 5) := ⟨_, rfl⟩
  have HW : Hid ((w.alloc (.cells #[.int .u8 4, .int .i64 0, .int .i64 0, .int .i64 0, .int .i64 0, .string ⟨#[]⟩, .int .i64 (c : Int), .int .u64 (dn : Int), .int .u64 (ds : Int)] 50)).alloc (.cells #[.int .u8 4] 5) = w1 ∧ w.heap.size = q) := Lib.hid ⟨hw1.symm, hq.symm⟩
  have hB1 : Below w.heap.size w w1 := by rw [hw1]; exact ((Below.refl _ _).alloc (Nat.le_refl _) _).alloc (by simp) _
  have hsz : w1.heap.size = q + 2 := by rw [hw1, hq]; simp
  have hblk : w1.heap[q]? = some (.cells #[.int .u8 4, .int .i64 0, .int .i64 0, .int .i64 0, .int .i64 0, .string ⟨#[]⟩, .int .i64 (c : Int), .int .u64 (dn : Int), .int .u64 (ds : Int)] 50 (0, 0)) := by rw [hw1, hq]; exact (heap_alloc_old _ _ (by simp)).trans (heap_alloc_new w _)
  have hone : w1.heap[q + 1]? = some (.cells #[.int .u8 ((4 : Nat) : Int)] 5 (0, 0)) := by
    rw [hw1, hq]
    have e := heap_alloc_new (w.alloc (.cells #[.int .u8 4, .int .i64 0, .int .i64 0, .int .i64 0, .int .i64 0, .string ⟨#[]⟩, .int .i64 (c : Int), .int .u64 (dn : Int), .int .u64 (ds : Int)] 50)) (.cells #[.int .u8 4] 5)
    rw [World.size_alloc] at e
    exact e
  have HK : Hid (∀ W, Below (q + 1) w1 W → W.heap[q]? = some (.cells #[.int .u8 4, .int .i64 0, .int .i64 0, .int .i64 0, .int .i64 0, .string ⟨#[]⟩, .int .i64 (c : Int), .int .u64 (dn : Int), .int .u64 (ds : Int)] 50 (0, 0))) := Lib.hid fun W hW => (hW.block q (by omega)).trans hblk
  have HO0 : Hid (Own w1 (q + 1) (.slice (some ⟨q + 1, 0, none⟩) 1 1) [4]) := Lib.hid (own_one (by omega) hone)
  have HBW := Lib.hid hB1
  have H0 : Hid (Below (q + 1) w1 w1) := Lib.hid (Below.refl _ _)
  have HSZ := Lib.hid hsz
  have huc := wrap_u64 (m := c) (by omega)
  have HOKK : Hid (Rec.ok ⟨4, 0, 0, 0, 0, [], c, dn, ds⟩ = true) := Lib.hid hok
  clear hw1 hq hB1 hsz hblk hone
  simp only [pcV]
  go_enter Tryz.func28, Tryz.ntmps28
  go_upto_region 2 with fail
  change Code.wp _ _ _ _ ((w.alloc (.cells #[.int .u8 4, .int .i64 0, .int .i64 0, .int .i64 0, .int .i64 0, .string ⟨#[]⟩, .int .i64 (c : Int), .int .u64 (dn : Int), .int .u64 (ds : Int)] 50)).alloc (.cells #[.int .u8 4] 5))
  rw [HW.out.1]
  try rw [HW.out.2]
  obtain ⟨c0, c1, c2, c3, c4, c5, c6, c7, c8⟩ := rec_cells (HK.out w1 H0.out)
  have hn1 := refNum_any c (c : Int) w1 rfl (by omega)
  have HN1 := Lib.hid hn1
  have l101 : (vEnc c).length ≤ 10 := vEnc_len10 (by omega)
  have HL1 := Lib.hid l101
  clear hn1 l101
  go_wp2_with fail
  refine HN1.out.mono ?_
  rintro e u1 ⟨g1, m1, k1, rfl, hm1, ho1, hb1⟩
  have HOa1 := Lib.hid ho1
  have HM1 := Lib.hid hm1
  have HBa1 : Hid (Below (q + 1) w1 u1) := Lib.hid (H0.out.trans (hb1.mono (by have := H0.out.size; have := HSZ.out; omega)))
  have HRow1 : Hid (Own u1 (q + 1) (.slice (some ⟨q + 1, 0, none⟩) 1 1) [4]) := Lib.hid (HO0.out.kept hb1)
  clear hm1 ho1 hb1 c0 c1 c2 c3 c4 c5 c6 c7 c8
  go_wp2_with (at_builtin; refine wpList_append_rd rfl (.tmp 51) (.tmp 55) rfl (.slice (some ⟨q + 1, 0, none⟩) 1 1) rfl (some ⟨g1, 0, none⟩) m1 k1 rfl (q + 1) _ HRow1.out (by have := HBa1.out.size; have := HSZ.out; omega) (vEnc c) (HOa1.out.asSlice1 HM1.out.symm) (by have := HM1.out; have := HL1.out;  simp; omega) ?_; intro v1 x1 hv1 hx1; have HB1 : Hid (Below (q + 1) w1 x1) := Lib.hid (HBa1.out.trans hx1); have HO1 := Lib.hid hv1; obtain ⟨c0, c1, c2, c3, c4, c5, c6, c7, c8⟩ := rec_cells (HK.out x1 HB1.out); clear hv1 hx1)
  have hn2 := refNum_any dn (dn : Int) x1 rfl (by omega)
  have HN2 := Lib.hid hn2
  have l102 : (vEnc dn).length ≤ 10 := vEnc_len10 (by omega)
  have HL2 := Lib.hid l102
  clear hn2 l102
  go_wp2_with fail
  refine HN2.out.mono ?_
  rintro e u2 ⟨g2, m2, k2, rfl, hm2, ho2, hb2⟩
  have HOa2 := Lib.hid ho2
  have HM2 := Lib.hid hm2
  have HBa2 : Hid (Below (q + 1) w1 u2) := Lib.hid (HB1.out.trans (hb2.mono (by have := HB1.out.size; have := HSZ.out; omega)))
  have HRow2 : Hid (Own u2 (q + 1) v1 ([4] ++ vEnc c)) := Lib.hid (HO1.out.kept hb2)
  clear hm2 ho2 hb2 c0 c1 c2 c3 c4 c5 c6 c7 c8
  go_wp2_with (at_builtin; refine wpList_append_rd rfl (.tmp 57) (.tmp 60) rfl v1 rfl (some ⟨g2, 0, none⟩) m2 k2 rfl (q + 1) _ HRow2.out (by have := HBa2.out.size; have := HSZ.out; omega) (vEnc dn) (HOa2.out.asSlice1 HM2.out.symm) (by have := HM2.out; have := HL2.out; have := HL1.out; simp; omega) ?_; intro v2 x2 hv2 hx2; have HB2 : Hid (Below (q + 1) w1 x2) := Lib.hid (HBa2.out.trans hx2); have HO2 := Lib.hid hv2; obtain ⟨c0, c1, c2, c3, c4, c5, c6, c7, c8⟩ := rec_cells (HK.out x2 HB2.out); clear hv2 hx2)
  have hn3 := refNum_any ds (ds : Int) x2 rfl (by omega)
  have HN3 := Lib.hid hn3
  have l103 : (vEnc ds).length ≤ 10 := vEnc_len10 (by omega)
  have HL3 := Lib.hid l103
  clear hn3 l103
  go_wp2_with fail
  refine HN3.out.mono ?_
  rintro e u3 ⟨g3, m3, k3, rfl, hm3, ho3, hb3⟩
  have HOa3 := Lib.hid ho3
  have HM3 := Lib.hid hm3
  have HBa3 : Hid (Below (q + 1) w1 u3) := Lib.hid (HB2.out.trans (hb3.mono (by have := HB2.out.size; have := HSZ.out; omega)))
  have HRow3 : Hid (Own u3 (q + 1) v2 (([4] ++ vEnc c) ++ vEnc dn)) := Lib.hid (HO2.out.kept hb3)
  clear hm3 ho3 hb3 c0 c1 c2 c3 c4 c5 c6 c7 c8
  go_wp2_with (at_builtin; refine wpList_append_rd rfl (.tmp 62) (.tmp 65) rfl v2 rfl (some ⟨g3, 0, none⟩) m3 k3 rfl (q + 1) _ HRow3.out (by have := HBa3.out.size; have := HSZ.out; omega) (vEnc ds) (HOa3.out.asSlice1 HM3.out.symm) (by have := HM3.out; have := HL3.out; have := HL1.out; have := HL2.out; simp; omega) ?_; intro v3 x3 hv3 hx3; have HB3 : Hid (Below (q + 1) w1 x3) := Lib.hid (HBa3.out.trans hx3); have HO3 := Lib.hid hv3; obtain ⟨c0, c1, c2, c3, c4, c5, c6, c7, c8⟩ := rec_cells (HK.out x3 HB3.out); clear hv3 hx3)
  have hpl : ((([4] ++ vEnc c) ++ vEnc dn) ++ vEnc ds) = Rec.plain ⟨4, 0, 0, 0, 0, [], c, dn, ds⟩ := by simp [Rec.plain]
  have HPL : Hid (1 ≤ (Rec.plain ⟨4, 0, 0, 0, 0, [], c, dn, ds⟩).length ∧ (Rec.plain ⟨4, 0, 0, 0, 0, [], c, dn, ds⟩).length ≤ 139) := Lib.hid (Rec.plain_len HOKK.out)
  obtain ⟨P, hP⟩ : ∃ P, P = Rec.plain ⟨4, 0, 0, 0, 0, [], c, dn, ds⟩ := ⟨_, rfl⟩
  have hby : Rec.bytes ⟨4, 0, 0, 0, 0, [], c, dn, ds⟩ = tEnc (P ++ sumB (cSum P)) := by rw [hP]; rfl
  have HBYE := Lib.hid hby
  have hOP : Own x3 (q + 1) v3 P := by rw [hP, ← hpl]; exact HO3.out
  rw [← hP] at HPL
  obtain ⟨aP, cP, hvP, hrP, _⟩ := hOP.sl
  have HRP := Lib.hid hrP
  clear hpl hP hby hOP hrP
  have hSe := refSeal_any aP P.length cP P x3 HRP.out (by have := HPL.out; omega)
  have HSE := Lib.hid hSe
  clear hSe
  subst hvP
  go_wp2_with fail
  refine HSE.out.mono ?_
  rintro e y1 ⟨vS, rfl, hoS, hbS⟩
  obtain ⟨aS, cS, rfl, hrS, _⟩ := hoS.sl
  have HRS := Lib.hid hrS
  have HBS : Hid (Below (q + 1) w1 y1) := Lib.hid (HB3.out.trans (hbS.mono (by have := HB3.out.size; have := HSZ.out; omega)))
  have hlS : (P ++ sumB (cSum P)).length ≤ 143 := by have := HPL.out; simp [sumB]; omega
  obtain ⟨Z, hZ⟩ : ∃ Z, Z = P ++ sumB (cSum P) := ⟨_, rfl⟩
  rw [← hZ] at HRS hlS HBYE ⊢
  have HTX := Lib.hid (rrText_any aS Z.length cS Z y1 HRS.out (by omega))
  clear hoS hrS hbS hZ hlS HSE
  go_wp2_with fail
  refine HTX.out.mono ?_
  rintro e y2 ⟨vT, rfl, hoT, hbT⟩
  have HFI : Hid (Own y2 w.heap.size vT (Rec.bytes ⟨4, 0, 0, 0, 0, [], c, dn, ds⟩) ∧ Below w.heap.size w y2) := Lib.hid (by
    have h1 := HBS.out.size
    have h2 := HSZ.out
    have h3 := HW.out.2
    rw [HBYE.out]
    exact ⟨hoT.mono (by omega), HBW.out.trans ((HBS.out.mono (by omega)).trans (hbT.mono (by omega)))⟩)
  clear hoT hbT
  go_wp2
  go_ret
  exact ⟨_, rfl, HFI.out⟩

set_option maxHeartbeats 4000000 in
set_option maxRecDepth 100000 in
theorem rbytes_data (f t : Nat) (l : List Nat) (w : World) (hf : f ≤ 256) (hl : l.length ≤ 1000) (hby : ∀ z ∈ l, z < 256) (hok : Rec.ok ⟨2, 0, 0, f, t, l, 0, 0, 0⟩ = true) :
    Calls Tryz.prog 28 #[pcV ⟨2, 0, 0, f, t, l, 0, 0, 0⟩] w fun e w' => ∃ v, e = .returned v ∧ Hid (Own w' w.heap.size v (Rec.bytes ⟨2, 0, 0, f, t, l, 0, 0, 0⟩) ∧ Below w.heap.size w w') := by
  obtain ⟨q, hq⟩ : ∃ q, q = w.heap.size := ⟨_, rfl⟩
  obtain ⟨w1, hw1⟩ : ∃ w1, w1 = (w.alloc (.cells #[.int .u8 2, .int .i64 0, .int .i64 0, .int .i64 (f : Int), .int .i64 (t : Int), .string (strB l), .int .i64 0, .int .u64 0, .int .u64 0] 50)).alloc (.cells #[.int .u8 2] 5) := ⟨_, rfl⟩
  have HW : Hid ((w.alloc (.cells #[.int .u8 2, .int .i64 0, .int .i64 0, .int .i64 (f : Int), .int .i64 (t : Int), .string (strB l), .int .i64 0, .int .u64 0, .int .u64 0] 50)).alloc (.cells #[.int .u8 2] 5) = w1 ∧ w.heap.size = q) := Lib.hid ⟨hw1.symm, hq.symm⟩
  have hB1 : Below w.heap.size w w1 := by rw [hw1]; exact ((Below.refl _ _).alloc (Nat.le_refl _) _).alloc (by simp) _
  have hsz : w1.heap.size = q + 2 := by rw [hw1, hq]; simp
  have hblk : w1.heap[q]? = some (.cells #[.int .u8 2, .int .i64 0, .int .i64 0, .int .i64 (f : Int), .int .i64 (t : Int), .string (strB l), .int .i64 0, .int .u64 0, .int .u64 0] 50 (0, 0)) := by rw [hw1, hq]; exact (heap_alloc_old _ _ (by simp)).trans (heap_alloc_new w _)
  have hone : w1.heap[q + 1]? = some (.cells #[.int .u8 ((2 : Nat) : Int)] 5 (0, 0)) := by
    rw [hw1, hq]
    have e := heap_alloc_new (w.alloc (.cells #[.int .u8 2, .int .i64 0, .int .i64 0, .int .i64 (f : Int), .int .i64 (t : Int), .string (strB l), .int .i64 0, .int .u64 0, .int .u64 0] 50)) (.cells #[.int .u8 2] 5)
    rw [World.size_alloc] at e
    exact e
  have HK : Hid (∀ W, Below (q + 1) w1 W → W.heap[q]? = some (.cells #[.int .u8 2, .int .i64 0, .int .i64 0, .int .i64 (f : Int), .int .i64 (t : Int), .string (strB l), .int .i64 0, .int .u64 0, .int .u64 0] 50 (0, 0))) := Lib.hid fun W hW => (hW.block q (by omega)).trans hblk
  have HO0 : Hid (Own w1 (q + 1) (.slice (some ⟨q + 1, 0, none⟩) 1 1) [2]) := Lib.hid (own_one (by omega) hone)
  have HBW := Lib.hid hB1
  have H0 : Hid (Below (q + 1) w1 w1) := Lib.hid (Below.refl _ _)
  have HSZ := Lib.hid hsz
  have huf := wrap_u64 (m := f) (by omega)
  have HOKK : Hid (Rec.ok ⟨2, 0, 0, f, t, l, 0, 0, 0⟩ = true) := Lib.hid hok
  have HLB := Lib.hid hl
  have HBY := Lib.hid hby
  clear hby hl
  clear hw1 hq hB1 hsz hblk hone
  simp only [pcV]
  go_enter Tryz.func28, Tryz.ntmps28
  go_upto_region 2 with fail
  change Code.wp _ _ _ _ ((w.alloc (.cells #[.int .u8 2, .int .i64 0, .int .i64 0, .int .i64 (f : Int), .int .i64 (t : Int), .string (strB l), .int .i64 0, .int .u64 0, .int .u64 0] 50)).alloc (.cells #[.int .u8 2] 5))
  rw [HW.out.1]
  try rw [HW.out.2]
  obtain ⟨c0, c1, c2, c3, c4, c5, c6, c7, c8⟩ := rec_cells (HK.out w1 H0.out)
  have hn1 := refNum_any f (f : Int) w1 rfl (by omega)
  have HN1 := Lib.hid hn1
  have l101 : (vEnc f).length ≤ 10 := vEnc_len10 (by omega)
  have HL1 := Lib.hid l101
  clear hn1 l101
  go_wp2_with fail
  refine HN1.out.mono ?_
  rintro e u1 ⟨g1, m1, k1, rfl, hm1, ho1, hb1⟩
  have HOa1 := Lib.hid ho1
  have HM1 := Lib.hid hm1
  have HBa1 : Hid (Below (q + 1) w1 u1) := Lib.hid (H0.out.trans (hb1.mono (by have := H0.out.size; have := HSZ.out; omega)))
  have HRow1 : Hid (Own u1 (q + 1) (.slice (some ⟨q + 1, 0, none⟩) 1 1) [2]) := Lib.hid (HO0.out.kept hb1)
  clear hm1 ho1 hb1 c0 c1 c2 c3 c4 c5 c6 c7 c8
  go_wp2_with (at_builtin; first | (refine wpList_append_rd rfl (.tmp 25) (.tmp 29) rfl (.slice (some ⟨q + 1, 0, none⟩) 1 1) rfl (some ⟨g1, 0, none⟩) m1 k1 rfl (q + 1) _ HRow1.out (by have := HBa1.out.size; have := HSZ.out; omega) (vEnc f) (HOa1.out.asSlice1 HM1.out.symm) (by have := HM1.out; have := HL1.out;  simp; omega) ?_; intro v1 x1 hv1 hx1; have HB1 : Hid (Below (q + 1) w1 x1) := Lib.hid (HBa1.out.trans hx1); have HO1 := Lib.hid hv1; obtain ⟨c0, c1, c2, c3, c4, c5, c6, c7, c8⟩ := rec_cells (HK.out x1 HB1.out); clear hv1 hx1) | (refine wpList_append_strR rfl (.tmp 31) (.tmp 33) rfl v1 rfl l HBY.out rfl (q + 1) _ HO1.out (by have := HB1.out.size; have := HSZ.out; omega) (by have := HL1.out; have := HLB.out; simp; omega) ?_; intro v9 x9 hv9 hx9; have HB9 : Hid (Below (q + 1) w1 x9) := Lib.hid (HB1.out.trans hx9); have HO9 := Lib.hid hv9; clear hv9 hx9))
  clear c0 c1 c2 c3 c4 c5 c6 c7 c8
  have hpl : (([2] ++ vEnc f) ++ l) = Rec.plain ⟨2, 0, 0, f, t, l, 0, 0, 0⟩ := by simp [Rec.plain]
  have HPL : Hid (1 ≤ (Rec.plain ⟨2, 0, 0, f, t, l, 0, 0, 0⟩).length ∧ (Rec.plain ⟨2, 0, 0, f, t, l, 0, 0, 0⟩).length ≤ 139) := Lib.hid (Rec.plain_len HOKK.out)
  obtain ⟨P, hP⟩ : ∃ P, P = Rec.plain ⟨2, 0, 0, f, t, l, 0, 0, 0⟩ := ⟨_, rfl⟩
  have hby : Rec.bytes ⟨2, 0, 0, f, t, l, 0, 0, 0⟩ = tEnc (P ++ sumB (cSum P)) := by rw [hP]; rfl
  have HBYE := Lib.hid hby
  have hOP : Own x9 (q + 1) v9 P := by rw [hP, ← hpl]; exact HO9.out
  rw [← hP] at HPL
  obtain ⟨aP, cP, hvP, hrP, _⟩ := hOP.sl
  have HRP := Lib.hid hrP
  clear hpl hP hby hOP hrP
  have hSe := refSeal_any aP P.length cP P x9 HRP.out (by have := HPL.out; omega)
  have HSE := Lib.hid hSe
  clear hSe
  subst hvP
  go_wp2_with fail
  refine HSE.out.mono ?_
  rintro e y1 ⟨vS, rfl, hoS, hbS⟩
  obtain ⟨aS, cS, rfl, hrS, _⟩ := hoS.sl
  have HRS := Lib.hid hrS
  have HBS : Hid (Below (q + 1) w1 y1) := Lib.hid (HB9.out.trans (hbS.mono (by have := HB9.out.size; have := HSZ.out; omega)))
  have hlS : (P ++ sumB (cSum P)).length ≤ 143 := by have := HPL.out; simp [sumB]; omega
  obtain ⟨Z, hZ⟩ : ∃ Z, Z = P ++ sumB (cSum P) := ⟨_, rfl⟩
  rw [← hZ] at HRS hlS HBYE ⊢
  have HTX := Lib.hid (rrText_any aS Z.length cS Z y1 HRS.out (by omega))
  clear hoS hrS hbS hZ hlS HSE
  go_wp2_with fail
  refine HTX.out.mono ?_
  rintro e y2 ⟨vT, rfl, hoT, hbT⟩
  have HFI : Hid (Own y2 w.heap.size vT (Rec.bytes ⟨2, 0, 0, f, t, l, 0, 0, 0⟩) ∧ Below w.heap.size w y2) := Lib.hid (by
    have h1 := HBS.out.size
    have h2 := HSZ.out
    have h3 := HW.out.2
    rw [HBYE.out]
    exact ⟨hoT.mono (by omega), HBW.out.trans ((HBS.out.mono (by omega)).trans (hbT.mono (by omega)))⟩)
  clear hoT hbT
  go_wp2
  go_ret
  exact ⟨_, rfl, HFI.out⟩

/-- A record's bytes, by the document. -/
theorem rrBytes_any (x : Rec) (w : World) (hx : x.ok = true) (hl : ∀ z ∈ x.l, z < 256) :
    Calls Tryz.prog 28 #[pcV x] w fun e w' => ∃ v, e = .returned v ∧ Hid (Own w' w.heap.size v x.bytes ∧ Below w.heap.size w w') := by
  rcases Rec.ok_cases hx with ⟨i, b, h1, h2, rfl⟩ | ⟨f, t, l, h1, h2, h3, h4, rfl⟩ | ⟨f, t, h1, h2, rfl⟩ | ⟨c, dn, ds, h1, h2, h3, rfl⟩
  · exact rbytes_head i b w h1 h2 hx
  · exact rbytes_data f t l w (by omega) (by omega) hl hx
  · exact rbytes_hole f t w (by omega) (by omega) hx
  · exact rbytes_tail c dn ds w h1 h2 h3 hx

end Go.Proofs.YtaijldcfoaeogaaGreat

/- The document's Stream: all bytes of records, and a Tail. -/
namespace Go.Proofs.YtaijldcfoaeogaaGreat
open Go.RowKit
set_option maxRecDepth 100000
set_option linter.unusedSimpArgs false

set_option maxHeartbeats 4000000 in
set_option maxRecDepth 100000 in
theorem rstream_any (w : World) (a : Option Addr) (n c : Nat) (xs : List Rec) (h : RdP w a n xs) (hn : n ≤ 5000) (hx : ∀ y ∈ xs, y.ok = true) (hby : ∀ y ∈ xs, ∀ z ∈ y.l, z < 256) :
    Calls Tryz.prog 10 #[.slice a n c] w fun e w' => ∃ v, e = .returned v ∧ Own w' w.heap.size v (strmB xs) ∧ Below w.heap.size w w' := by
  obtain ⟨p, hp⟩ : ∃ p, p = w.heap.size := ⟨_, rfl⟩
  have HP := Lib.hid hp
  have HR := Lib.hid h
  have HX := Lib.hid (And.intro hx hby)
  have HF : Hid (∀ j, (flatB (xs.take j)).length ≤ 160 * n) := Lib.hid fun j => by
    have h1 := flatB_len (xs := xs.take j) fun y hy => hx y (List.mem_of_mem_take hy)
    have h2 : (xs.take j).length ≤ n := by rw [List.length_take, h.len]; omega
    omega
  rw [← hp]
  clear h hx hby hp
  go_enter Tryz.func10, Tryz.ntmps10
  go_wp2_with fail
  go_loopg [3, 4] n (fun gk v3 v4 wr => ∃ (j : Nat) (v : Value), v = v3 ∧ gk = n - j ∧ j ≤ n ∧ v4 = .int .i64 (j : Int) ∧ Hid (Own wr p v (flatB (xs.take j))) ∧ Hid (Below p w wr))
  case atStart => exact ⟨0, _, rfl, rfl, Nat.zero_le _, rfl, Lib.hid (by simpa [flatB] using Own.nil _ _), Lib.hid (Below.refl _ _)⟩
  case round =>
    obtain ⟨j, v, rfl, hgk, hj, rfl, HO, HB⟩ := hrel
    have HGK := Lib.hid hgk
    clear hgk
    by_cases hlt : j < n
    · obtain ⟨br, or_, x, rfl, hxe, hxm, hcl⟩ := (HR.out.later (by rw [← HP.out]; exact HB.out)).at_ hlt
      have hxo := HX.out.1 x hxm
      have hxl := HX.out.2 x hxm
      have hjx : j < xs.length := by have := HR.out.len; omega
      have HT : Hid (flatB (xs.take (j + 1)) = flatB (xs.take j) ++ x.bytes) := Lib.hid (by rw [List.take_succ_eq_append_getElem hjx, flatB_append, flatB_one, hxe]; simp [List.getD, hjx])
      have HBY := Lib.hid (rrBytes_any x wr hxo hxl)
      have HLX : Hid (x.bytes.length ≤ 160) := Lib.hid (bytes_len hxo).2
      obtain ⟨y, hy⟩ : ∃ y, y = x.bytes := ⟨_, rfl⟩
      rw [← hy] at HT HBY HLX
      obtain ⟨xk, xi, xb, xf, xt, xl, xc, xn, xs'⟩ := x
      obtain ⟨c0, c1, c2, c3, c4, c5, c6, c7, c8⟩ : _ ∧ _ ∧ _ ∧ _ ∧ _ ∧ _ ∧ _ ∧ _ ∧ _ := ⟨hcl 0 _ rfl, hcl 1 _ rfl, hcl 2 _ rfl, hcl 3 _ rfl, hcl 4 _ rfl, hcl 5 _ rfl, hcl 6 _ rfl, hcl 7 _ rfl, hcl 8 _ rfl⟩
      simp only [Nat.add_zero] at c0 c1 c2 c3 c4 c5 c6 c7 c8
      simp only [pcV] at HBY
      clear hcl hxe hxm hxo hxl hjx hy
      go_wp2_with fail
      refine HBY.out.mono ?_
      rintro e w2 ⟨v2, rfl, H2⟩
      have HO2 : Hid (Own w2 p v (flatB (xs.take j))) := Lib.hid ⟨HO.out.1, owns_same HO.out.2 fun z hz => H2.out.2.block z (by
        obtain ⟨_, cur, hcur⟩ := owns_block HO.out.2 hz
        exact lt_of_block hcur)⟩
      have HB2 : Hid (Below p w w2) := Lib.hid (HB.out.trans (H2.out.2.mono (by have := HB.out.size; have := HP.out; omega)))
      obtain ⟨a2, cap2, rfl, hr2⟩ := H2.out.1.rd
      have HR2 := Lib.hid hr2
      clear hr2 c0 c1 c2 c3 c4 c5 c6 c7 c8
      have HLJ := HF.out j
      go_wp2_with (at_builtin; refine wpList_append_rd rfl (.tmp 13) (.tmp 18) rfl _ rfl a2 y.length cap2 rfl p _ HO2.out (by have := HB2.out.size; have := HP.out; omega) y HR2.out (by have := HLX.out; omega) ?_; intro v' w' ho3 hb3)
      rw [← HT.out] at ho3
      have HO3 := Lib.hid ho3
      have HB3 := Lib.hid (HB2.out.trans hb3)
      clear ho3 hb3
      go_wp2
      go_roundg (n - (j + 1))
      case measure => have := HGK.out; omega
      case rel => exact ⟨j + 1, _, rfl, rfl, by omega, by simp, HO3, HB3⟩
    · obtain rfl : j = n := by omega
      have htk : xs.take j = xs := List.take_of_length_le (by have := HR.out.len; omega)
      have HLJ := HF.out j
      rw [htk] at HO HLJ
      obtain ⟨B, hB⟩ : ∃ B, B = flatB xs := ⟨_, rfl⟩
      rw [← hB] at HO HLJ
      have hxl := HR.out.len
      have htok := tailR_ok (xs := xs) HX.out.1 (by omega)
      have HST : Hid (strmB xs = B ++ (⟨4, 0, 0, 0, 0, [], (j : Int), B.length, dSum B⟩ : Rec).bytes) := Lib.hid (by unfold strmB tailR; rw [← hB, hxl])
      have HTO : Hid (Rec.ok ⟨4, 0, 0, 0, 0, [], (j : Int), B.length, dSum B⟩ = true) := Lib.hid (by have := htok; unfold tailR at this; rw [← hB, hxl] at this; exact this)
      obtain ⟨av, cv, rfl, hrd⟩ := HO.out.rd
      obtain ⟨bl, hbl⟩ : ∃ bl, bl = B.length := ⟨_, rfl⟩
      obtain ⟨d, hd⟩ : ∃ d, d = dSum B := ⟨_, rfl⟩
      rw [← hbl] at HO HLJ HST HTO hrd ⊢
      rw [← hd] at HST HTO
      have HDG := Lib.hid (refDig_any av bl cv B wr hrd (by omega))
      rw [← hd] at HDG
      have HBL := Lib.hid (And.intro hbl hd)
      clear htk hB hxl htok hrd hbl hd
      go_wp2_with fail
      refine HDG.out.mono ?_
      rintro e w2 ⟨rfl, nq, rfl⟩
      have HBW : Hid (Below wr.heap.size wr (wr.drewN nq)) := Lib.hid (Below.drewN' (Below.refl _ _) _)
      have HBY := Lib.hid (rrBytes_any ⟨4, 0, 0, 0, 0, [], (j : Int), bl, d⟩ (wr.drewN nq) HTO.out (by simp))
      have HLT := Lib.hid (bytes_len HTO.out).2
      obtain ⟨y, hy⟩ : ∃ y, y = Rec.bytes ⟨4, 0, 0, 0, 0, [], (j : Int), bl, d⟩ := ⟨_, rfl⟩
      rw [← hy] at HBY HLT HST
      simp only [pcV] at HBY
      clear hy
      go_wp2_with fail
      refine HBY.out.mono ?_
      rintro e w4 ⟨v4, rfl, H4⟩
      have hpw : p ≤ wr.heap.size := by have := HB.out.size; have := HP.out; omega
      have HO4 : Hid (Own w4 p (.slice av bl cv) B) := Lib.hid ⟨HO.out.1, owns_same HO.out.2 fun z hz => by
        obtain ⟨_, cur, hcur⟩ := owns_block HO.out.2 hz
        have h1 := lt_of_block hcur
        exact (H4.out.2.block z (Nat.lt_of_lt_of_le h1 HBW.out.size)).trans (HBW.out.block z h1)⟩
      have HB4 : Hid (Below p w w4) := Lib.hid (HB.out.trans ((HBW.out.mono hpw).trans (H4.out.2.mono (Nat.le_trans hpw HBW.out.size))))
      obtain ⟨a4, cap4, rfl, hr4⟩ := H4.out.1.rd
      have HR4 := Lib.hid hr4
      clear hr4 hpw
      go_wp2_with (at_builtin; refine wpList_append_rd rfl (.tmp 25) (.tmp 31) rfl _ rfl a4 y.length cap4 rfl p _ HO4.out (by have := HB4.out.size; have := HP.out; omega) y HR4.out (by have := HLT.out; have := HBL.out.1; omega) ?_; intro v' w' ho3 hb3)
      rw [← HST.out] at ho3
      have HO3 := Lib.hid ho3
      have HB3 := Lib.hid (HB4.out.trans hb3)
      clear ho3 hb3
      go_wp2
      go_ret
      exact ⟨_, rfl, HO3.out, HB3.out⟩

end Go.Proofs.YtaijldcfoaeogaaGreat

/- What the records of what differs make of an image, plainly: the other image. -/
namespace Go.Proofs.YtaijldcfoaeogaaGreat
open Go.RowKit
set_option maxRecDepth 100000

theorem chP_len (H : List (List Nat)) (x : Rec) (j : Nat) : (chP H x j).length = H.length := by
  induction j with
  | zero => simp [chP]
  | succ j ih => rw [chP_succ, List.length_set, ih]

theorem chP_at {H : List (List Nat)} (hH : H.length = 256) {x : Rec} (h0 : 0 ≤ x.f) : ∀ j : Nat, x.f + (j : Int) ≤ 256 → ∀ z : Int, fAt (chP H x j) z = if x.f ≤ z ∧ z < x.f + (j : Int) then blkAt x (z - x.f).toNat else fAt H z := by
  intro j
  induction j with
  | zero =>
    intro _ z
    rw [if_neg (by omega)]
    simp [chP]
  | succ j ih =>
    intro hj z
    rw [chP_succ, fAt_set _ _ _ (by rw [chP_len, hH]; omega), ih (by omega)]
    by_cases h1 : z = ((x.f.toNat + j : Nat) : Int)
    · rw [if_pos h1, if_pos (by omega)]
      congr 1
      omega
    · rw [if_neg h1]
      by_cases h2 : x.f ≤ z ∧ z < x.f + (j : Int)
      · rw [if_pos h2, if_pos (by omega)]
      · rw [if_neg h2, if_neg (by omega)]

theorem chF_at {H : List (List Nat)} (hH : H.length = 256) {x : Rec} (h0 : 0 ≤ x.f) (h1 : x.f ≤ x.t) (h2 : x.t ≤ 256) (z : Int) : fAt (chF H x) z = if x.f ≤ z ∧ z < x.t then blkAt x (z - x.f).toNat else fAt H z := by
  unfold chF
  rw [chP_at hH h0 _ (by omega)]
  have e : x.f + ((x.t - x.f).toNat : Int) = x.t := by omega
  rw [e]

/-- Records that each bring what T says. -/
theorem apF_at (T : Int → List Nat) : ∀ (xs : List Rec) (H : List (List Nat)), H.length = 256 → (∀ x ∈ xs, 0 ≤ x.f ∧ x.f ≤ x.t ∧ x.t ≤ 256 ∧ ∀ z : Int, x.f ≤ z → z < x.t → blkAt x (z - x.f).toNat = T z) →
    (apF H xs).length = 256 ∧ ∀ z : Int, ((∃ x ∈ xs, x.f ≤ z ∧ z < x.t) → fAt (apF H xs) z = T z) ∧ ((¬ ∃ x ∈ xs, x.f ≤ z ∧ z < x.t) → fAt (apF H xs) z = fAt H z) := by
  intro xs
  induction xs with
  | nil =>
    intro H hH _
    exact ⟨hH, fun z => ⟨fun h => by simp at h, fun _ => rfl⟩⟩
  | cons x xs ih =>
    intro H hH h
    obtain ⟨x0, x1, x2, x3⟩ := h x (by simp)
    have hl : (chF H x).length = 256 := (chP_len H x _).trans hH
    obtain ⟨i1, i2⟩ := ih (chF H x) hl fun y hy => h y (by simp [hy])
    have e : apF H (x :: xs) = apF (chF H x) xs := rfl
    rw [e]
    refine ⟨i1, fun z => ?_⟩
    obtain ⟨a1, a2⟩ := i2 z
    by_cases hc : ∃ y ∈ xs, y.f ≤ z ∧ z < y.t
    · exact ⟨fun _ => a1 hc, fun hn => absurd (by obtain ⟨y, hy, h9⟩ := hc; exact ⟨y, by simp [hy], h9⟩) hn⟩
    · rw [a2 hc, chF_at hH x0 x1 x2]
      by_cases hx : x.f ≤ z ∧ z < x.t
      · rw [if_pos hx]
        exact ⟨fun _ => x3 z hx.1 hx.2, fun hn => absurd ⟨x, by simp, hx⟩ hn⟩
      · rw [if_neg hx]
        refine ⟨fun hy => ?_, fun _ => rfl⟩
        obtain ⟨y, hy, h9⟩ := hy
        rcases List.mem_cons.1 hy with rfl | hy
        · exact absurd h9 hx
        · exact absurd ⟨y, hy, h9⟩ hc

theorem blk_cut {F : List (List Nat)} (hF : okF F) (f : Int) : ∀ k : Nat, (∀ j : Nat, j < k → fAt F (f + (j : Int)) ≠ []) → ∀ j : Nat, j < k → (((segR f k).flatMap (fAt F)).drop (32 * j)).take 32 = fAt F (f + (j : Int)) := by
  intro k
  induction k with
  | zero => intro _ j hj; omega
  | succ k ih =>
    intro h j hj
    have hl := blk_len hF f k fun j hj => h j (by omega)
    have h1 : (fAt F (f + (k : Int))).length = 32 := ((hF.at_ _).resolve_left (h k (by omega))).1
    rw [segR_succ, List.flatMap_append]
    simp only [List.flatMap_cons, List.flatMap_nil, List.append_nil]
    by_cases hjk : j < k
    · have := ih (fun j hj => h j (by omega)) j hjk
      rw [List.drop_append_of_le_length (by rw [hl]; omega), List.take_append_of_le_length (by rw [List.length_drop, hl]; omega)]
      exact this
    · obtain rfl : j = k := by omega
      rw [← hl, List.drop_left, List.take_of_length_le (by omega)]

theorem in_pcsR {M : List Rn} {z : Int} : (∃ r ∈ pcsR M, r.f ≤ z ∧ z < r.t) ↔ inR M z := by
  constructor
  · rintro ⟨r, hr, h1, h2⟩
    obtain ⟨q, hq, h3, h4, h5, h6⟩ := mem_pcsR hr
    exact ⟨q, hq, by omega, by omega⟩
  · rintro ⟨q, hq, h1, h2⟩
    refine ⟨⟨q.f + 4 * (((z - q.f) / 4).toNat : Int), min (q.f + 4 * (((z - q.f) / 4).toNat : Int) + 4) q.t⟩, ?_, by simp only; omega, by simp only; omega⟩
    simp only [pcsR, List.mem_flatMap, segP, List.mem_map, List.mem_range]
    exact ⟨q, hq, _, pcN_lt.2 (by omega), rfl⟩

/-- The records of what differs make the image of its base. -/
theorem apF_recs {i b : Int} {F G : List (List Nat)} {M N : List Rn} (hF : okF F) (hG : okF G) (hM : SetF (diffF F G) M) (hN : SetF (goneF F G) N) : apF G (recsR i b F M N).tail = F := by
  have hd := diff_in hF hG
  have e : (recsR i b F M N).tail = (pcsR M).map (dataR F) ++ N.map holeR := rfl
  rw [e]
  obtain ⟨h1, h2⟩ := apF_at (fAt F) ((pcsR M).map (dataR F) ++ N.map holeR) G hG.1 (by
    intro x hx
    simp only [List.mem_append, List.mem_map] at hx
    rcases hx with ⟨r, hr, rfl⟩ | ⟨r, hr, rfl⟩
    · obtain ⟨_, k1, k2, k3, _⟩ := dataR_ok hF (diffF_len F G) hM hd hr
      refine ⟨k1, Int.le_of_lt k2, k3, fun z z1 z2 => ?_⟩
      have z1 : r.f ≤ z := z1
      have z2 : z < r.t := z2
      have h9 := blk_cut hF r.f (r.t - r.f).toNat (fun j hj => hd _ ((hM.mem _).1 (in_pcsR.1 ⟨r, hr, by omega, by omega⟩))) (z - r.f).toNat (by omega)
      have e1 : r.f + ((z - r.f).toNat : Int) = z := by omega
      rw [e1] at h9
      exact h9
    · obtain ⟨k1, k2, k3⟩ := hN.ends (goneF_len F G) r hr
      refine ⟨k1, Int.le_of_lt k2, k3, fun z z1 z2 => ?_⟩
      have h9 := (hN.mem z).1 ⟨r, hr, z1, z2⟩
      rw [fAt_goneF hF.1 hG.1] at h9
      have e1 : blkAt (holeR r) (z - (holeR r).f).toNat = [] := by simp [blkAt, holeR]
      rw [e1]
      by_cases h8 : fAt F z = []
      · exact h8.symm
      · rw [if_neg h8] at h9
        exact absurd rfl h9)
  refine F_ext h1 hF.1 fun z => ?_
  obtain ⟨a1, a2⟩ := h2 z
  by_cases hc : ∃ x ∈ (pcsR M).map (dataR F) ++ N.map holeR, x.f ≤ z ∧ z < x.t
  · exact a1 hc
  · rw [a2 hc]
    have c1 : fAt (diffF F G) z = [] := by
      by_cases h : fAt (diffF F G) z = []
      · exact h
      · obtain ⟨r, hr, h8, h9⟩ := in_pcsR.2 ((hM.mem z).2 h)
        exact absurd ⟨dataR F r, by simp only [List.mem_append, List.mem_map]; exact .inl ⟨r, hr, rfl⟩, h8, h9⟩ hc
    have c2 : fAt (goneF F G) z = [] := by
      by_cases h : fAt (goneF F G) z = []
      · exact h
      · obtain ⟨r, hr, h8, h9⟩ := (hN.mem z).2 h
        exact absurd ⟨holeR r, by simp only [List.mem_append, List.mem_map]; exact .inr ⟨r, hr, rfl⟩, h8, h9⟩ hc
    rw [fAt_diffF hF.1 hG.1] at c1
    rw [fAt_goneF hF.1 hG.1] at c2
    by_cases h8 : fAt F z = []
    · rw [if_pos h8] at c2
      rw [c2, h8]
    · by_cases h9 : fAt G z = fAt F z
      · exact h9
      · rw [if_neg h9] at c1
        exact absurd c1 h8

end Go.Proofs.YtaijldcfoaeogaaGreat
