/- RootBytes, run: any bytes, committed one behind the other. -/
import Derived.Test.YtpdpnlgiaehegaaRLives
import Derived.Test.YtpdpnlgiaehegaaRLawSec
import Derived.BigRegion
import Derived.Deep.DeepCutAuto
import Derived.Deep.CutBlock
import Derived.Deep.RegionHeld3
namespace Go.Proofs.Ytpdpnlgiaehegaa
open Go.RowKit
set_option linter.unusedSimpArgs false

/-- In a region that draws its order: an operation that calls a function of Go, by its contract; one that makes a value. -/
theorem ready_call {P : Program} {o : Oper} {a : Act} {w : World} {K : Act → World → Prop} {Q : Exit → Act → World → Prop} {f : FuncId} {vs : Array Value} {c : Prop} [Decidable c]
    (hw : c) (hx : (execOp a.eval o).run P w = .ok (.enter f vs) w)
    (hc : Calls P f vs w fun e w' => ∃ v, e = .returned v ∧ K (a.put o.dst v) w') : if c then Oper.wp P o a w K Q else K (a.put o.dst undef) w := by
  rw [if_pos hw, Oper.wp, hx, Oper.upon_enter]
  refine hc.mono ?_
  rintro e w' ⟨v, rfl, hK⟩
  exact hK

theorem ready_made {P : Program} {o : Oper} {a : Act} {w w' : World} {K : Act → World → Prop} {Q : Exit → Act → World → Prop} {v : Value} {c : Prop} [Decidable c]
    (hw : c) (hx : (execOp a.eval o).run P w = .ok (.value v) w') (hc : K (a.put o.dst v) w') : if c then Oper.wp P o a w K Q else K (a.put o.dst undef) w := by
  rw [if_pos hw, Oper.wp, hx, Oper.upon_value]
  exact hc

theorem exec_copy {w : World} {o : Oper} {a : Act} (d s : Operand)
    (ho : o.op = .call { callee := .builtin .copy, args := #[d, s], argTypes := #[32, 32] }) (dp sp : Option Addr) (dLen dCap sLen sCap : Nat) (hd : a.eval d = .slice dp dLen dCap) (hs : a.eval s = .slice sp sLen sCap)
    (g off : Nat) (T : TypeId) (L S : List Nat) (hg : w.heap[g]? = some (rowObj T L)) (hr : Rd w sp sLen S)
    (hpos : 0 < min sLen dLen → dp = some ⟨g, off, none⟩) (hfit : off + min sLen dLen ≤ L.length)
    (X : List Nat) (hX : splice L off (S.take (min sLen dLen)) = X) : (execOp a.eval o).run Try.prog w = .ok (.value (goInt (min sLen dLen : Nat))) (put w g (rowObj T X)) := by
  have hrun := run_copy_bytes w o.type dp sp dLen dCap sLen sCap g off T L S hg hr hpos hfit
  unfold execOp
  simp only [ho, resolve, invoke, builtin, Sem.run_bind, Sem.run_pure, Result.andThen_ok, List.map_toArray, List.map_cons, List.map_nil, hd, hs, hrun]
  rw [hX]

/-- The slice '.slice a n _' reads as the texts T, each with room for what it has. -/
def RdTc (w : World) (a : Option Addr) (n : Nat) (T : List (List Nat)) : Prop :=
  T.length = n ∧ (0 < n → ∃ b o, a = some ⟨b, o, none⟩ ∧ ∀ j, j < n → ∃ aj cj, w.cell? ⟨b, o + j, none⟩ = some (.slice aj (T.getD j []).length cj) ∧ Rd w aj (T.getD j []).length (T.getD j []) ∧ (T.getD j []).length ≤ cj)

set_option maxHeartbeats 2000000 in
set_option maxRecDepth 100000 in
theorem rootBytes_walk (w : World) (nn : Int) (a : Option Addr) (n c : Nat) (X : List (List Nat)) (h : RdTc w a n X) (hn : n ≤ 30) :
    Calls Try.prog 3 #[.int .i64 nn, .slice a n c] w fun e w' => e = .returned (.bool true) ∧ Below w.heap.size w w' := by
  obtain ⟨u, hu⟩ : ∃ u : Nat, IntKind.u64.wrap nn = (u : Int) := ⟨(IntKind.u64.wrap nn).toNat, by rw [IntKind.wrap_u64]; omega⟩
  obtain ⟨r, hr⟩ : ∃ r : Nat, r = u % 20 := ⟨_, rfl⟩
  have hr9 : r < 20 := by omega
  have htm : (u : Int).tmod 20 = (r : Int) := by rw [Int.tmod_eq_emod_of_nonneg (by omega)]; omega
  obtain ⟨k, hk⟩ : ∃ k : Nat, k = 4 + r := ⟨_, rfl⟩
  have hk1 : 4 + (r : Int) = (k : Int) := by omega
  have hk9 : 4 ≤ k ∧ k ≤ 23 := by omega
  obtain ⟨sk, hsk⟩ : ∃ sk, sk = sect k := ⟨_, rfl⟩
  have hsk1 : ((k : Int) - 2) / 2 = (sk : Int) := by rw [hsk]; unfold sect; omega
  have hsk2 : 1 ≤ sk ∧ sk ≤ 10 ∧ 2 + 2 * sk ≤ k := by rw [hsk]; unfold sect; omega
  obtain ⟨KK, hKK⟩ : ∃ KK : Nat, KK = 64 * k := ⟨_, rfl⟩
  have hwK : 64 * (k : Int) = (KK : Int) := by omega
  have hKb : KK ≤ 2000 := by omega
  have hmk := run_mkN KK (by omega)
  have HSK := Lib.hid hsk
  have HKK := Lib.hid hKK
  have HR := Lib.hid h
  have HL := Lib.hid (lives_any w)
  clear hr hk h hsk hKK
  go_enter Try.func3, Try.ntmps3
  go_wp2_with fail
  refine HL.out.mono ?_
  rintro e w1 ⟨rfl, hb1⟩
  have HB1 := Lib.hid hb1
  have HN := Lib.hid (new_at w1)
  clear hb1 HL
  go_wp2_with fail
  refine HN.out.mono ?_
  rintro e w2 ⟨gp, rfl, hgp, hp2, hb2⟩
  have HN2 := Lib.hid (dnew_at w2 k gp _ hp2 (by omega) (by omega))
  have HB2 := Lib.hid (HB1.out.trans (hb2.mono HB1.out.size))
  have HGP := Lib.hid (Nat.le_trans HB1.out.size hgp)
  clear hp2 hb2 hgp HN
  go_wp2_with fail
  refine HN2.out.mono ?_
  rintro e w3 ⟨gd, gb, rfl, hgd, hgb, hd3, hb3⟩
  have HB3 := Lib.hid (HB2.out.trans (hb3.mono HB2.out.size))
  have HG := Lib.hid (And.intro HGP.out (And.intro (Nat.le_trans HB2.out.size hgb) (Nat.le_trans HB2.out.size hgd)))
  have HO3 := Lib.hid (open_inv _ gd gp gb k 0 _ _ [] hd3 hk9.1 (by omega) rfl (rinv_new k hk9.1) 6 rfl)
  have HD3 := Lib.hid hd3
  clear hd3 hb3 hgd hgb HN2 HGP
  go_wp2_with fail
  refine HO3.out.mono ?_
  rintro e w4 ⟨gr, a4, c4, rfl, hgr, hrd4, hr4, hb4⟩
  have HD4 := Lib.hid (HD3.out.later hb4)
  have HB4 := Lib.hid (HB3.out.trans (hb4.mono HB3.out.size))
  have HR4 := Lib.hid hr4
  have HNE : Hid (w.heap.size ≤ gr ∧ gr ≠ gd ∧ gr ≠ gp ∧ gr ≠ gb) := Lib.hid ⟨Nat.le_trans HB3.out.size hgr, by have := HD3.out.lts; omega⟩
  have HRM := Lib.hid (room_any w4 gr gd gp gb k 0 _ _ hr4 HD4.out hk9.1)
  have HGN := Lib.hid (gen_any w4 gr gd 0 hr4)
  rw [← HSK.out] at HRM
  obtain ⟨RM, hRM⟩ : ∃ RM, RM = 64 * sk := ⟨_, rfl⟩
  have hRM1 : (sk : Int) * 64 = (RM : Int) := by omega
  rw [← hRM] at HRM
  have HRE := Lib.hid hRM
  clear HD3 HB3 hb4 hr4 hrd4 hgr HO3 hRM
  go_wp2_with fail
  refine HRM.out.mono ?_
  rintro e w5 ⟨rfl, rfl⟩
  go_wp2_with fail
  refine HGN.out.mono ?_
  rintro e w5 ⟨rfl, rfl⟩
  go_wp2
  obtain ⟨ga, hga⟩ : ∃ ga, ga = w5.heap.size := ⟨_, rfl⟩
  rw [← hga]
  have HGA0 : Hid ((w5.alloc (rowObj 5 (List.replicate KK 0))).heap[ga]? = some (rowObj 5 (List.replicate (64 * k) 0))) := Lib.hid (by rw [hga, HKK.out]; exact heap_alloc_new w5 _)
  have HGAN : Hid (w.heap.size ≤ ga ∧ ga ≠ gd ∧ ga ≠ gp ∧ ga ≠ gb ∧ ga ≠ gr) := Lib.hid (by
    have h1 := HB4.out.size
    have h2 := HD4.out.lts
    have h3 := lt_of_block HR4.out
    omega)
  clear hga HRM HGN
  go_loopg [12, 13, 70] n (fun gk v12 v13 i wr => ∃ (j G cnt : Nat) (b0 L : List Nat), gk = n - j ∧ j ≤ n ∧ i = .int .i64 (j : Int) ∧ v12 = .int .u64 (G : Int) ∧ v13 = .string (strB b0) ∧ Hid (Dsk wr gd gp gb ⟨true, none, cnt⟩ L k ∧ cnt ≤ 4000 * j ∧ RInv L k G b0 ∧ G ≤ j ∧ wr.heap[gr]? = some (rootObj gd G) ∧ wr.heap[ga]? = some (rowObj 5 L) ∧ Below w.heap.size w wr))
  case atStart =>
    refine ⟨0, 0, 0, [], _, rfl, Nat.zero_le _, rfl, rfl, rfl, Lib.hid ⟨HD4.out.later (Below.alloc0 _ _), Nat.le_refl _, rinv_new k hk9.1, Nat.le_refl _, ?_, HGA0.out, HB4.out.alloc HB4.out.size _⟩⟩
    exact (heap_alloc_old w5 _ (lt_of_block HR4.out)).trans HR4.out
  case round =>
    obtain ⟨j, G, cnt, b0, L, hgk, hj, rfl, rfl, rfl, HI⟩ := hrel
    have HGK := Lib.hid hgk
    clear hgk HD4 HR4 HB4 hu hr9 htm hk1 hmk HGA0
    by_cases hlt : j < n
    · obtain ⟨b, o, rfl, hc⟩ := HR.out.2 (by omega)
      obtain ⟨ab, cb, e0, hx, hxc⟩ := hc j hlt
      obtain ⟨bb, hbb⟩ : ∃ bb, bb = X.getD j [] := ⟨_, rfl⟩
      rw [← hbb] at e0 hx hxc
      have hbl : b < w.heap.size := World.block_lt_of_cell? w _ e0
      have e0 : wr.cell? ⟨b, o + j, none⟩ = some (.slice ab bb.length cb) := (HI.out.2.2.2.2.2.2.cell (p := ⟨b, o + j, none⟩) hbl).trans e0
      obtain ⟨nb, hnb⟩ : ∃ nb, nb = bb.length := ⟨_, rfl⟩
      rw [← hnb] at e0 hx hxc
      have HX := Lib.hid hx
      have HXC := Lib.hid hxc
      have HLE := Lib.hid (Nat.le_of_lt hlt)
      have HNB := Lib.hid hnb
      have HOFF : Hid (0 < nb → Off ab [gp, gb]) := by
        refine Lib.hid fun h0 ad e => ?_
        obtain ⟨xb, xo, e', hcx⟩ := hx.2.2 h0
        rw [e] at e'
        injection e' with e'
        have hlx : xb < w.heap.size := World.block_lt_of_cell? w _ (hcx 0 h0)
        have hg := HG.out
        rw [e']
        simp only [List.mem_cons, List.not_mem_nil, or_false, not_or]
        omega
      clear hc hbb hx hxc hbl hnb
      by_cases hbig : 3000 < nb
      · go_wp2
        go_ret
        exact ⟨rfl, HI.out.2.2.2.2.2.2⟩
      · have hnb : nb ≤ 3000 := by omega
        clear hbig
        by_cases hfull : RM < nb
        · have hfull' : (RM : Int) < (nb : Int) := by omega
          have HC := Lib.hid (commit_full wr gr gd gp gb k G _ L HI.out.2.2.2.2.1 HI.out.1 hk9.1 ab nb cb (by rw [← HSK.out, ← HRE.out]; exact hfull))
          go_wp2_with fail
          refine HC.out.mono ?_
          rintro e wT ⟨rfl, rfl⟩
          obtain ⟨GT, hGT⟩ : ∃ GT, GT = G := ⟨_, rfl⟩
          obtain ⟨bT, hbT⟩ : ∃ bT, bT = b0 := ⟨_, rfl⟩
          obtain ⟨LT, hLT⟩ : ∃ LT, LT = L := ⟨_, rfl⟩
          obtain ⟨cT, hcT⟩ : ∃ cT, cT = cnt := ⟨_, rfl⟩
          rw [← hGT, ← hbT, ← hLT, ← hcT] at HI
          rw [← hGT, ← hbT]
          have HT := Lib.hid (And.intro HI.out.1 (And.intro (show cT ≤ 4000 * (j + 1) by have := HI.out.2.1; omega) (And.intro HI.out.2.2.1 (And.intro (show GT ≤ j + 1 by have := HI.out.2.2.2.1; omega) HI.out.2.2.2.2))))
          clear hGT hbT hLT hcT HI HC
          have hLT := HT.out.1.len
          have HGA := Lib.hid (getAll_yes wT gd gp gb k _ LT 0 KK HT.out.1 (by omega) (by have := HKK.out; omega) rfl (by omega))
          have hcutL : dCut LT 0 KK = LT := by unfold dCut; rw [Nat.mul_zero, List.drop_zero, List.take_of_length_le (by have := HKK.out; omega)]
          rw [hcutL] at HGA
          clear hcutL hLT
          go_wp2_with fail
          refine HGA.out.mono ?_
          rintro e wU ⟨vU, rfl, hoU, hbU⟩
          obtain ⟨E6, hE6⟩ : ∃ E6 : Nat, E6 = if GT = 0 then 6 else 0 := ⟨_, rfl⟩
          have HOP := Lib.hid (open_inv wU gd gp gb k GT _ LT bT (HT.out.1.later hbU) hk9.1 (by omega) rfl HT.out.2.2.1 E6 hE6)
          obtain ⟨aU, cU, rfl, hrU, _⟩ := hoU.sl
          have HRU := Lib.hid hrU
          have HBU := Lib.hid hbU
          have HE6 := Lib.hid hE6
          clear hoU hrU hbU hE6 HGA
          go_wp2_with fail
          refine HOP.out.mono ?_
          rintro e wV ⟨gs, aV, cV, rfl, hgs, hrV, hrs, hbV⟩
          have hbTV : Below wT.heap.size wT wV := HBU.out.trans (hbV.mono HBU.out.size)
          have vU := conv_rd (HRU.out.later hbV) cU
          have vV := conv_rd hrV cV
          have vA : (convert 32 9 (.slice (some ⟨ga, 0, none⟩) KK KK)).run Try.prog wV = .ok (.string (strB LT)) wV := conv_rd ((rd_rowObj HT.out.2.2.2.2.2.1 (by rw [HT.out.1.len, HKK.out]) HT.out.1.byte).later hbTV) KK
          have HGR := Lib.hid (gen_any wV gr gd GT ((hbTV.block gr (lt_of_block HT.out.2.2.2.2.1)).trans HT.out.2.2.2.2.1))
          have HGSn := Lib.hid (gen_any wV gs gd GT hrs)
          obtain ⟨z, hz⟩ : ∃ z, z = decide (0 < GT) := ⟨_, rfl⟩
          have hz1 : ((E6 : Int) == 0) = z := by rw [HE6.out, hz]; by_cases h : GT = 0 <;> simp [h] <;> omega
          have hz2 : decide ((0 : Int) < (GT : Int)) = z := by rw [hz]; simp
          have hz3 : decide (0 < GT) = z := hz.symm
          have HBV := Lib.hid hbTV
          clear hbTV hrV hrs hbV hgs hz HOP HRU HBU HE6
          go_wp2_with fail
          refine HGR.out.mono ?_
          rintro e wW ⟨rfl, rfl⟩
          go_wp2_with fail
          refine HGSn.out.mono ?_
          rintro e wW ⟨rfl, rfl⟩
          go_wp2
          go_roundg (n - (j + 1))
          case measure => have := HGK.out; omega
          case rel =>
            obtain ⟨t1, t2, t3, t4, t5, t6, t7⟩ := HT.out
            exact ⟨j + 1, GT, cT, bT, LT, rfl, by omega, by go_num, rfl, rfl, Lib.hid ⟨t1.later HBV.out, t2, t3, t4, (HBV.out.block gr (lt_of_block t5)).trans t5, (HBV.out.block ga (lt_of_block t6)).trans t6, t7.trans (HBV.out.mono t7.size)⟩⟩
        · have hfull' : ¬ (RM : Int) < (nb : Int) := by omega
          have hGj := HI.out.2.2.2.1
          obtain ⟨GT, hGT⟩ : ∃ GT, GT = G + 1 := ⟨_, rfl⟩
          obtain ⟨i, hi⟩ : ∃ i, i = GT % 2 := ⟨_, rfl⟩
          have hi2 : i < 2 := by omega
          have hGb : GT ≤ 31 := by omega
          have hG1 : (G : Int) + 1 = (GT : Int) := by omega
          have hI1 : (GT : Int).tmod 2 = (i : Int) := by rw [Int.tmod_eq_emod_of_nonneg (by omega)]; omega
          have hI2 : (GT : Int) % 2 = (i : Int) := by omega
          obtain ⟨P, hP⟩ : ∃ P, P = i * sk := ⟨_, rfl⟩
          have hP1 : (i : Int) * (sk : Int) = (P : Int) := by rw [hP]; simp
          have hPb : P ≤ 10 ∧ 2 + P + sk ≤ k := by rcases (by omega : i = 0 ∨ i = 1) with h | h <;> rw [hP, h] <;> omega
          obtain ⟨AT, hAT⟩ : ∃ AT, AT = 64 * (2 + P) := ⟨_, rfl⟩
          have hA1 : 64 * (2 + (P : Int)) = (AT : Int) := by omega
          have hAb : AT + RM ≤ KK ∧ AT < KK := by have := HKK.out; have := HRE.out; omega
          obtain ⟨I64, hI64⟩ : ∃ I64, I64 = 64 * i := ⟨_, rfl⟩
          have hJ1 : 64 * (i : Int) = (I64 : Int) := by omega
          have hJb : I64 + 64 ≤ KK := by have := HKK.out; omega
          have hwr : IntKind.u64.wrap (I64 : Int) = (I64 : Int) := by rw [IntKind.wrap_u64]; omega
          obtain ⟨m1, hm1⟩ : ∃ m1, m1 = nb % 64 := ⟨_, rfl⟩
          have hm1a : (nb : Int).tmod 64 = (m1 : Int) := by rw [Int.tmod_eq_emod_of_nonneg (by omega)]; omega
          have hm1b : (nb : Int) % 64 = (m1 : Int) := by omega
          have hm1c : m1 < 64 := by omega
          obtain ⟨Z, hZ⟩ : ∃ Z, Z = (64 - m1) % 64 := ⟨_, rfl⟩
          have hZa : (64 - (m1 : Int)).tmod 64 = (Z : Int) := by rw [Int.tmod_eq_emod_of_nonneg (by omega)]; omega
          have hZb : (64 - (m1 : Int)) % 64 = (Z : Int) := by omega
          have hZc : Z < 64 := by omega
          have hslA : ∀ W, (Instr.slice 32 (.slice (some ⟨ga, 0, none⟩) KK KK) (some (.int .i64 (AT : Int))) none none).run Try.prog W = .ok (.slice (some ⟨ga, AT, none⟩) (KK - AT) (KK - AT)) W := by
            intro W
            rw [slice_from _ _ _ _ _ (by omega), cutA, if_neg (by omega)]
            simp [add_plain]
          have hslB : ∀ W, (Instr.slice 32 (.slice (some ⟨ga, 0, none⟩) KK KK) (some (.int .u64 (I64 : Int))) none none).run Try.prog W = .ok (.slice (some ⟨ga, I64, none⟩) (KK - I64) (KK - I64)) W := by
            intro W
            rw [slice_from _ _ _ _ _ (by omega), cutA, if_neg (by omega)]
            simp [add_plain]
          have hbl : bb.length ≤ 64 * sect k := by rw [← HNB.out, ← HSK.out, ← HRE.out]; omega
          obtain ⟨cT, hcT⟩ : ∃ cT, cT = cnt + (bb.length + 63) / 64 + 1 := ⟨_, rfl⟩
          obtain ⟨LT, hLT⟩ : ∃ LT, LT = splice (splice L AT (padB bb)) I64 (rSec GT bb) := ⟨_, rfl⟩
          have hcom : rCom ⟨true, none, cnt⟩ L k G bb = (⟨true, none, cT⟩, LT, 0) := by
            rw [rCom_on HI.out.2.2.1.len hk9.1 (by omega) hbl, hLT, hcT, hI64, hAT, hP, hi, hGT, HSK.out]
          have hinv : RInv LT k GT bb := by
            have h := HI.out.2.2.1.commit (s := ⟨true, none, cnt⟩) (b := bb) hk9.1 (by omega) (by omega) rfl hbl
            rw [hcom] at h
            rw [hGT]
            exact (h.resolve_right (by simp)).2
          have HC : Hid (Calls Try.prog 12 #[.pointer (some ⟨gr, 0, none⟩), .slice ab nb cb] wr fun e w' => e = .returned (.int .i64 0) ∧ Dsk w' gd gp gb ⟨true, none, cT⟩ LT k ∧ w'.heap[gr]? = some (rootObj gd GT) ∧ Save [gp, gb, gr] wr w') := by
            refine Lib.hid ((commit_any wr gr gd gp gb k G (4000 * j) _ L HI.out.2.2.2.2.1 HI.out.1 hk9.1 HNE.out.2 (by omega) ⟨by simp, HI.out.2.1⟩ (by omega) ab nb cb bb (HX.out.later HI.out.2.2.2.2.2.2) (by rw [HNB.out]; exact hbl) HXC.out HOFF.out).mono ?_)
            rintro e w' ⟨he, hd, hr, hs, _⟩
            rw [hcom] at he hd hr
            rw [hGT]
            exact ⟨he, hd, hr, hs⟩
          have hpad : bb ++ List.replicate Z 0 = padB bb := by rw [padB, ← HNB.out, hZ, hm1]
          have hpl : (padB bb).length ≤ RM := by
            rw [padB_length, ← HNB.out]
            have := HRE.out
            unfold cl
            omega
          have HLL := Lib.hid (And.intro HI.out.2.2.1.len (And.intro hpad (And.intro hLT (And.intro hinv (show cT ≤ 4000 * (j + 1) by have := HI.out.2.1; have := HNB.out; omega)))))
          have hGj1 : GT ≤ j + 1 := by omega
          clear hGT hi hP hAT hI64 hm1 hZ hbl hcT hLT hcom hinv hpad hGj
          go_wp2_with fail
          refine HC.out.mono ?_
          rintro e w6 ⟨rfl, hd6, hr6, hs6⟩
          have hb6 : Below w.heap.size w w6 := HI.out.2.2.2.2.2.2.trans (hs6.below HI.out.2.2.2.2.2.2.size (by have := HG.out; have := HNE.out; simp; omega))
          have hga6 : w6.heap[ga]? = some (rowObj 5 L) := (hs6.block ga (lt_of_block HI.out.2.2.2.2.2.1) (by have := HGAN.out; simp; omega)).trans HI.out.2.2.2.2.2.1
          have vX := conv_rd (HX.out.later hb6) cb
          have H6 := Lib.hid (And.intro hd6 (And.intro hr6 (And.intro hb6 hga6)))
          have HX6 := Lib.hid (HX.out.later hb6)
          clear hd6 hr6 hs6 hb6 hga6 HC HI e0
          go_wp2_with (at_builtin; refine wpList_fresh rfl (.tmp 102) (.tmp 103) rfl w6.heap.size rfl ab nb cb rfl (heap_alloc_new w6 _) bb (HX6.out.later (Below.alloc0 _ _)) (by omega) ?next)
          case next =>
            intro gO cO w7 hgO hO hg7
            have HB7 := Lib.hid ((Below.alloc0 w6 _).grown hg7 (by simp) (by simp))
            have HO7 := Lib.hid hO
            clear hO hg7 hgO
            go_wp2_with (at_builtin; refine wpList_append_zeros rfl (.tmp 104) (.tmp 109) rfl gO nb cO rfl Z rfl w6.heap.size bb HO7.out HNB.out.symm HB7.out.size (by omega) ?next2)
            case next2 =>
              intro v8 w8 ho8 hb8
              rw [HLL.out.2.1] at ho8
              obtain ⟨a8, cs8, rfl, hr8, _⟩ := ho8.sl
              obtain ⟨PL, hPL⟩ : ∃ PL, PL = (padB bb).length := ⟨_, rfl⟩
              rw [← hPL] at hr8 hpl ⊢
              have HPL := Lib.hid hPL
              have HR8 := Lib.hid hr8
              have hb8' := HB7.out.trans hb8
              have HGA8 := Lib.hid ((hb8'.block ga (lt_of_block H6.out.2.2.2)).trans H6.out.2.2.2)
              have HB8 := Lib.hid hb8'
              clear hr8 ho8 hb8 hb8' hPL
              go_wp2_with (refine wpList_copy_bytes rfl (.tmp 113) (.tmp 114) rfl _ _ _ _ _ _ rfl rfl ga AT 5 L (padB bb) HGA8.out HR8.out (fun _ => rfl) ?fit (splice L AT (padB bb)) ?eq ?next3)
              case fit => rw [HLL.out.1, ← HKK.out]; omega
              case eq => rw [show min PL (KK - AT) = PL by omega, List.take_of_length_le (by rw [HPL.out]; exact Nat.le_refl _)]
              case next3 =>
                intro w9 H9
                go_upto_region 25 with fail
                obtain ⟨wD, hD⟩ : ∃ wD, wD = w9.drew := ⟨_, rfl⟩
                have HD := Lib.hid hD
                clear hD
                have hs6D : Save [ga] w6 wD := by
                  rw [HD.out, H9.out]
                  exact ((Save.of_below HB8.out _).put (by simp) _).drew
                have hgaD : wD.heap[ga]? = some (rowObj 5 (splice L AT (padB bb))) := by
                  rw [HD.out, H9.out]
                  exact put_same HGA8.out
                have hbD : Below w.heap.size w wD := H6.out.2.2.1.trans (hs6D.below H6.out.2.2.1.size (by have := HGAN.out; simp; omega))
                have HSD := Lib.hid hs6D
                have HGD := Lib.hid hgaD
                have HSEC := Lib.hid (lawSector_any GT ab nb cb bb wD (HX.out.later hbD) hnb)
                have HBD := Lib.hid hbD
                have e64 := rSec_len GT bb (by have := HNB.out; omega)
                have HE64 := Lib.hid e64
                clear hs6D hgaD hbD HB8 HGA8 HR8 H9 HB7 HO7 e64
                refine wp_region_held_drew (S := fun _ => True) (by kernel_rfl) trivial (fun _ => ?_)
                rw [← HD.out]
                refine wpAnyH_take (i := 0) (v := ?vq0) rfl (by kernel_rfl) (by kernel_rfl) (by kernel_rfl) (fun _ _ _ h => h) (Or.inl ⟨by rfl, ?hq0⟩) trivial ?rq0
                case hq0 => (intro W hW; (try dsimp only at hW); go_simp; try with_reducible rfl)
                simp only [Act.put, List.getElem_toArray, List.getElem_cons_succ, List.getElem_cons_zero, List.setIfInBounds_toArray, List.set_cons_zero, List.set_cons_succ]
                refine wpAnyH_take (i := 1) (v := ?vq1) rfl (by kernel_rfl) (by kernel_rfl) (by kernel_rfl) (fun _ _ _ h => h) (Or.inl ⟨by rfl, ?hq1⟩) trivial ?rq1
                case hq1 => (intro W hW; (try dsimp only at hW); go_simp; try with_reducible rfl)
                simp only [Act.put, List.getElem_toArray, List.getElem_cons_succ, List.getElem_cons_zero, List.setIfInBounds_toArray, List.set_cons_zero, List.set_cons_succ]
                refine wpAnyH_take (i := 2) (v := ?vq2) rfl (by kernel_rfl) (by kernel_rfl) (by kernel_rfl) (fun _ _ _ h => h) (Or.inl ⟨by rfl, ?hq2⟩) trivial ?rq2
                case hq2 => (intro W hW; (try dsimp only at hW); go_simp; try with_reducible rfl)
                simp only [Act.put, List.getElem_toArray, List.getElem_cons_succ, List.getElem_cons_zero, List.setIfInBounds_toArray, List.set_cons_zero, List.set_cons_succ]
                refine wpAnyH_take (i := 3) (v := ?vq3) rfl (by kernel_rfl) (by kernel_rfl) (by kernel_rfl) (fun _ _ _ h => h) (Or.inl ⟨by rfl, ?hq3⟩) trivial ?rq3
                case hq3 => (intro W hW; (try dsimp only at hW); go_simp; try with_reducible rfl)
                simp only [Act.put, List.getElem_toArray, List.getElem_cons_succ, List.getElem_cons_zero, List.setIfInBounds_toArray, List.set_cons_zero, List.set_cons_succ]
                refine wpAnyH_take (i := 4) (v := ?vq4) rfl (by kernel_rfl) (by kernel_rfl) (by kernel_rfl) (fun _ _ _ h => h) (Or.inl ⟨by rfl, ?hq4⟩) trivial ?rq4
                case hq4 => (intro W hW; (try dsimp only at hW); go_simp; try with_reducible rfl)
                simp only [Act.put, List.getElem_toArray, List.getElem_cons_succ, List.getElem_cons_zero, List.setIfInBounds_toArray, List.set_cons_zero, List.set_cons_succ]
                refine wpAnyH_take (i := 5) (v := ?vq5) rfl (by kernel_rfl) (by kernel_rfl) (by kernel_rfl) (fun _ _ _ h => h) (Or.inl ⟨by rfl, ?hq5⟩) trivial ?rq5
                case hq5 => (intro W hW; (try dsimp only at hW); go_simp; try with_reducible rfl)
                simp only [Act.put, List.getElem_toArray, List.getElem_cons_succ, List.getElem_cons_zero, List.setIfInBounds_toArray, List.set_cons_zero, List.set_cons_succ]
                refine wpAnyH_take (i := 6) (v := ?vq6) rfl (by kernel_rfl) (by kernel_rfl) (by kernel_rfl) (fun _ _ _ h => h) (Or.inl ⟨by rfl, ?hq6⟩) trivial ?rq6
                case hq6 => (intro W hW; (try dsimp only at hW); go_simp; try with_reducible rfl)
                simp only [Act.put, List.getElem_toArray, List.getElem_cons_succ, List.getElem_cons_zero, List.setIfInBounds_toArray, List.set_cons_zero, List.set_cons_succ]
                refine wpAnyH_ready (rs := [7]) (by kernel_rfl) (by simp) ?_
                refine AllReadyH.cons rfl (fun K hK => ?_) AllReadyH.nil
                refine ready_call (f := 13) (vs := #[.int .u64 (GT : Int), .slice ab nb cb]) (by rfl) (by (go_simp; try with_reducible rfl)) ?_
                refine HSEC.out.mono ?_
                rintro e w11 ⟨v11, rfl, ho11, hb11⟩
                obtain ⟨a11, c11, rfl, hr11, _⟩ := ho11.sl
                rw [HE64.out] at hr11 ⊢
                refine ⟨_, rfl, hK.out _ _ trivial (fun _ => ?_)⟩
                clear hK K
                simp only [Act.put, List.getElem_toArray, List.getElem_cons_succ, List.getElem_cons_zero, List.setIfInBounds_toArray, List.set_cons_zero, List.set_cons_succ]
                have HR11 := Lib.hid hr11
                have HGE := Lib.hid ((hb11.block ga (lt_of_block HGD.out)).trans HGD.out)
                have HB11 := Lib.hid hb11
                clear ho11 hr11 hb11 HSEC HD
                refine wpAnyH_ready (rs := [8]) (by kernel_rfl) (by simp) ?_
                refine AllReadyH.cons rfl (fun K hK => ?_) AllReadyH.nil
                refine ready_made (by rfl) (exec_copy (.tmp 120) (.tmp 123) rfl (some ⟨ga, I64, none⟩) a11 (KK - I64) (KK - I64) 64 c11 rfl rfl ga I64 5 (splice L AT (padB bb)) (rSec GT bb) HGE.out HR11.out (fun _ => rfl) ?fit2 LT ?eq2) ?next4
                case fit2 =>
                  rw [length_splice _ _ _ (by rw [← HPL.out, HLL.out.1, ← HKK.out]; omega), HLL.out.1, ← HKK.out]
                  omega
                case eq2 => rw [show min 64 (KK - I64) = 64 by omega, List.take_of_length_le (by rw [HE64.out]; exact Nat.le_refl _), HLL.out.2.2.1]
                case next4 =>
                  refine hK.out _ _ trivial (fun _ => ?_)
                  clear hK K
                  simp only [Act.put, List.getElem_toArray, List.getElem_cons_succ, List.getElem_cons_zero, List.setIfInBounds_toArray, List.set_cons_zero, List.set_cons_succ]
                  obtain ⟨wT, h12⟩ : ∃ wT, wT = put w11 ga (rowObj 5 LT) := ⟨_, rfl⟩
                  rw [← h12]
                  have H12 := Lib.hid h12
                  clear h12
                  refine wpAnyH_done (by kernel_rfl) ?_ _
                  have hs12 : Save [ga] w6 wT := by
                    rw [H12.out]
                    exact (HSD.out.trans (Save.of_below HB11.out _)).put (by simp) _
                  have hgaT : wT.heap[ga]? = some (rowObj 5 LT) := by rw [H12.out]; exact put_same HGE.out
                  obtain ⟨bT, hbT⟩ : ∃ bT, bT = bb := ⟨_, rfl⟩
                  have HT : Hid (Dsk wT gd gp gb ⟨true, none, cT⟩ LT k ∧ cT ≤ 4000 * (j + 1) ∧ RInv LT k GT bT ∧ GT ≤ j + 1 ∧ wT.heap[gr]? = some (rootObj gd GT) ∧ wT.heap[ga]? = some (rowObj 5 LT) ∧ Below w.heap.size w wT) := by
                    have hgn := HGAN.out
                    refine Lib.hid ⟨H6.out.1.save hs12 (by simp; omega), HLL.out.2.2.2.2, by rw [hbT]; exact HLL.out.2.2.2.1, hGj1, (hs12.block gr (lt_of_block H6.out.2.1) (by simp; omega)).trans H6.out.2.1, hgaT, H6.out.2.2.1.trans (hs12.below H6.out.2.2.1.size (by simp; omega))⟩
                  rw [← hbT]
                  clear hs12 hgaT hbT H12 HSD HGD HGE HR11 HB11 HBD HE64 hslA hslB vX hI1 hI2 hP1 hA1 hJ1 hm1a hm1b hZa hZb hG1 hwr
                  have hLT := HT.out.1.len
                  have HGA := Lib.hid (getAll_yes wT gd gp gb k _ LT 0 KK HT.out.1 (by omega) (by have := HKK.out; omega) rfl (by omega))
                  have hcutL : dCut LT 0 KK = LT := by unfold dCut; rw [Nat.mul_zero, List.drop_zero, List.take_of_length_le (by have := HKK.out; omega)]
                  rw [hcutL] at HGA
                  clear hcutL hLT
                  go_wp2_with fail
                  refine HGA.out.mono ?_
                  rintro e wU ⟨vU, rfl, hoU, hbU⟩
                  obtain ⟨E6, hE6⟩ : ∃ E6 : Nat, E6 = if GT = 0 then 6 else 0 := ⟨_, rfl⟩
                  have HOP := Lib.hid (open_inv wU gd gp gb k GT _ LT bT (HT.out.1.later hbU) hk9.1 (by omega) rfl HT.out.2.2.1 E6 hE6)
                  obtain ⟨aU, cU, rfl, hrU, _⟩ := hoU.sl
                  have HRU := Lib.hid hrU
                  have HBU := Lib.hid hbU
                  have HE6 := Lib.hid hE6
                  clear hoU hrU hbU hE6 HGA
                  go_wp2_with fail
                  refine HOP.out.mono ?_
                  rintro e wV ⟨gs, aV, cV, rfl, hgs, hrV, hrs, hbV⟩
                  have hbTV : Below wT.heap.size wT wV := HBU.out.trans (hbV.mono HBU.out.size)
                  have vU := conv_rd (HRU.out.later hbV) cU
                  have vV := conv_rd hrV cV
                  have vA : (convert 32 9 (.slice (some ⟨ga, 0, none⟩) KK KK)).run Try.prog wV = .ok (.string (strB LT)) wV := conv_rd ((rd_rowObj HT.out.2.2.2.2.2.1 (by rw [HT.out.1.len, HKK.out]) HT.out.1.byte).later hbTV) KK
                  have HGR := Lib.hid (gen_any wV gr gd GT ((hbTV.block gr (lt_of_block HT.out.2.2.2.2.1)).trans HT.out.2.2.2.2.1))
                  have HGSn := Lib.hid (gen_any wV gs gd GT hrs)
                  obtain ⟨z, hz⟩ : ∃ z, z = decide (0 < GT) := ⟨_, rfl⟩
                  have hz1 : ((E6 : Int) == 0) = z := by rw [HE6.out, hz]; by_cases h : GT = 0 <;> simp [h] <;> omega
                  have hz2 : decide ((0 : Int) < (GT : Int)) = z := by rw [hz]; simp
                  have hz3 : decide (0 < GT) = z := hz.symm
                  have HBV := Lib.hid hbTV
                  clear hbTV hrV hrs hbV hgs hz HOP HRU HBU HE6
                  go_wp2_with fail
                  refine HGR.out.mono ?_
                  rintro e wW ⟨rfl, rfl⟩
                  go_wp2_with fail
                  refine HGSn.out.mono ?_
                  rintro e wW ⟨rfl, rfl⟩
                  go_wp2
                  go_roundg (n - (j + 1))
                  case measure => have := HGK.out; omega
                  case rel =>
                    obtain ⟨t1, t2, t3, t4, t5, t6, t7⟩ := HT.out
                    exact ⟨j + 1, GT, cT, bT, LT, rfl, by omega, by go_num, rfl, rfl, Lib.hid ⟨t1.later HBV.out, t2, t3, t4, (HBV.out.block gr (lt_of_block t5)).trans t5, (HBV.out.block ga (lt_of_block t6)).trans t6, t7.trans (HBV.out.mono t7.size)⟩⟩
    · obtain rfl : j = n := by omega
      go_wp2
      go_ret
      exact ⟨rfl, HI.out.2.2.2.2.2.2⟩

end Go.Proofs.Ytpdpnlgiaehegaa
