/- The contract of the document's Read of an image, over any world. -/
import Derived.Test.YtlmieegemckodaaIRead
import Derived.Test.YtlmieegemckodaaIRefPut
import Derived.Test.YtlmieegemckodaaIRefIn
import Derived.Test.YtlmieegemckodaaRefRdrBytes
import Derived.Test.YtlmieegemckodaaERefReadR
import Derived.BigQuiet
import Derived.Deep.DeepCutAuto
namespace Go.Proofs.Ytlmieegemckodaa
open Go.RowKit Go.Shelf
set_option linter.unusedSimpArgs false

/-- The numbers of a set below i. -/
def belowN (M : List Rn) (i : Nat) : List Int := ((List.range i).filter fun k : Nat => inB M (k : Int)).map fun k : Nat => (k : Int)

theorem belowN_succ (M : List Rn) (i : Nat) : belowN M (i + 1) = belowN M i ++ (if inB M (i : Int) = true then [(i : Int)] else []) := by
  unfold belowN
  rw [List.range_succ, List.filter_append, List.map_append]
  by_cases h : inB M (i : Int) = true
  · rw [if_pos h]; simp [h]
  · rw [if_neg h]; simp [h]

theorem belowN_sorted (M : List Rn) (i : Nat) : (belowN M i).Pairwise (· < ·) := by
  unfold belowN
  rw [List.pairwise_map]
  refine List.Pairwise.imp (fun {a b} (h : a < b) => ?_) (List.Pairwise.filter _ List.pairwise_lt_range)
  omega

theorem mem_belowN {M : List Rn} {i : Nat} {z : Int} : z ∈ belowN M i ↔ 0 ≤ z ∧ z < i ∧ inR M z := by
  unfold belowN
  simp only [List.mem_map, List.mem_filter, List.mem_range]
  constructor
  · rintro ⟨k, ⟨h1, h2⟩, rfl⟩
    exact ⟨by omega, by omega, inB_iff.1 h2⟩
  · rintro ⟨h1, h2, h3⟩
    exact ⟨z.toNat, ⟨by omega, inB_iff.2 (by rw [show ((z.toNat : Nat) : Int) = z by omega]; exact h3)⟩, by omega⟩

theorem belowN_all {M : List Rn} (h : Pos M) (ht : ∀ r ∈ M, r.t ≤ ((256 : Nat) : Int)) : belowN M 256 = numsR M :=
  sorted_ext (belowN_sorted M 256) (numsR_sorted h) fun z => by
    rw [mem_belowN, mem_numsR]
    constructor
    · exact fun h => h.2.2
    · intro hz
      have := h.nums ht z (mem_numsR.2 hz)
      exact ⟨this.1, by omega, hz⟩

theorem belowN_len {M : List Rn} {i : Nat} : (belowN M i).length ≤ (numsR M).length := by
  refine List.Nodup.length_le_of_subset ((belowN_sorted M i).imp (fun {a b} hab => by omega)) fun z hz => ?_
  exact mem_numsR.2 (mem_belowN.1 hz).2.2

theorem wpStill_skp {P : Program} {ops : Array Oper} {Q : Act → Prop} {a : Act} {w : World} {rest : List Oper} {o : Oper} (hw : Region.wanted o (yielded ops a.tmps) = true)
    (hrun : (execOp a.eval o).run P w = .ok .skip w) (h : wpStill P ops w Q rest (a.put o.dst undef)) : wpStill P ops w Q (o :: rest) a :=
  wpStill_step fun K hK => by
    simp only [hw, if_true]
    unfold Oper.still
    rw [hrun, Oper.stillUpon_skip]
    exact hK _ h

/-- An image stored over itself. -/
theorem wpStill_store_same {w : World} {ops : Array Oper} {rest : List Oper} {o : Oper} {a : Act} {Q : Act → Prop} (hw : Region.wanted o (yielded ops a.tmps) = true) (p v : Operand) (hop : o.op = Op.store 29 p v)
    (g : Nat) (F : List (List Nat)) (hp : a.eval p = .pointer (some ⟨g, 0, none⟩)) (hv : a.eval v = .agg (cS F).toArray) (hg : w.heap[g]? = some (arrObj F)) (hl : F.length = 256)
    (h : wpStill Try.prog ops w Q rest (a.put o.dst undef)) : wpStill Try.prog ops w Q (o :: rest) a :=
  wpStill_skp hw (by
    have h1 := run_store_img (F' := F) hg hl hl
    rw [put_self hg] at h1
    simp only [execOp, hop, hp, hv, Sem.run_bind, h1, Result.andThen, Sem.run_pure]) h

/-- How many numbers runs have. -/
def sumTF (L : List Rn) : Int := (L.map fun r => r.t - r.f).sum

theorem sumTF_take {L : List Rn} {j : Nat} (hj : j < L.length) : sumTF (L.take (j + 1)) = sumTF (L.take j) + ((L.getD j default).t - (L.getD j default).f) := by
  unfold sumTF
  rw [List.take_succ_eq_append_getElem hj, List.map_append, List.sum_append]
  simp [List.getD, hj]

theorem sumTF_pos {M : List Rn} {a : Int} (h : Canon a M) : sumTF M = sumLen M := by
  induction M generalizing a with
  | nil => rfl
  | cons r M ih =>
    have h1 := ih h.2.2
    have h2 := h.2.1
    unfold sumTF at h1 ⊢
    rw [List.map_cons, List.sum_cons, h1, sumLen]
    simp only [h2, if_true]

theorem sumTF_bound {L : List Rn} (h : ∀ r ∈ L, 0 ≤ r.f ∧ r.f < r.t ∧ r.t ≤ 256) : 0 ≤ sumTF L ∧ sumTF L ≤ 256 * (L.length : Int) := by
  induction L with
  | nil => simp [sumTF]
  | cons r L ih =>
    have h1 := ih fun q hq => h q (by simp [hq])
    have h2 := h r (by simp)
    unfold sumTF at h1 ⊢
    rw [List.map_cons, List.sum_cons, List.length_cons]
    omega

theorem RdR.save {w w' : World} {X : List Nat} {a : Option Addr} {n : Nat} {L : List Rn} (h : RdR w a n L) (hs : Save X w w') (hX : ∀ b o, a = some ⟨b, o, none⟩ → b ∉ X) : RdR w' a n L := by
  refine ⟨h.1, fun hn => ?_⟩
  obtain ⟨b, o, rfl, hc⟩ := h.2 hn
  refine ⟨b, o, rfl, fun j hj => ?_⟩
  have hlt : b < w.heap.size := World.block_lt_of_cell? w _ (hc j hj).1
  have e := hs.block b hlt (hX b o rfl)
  exact ⟨(World.cell?_of_block (w := w) e).trans (hc j hj).1, (World.cell?_of_block (w := w) e).trans (hc j hj).2⟩

theorem Save.more {X Y : List Nat} {w w1 w2 : World} (h : Save X w w1) (h' : Save Y w1 w2) (hY : ∀ k ∈ Y, w.heap.size ≤ k ∨ k ∈ X) : Save X w w2 :=
  ⟨h'.os.trans h.os, h'.tape.trans h.tape, h'.output.trans h.output, Nat.le_trans h.size h'.size, fun k hk hx => (h'.block k (Nat.lt_of_lt_of_le hk h.size) (fun hy => by
    rcases hY k hy with h1 | h1
    · omega
    · exact hx h1)).trans (h.block k hk hx)⟩

/-- Bytes that lie below a block are read in every world that keeps what lies below it. -/
theorem rd_all {w W : World} {gx : Nat} {a : Option Addr} {n : Nat} {l : List Nat} (h : Rd w a n l) (hb : ∀ b o, a = some ⟨b, o, none⟩ → 0 < n → b < gx) (hk : ∀ k, k < gx → W.heap[k]? = w.heap[k]?) : Rd W a n l := by
  refine ⟨h.1, h.2.1, fun hn => ?_⟩
  obtain ⟨b, o, rfl, hc⟩ := h.2.2 hn
  exact ⟨b, o, rfl, fun j hj => (World.cell?_of_block (w := w) (hk b (hb b o rfl hn))).trans (hc j hj)⟩

set_option maxHeartbeats 4000000 in
set_option maxRecDepth 100000 in
theorem refImgRead_any (w : World) (g : Nat) (l : List Nat) (h : Rdr w 70 g 0 l) :
    Calls Try.prog 27 #[.pointer (some ⟨g, 0, none⟩)] w fun e w' => e = .returned (.tuple #[.agg (cS (imgRd l).2).toArray, .int .i64 ((imgRd l).1 : Int)]) ∧ Save [g] w w' := by
  have hgl : g < w.heap.size := by obtain ⟨a, n, c, hg, _⟩ := h; exact lt_of_block hg
  obtain ⟨PR, hPR⟩ : ∃ PR, PR = imgRd l := ⟨_, rfl⟩
  rw [← hPR]
  have HPR := Lib.hid hPR
  obtain ⟨g2, hg2⟩ : ∃ g2, g2 = w.heap.size := ⟨_, rfl⟩
  have HH := Lib.hid h
  have HGl := Lib.hid hgl
  clear h hPR hgl
  go_enter Try.func27, Try.ntmps27
  go_upto_region 1 with fail
  rw [zero_img]
  change Code.wp _ _ _ _ (w.alloc (arrObj holes))
  obtain ⟨w2, h2⟩ : ∃ w2, w2 = w.alloc (arrObj holes) := ⟨_, rfl⟩
  rw [← h2, ← hg2]
  have HB2 : Hid (Below g2 w w2) := Lib.hid (by rw [h2, hg2]; exact Below.alloc0 _ _)
  have HS2 : Hid (w2.heap.size = g2 + 1) := Lib.hid (by rw [h2, hg2]; simp)
  have HA2 : Hid (w2.heap[g2]? = some (arrObj holes)) := Lib.hid (by rw [h2, hg2]; exact heap_alloc_last _ _)
  have HR2 : Hid (Rdr w2 70 g 0 l) := Lib.hid (by
    obtain ⟨a, n, c, q1, q2, q3, q4⟩ := HH.out
    have hb : Below w.heap.size w w2 := by rw [h2]; exact Below.alloc0 _ _
    exact ⟨a, n, c, (hb.block g HGl.out).trans q1, q2.later hb, q3, q4⟩)
  have HG := Lib.hid hg2
  have HGn : Hid (g < g2) := Lib.hid (by rw [hg2]; exact HGl.out)
  clear h2 hg2 HH HGl
  have HBy := Lib.hid (refRdrBytes_any w2 g 0 l 9216 9216 (.inl rfl) (by omega) HR2.out)
  obtain ⟨⟨bb, E1, l1⟩, hrb⟩ : ∃ p, p = rByt 0 l 9216 := ⟨_, rfl⟩
  rw [← hrb] at HBy
  dsimp only at HBy
  have HRB := Lib.hid hrb.symm
  clear hrb
  go_wp2_with fail
  refine HBy.out.mono ?_
  rintro e w3 ⟨a, n, c, rfl, hnc, hr3, hrd3, hg3⟩
  have hA3 : w3.heap[g2]? = some (arrObj holes) := (hg3.block g2 (by rw [HS2.out]; omega) (by intro e; injection e with e; have := HGn.out; omega)).trans HA2.out
  have HA3 := Lib.hid hA3
  have HR3 := Lib.hid hr3
  have HS3 : Hid (Save [g] w w3) := Lib.hid ((Save.of_below (by rw [← HG.out]; exact HB2.out) [g]).grown hg3 (fun k hk => by injection hk with hk; right; simp [hk]))
  have HN3 : Hid (n ≤ c ∧ n ≤ 9216) := Lib.hid ⟨hnc, by
    have h1 := rByt_len 0 l 9216
    rw [HRB.out, hr3.1] at h1
    exact h1⟩
  have hcE : w3.cell? ⟨g, 1, none⟩ = some (.int .i64 (E1 : Int)) := by
    obtain ⟨a', n', c', q1, _⟩ := hrd3
    rw [cell_of_row w3 g 1 _ _ _ q1]; rfl
  have HRd3 := Lib.hid hrd3
  clear hnc hr3 hrd3 hg3 hA3 HBy HR2
  by_cases hE1 : E1 = 0
  · subst hE1
    obtain ⟨gx, hgx⟩ : ∃ gx, gx = w3.heap.size := ⟨_, rfl⟩
    obtain ⟨w4, hw4⟩ : ∃ w4, w4 = w3.alloc (.cells #[.slice a n c, .int .i64 0] 70) := ⟨_, rfl⟩
    have hw4' : w3.alloc (.cells #[.slice a n c, .int .i64 0] 70) = w4 := hw4.symm
    have HX4 : Hid (w4.heap[gx]? = some (.cells #[.slice a n c, .int .i64 ((0 : Nat) : Int)] 70 (0, 0))) := Lib.hid (by rw [hw4, hgx]; exact heap_alloc_last _ _)
    have HB4 : Hid (Below gx w3 w4) := Lib.hid (by rw [hw4, hgx]; exact Below.alloc0 _ _)
    have HS4 : Hid (w4.heap.size = gx + 1) := Lib.hid (by rw [hw4, hgx]; simp)
    have HR4 : Hid (Rdr w4 70 gx 0 bb) := Lib.hid ⟨a, n, c, HX4.out, HR3.out.later (by rw [← hgx]; exact HB4.out), HN3.out.1, by have := HN3.out.2; omega⟩
    have HRe := Lib.hid (refReadR_any w4 gx bb 256 256 (by omega) (by omega) (by omega) HR4.out)
    obtain ⟨⟨E2, M, e2, rest⟩, hrs⟩ : ∃ p, p = rdSet 0 bb 256 := ⟨_, rfl⟩
    rw [← hrs] at HRe
    dsimp only at HRe
    have HRs := Lib.hid hrs.symm
    have HGx := Lib.hid hgx
    have hgx' : w3.heap.size = gx := hgx.symm
    have HG2x : Hid (g2 < gx ∧ g < gx) := Lib.hid ⟨by rw [hgx]; exact lt_of_block HA3.out, by rw [hgx]; exact World.block_lt_of_cell? w3 _ hcE⟩
    clear hw4 hgx hrs
    go_wp2_with fail
    refine HRe.out.mono ?_
    rintro e w5 ⟨v5, rfl, ho5, hg5, hrd5⟩
    clear hw4' hgx' hcE
    have HB35 : Hid (Below gx w3 w5) := Lib.hid (HB4.out.grown hg5 (by rw [HS4.out]; omega) (fun k hk => by injection hk with hk; omega))
    have HA5 : Hid (w5.heap[g2]? = some (arrObj holes)) := Lib.hid ((HB35.out.block g2 HG2x.out.1).trans HA3.out)
    have HS5 : Hid (Save [g] w w5) := Lib.hid (HS3.out.trans (Save.of_below (by rw [← HGx.out]; exact HB35.out) [g]))
    have HO5 := Lib.hid ho5
    have HS45 : Hid (w4.heap.size ≤ w5.heap.size) := Lib.hid hg5.size
    have HRd5 := Lib.hid hrd5
    clear ho5 hg5 hrd5 HRe HA3 HA2
    by_cases hE2 : E2 = 0
    · subst hE2
      obtain ⟨hbb, hpos, hte, hrb⟩ := rdSet_back HR3.out.2.1 HRs.out
      have HPos := Lib.hid hpos
      have HTe := Lib.hid hte
      obtain ⟨sa, sc, rfl, hr5, _, hlo5⟩ := HO5.out.rd
      obtain ⟨la, nl, lc, q1, q2, q3, q4, _, q6⟩ := HRd5.out rfl
      have HX5 := Lib.hid q1
      have HLc := Lib.hid q3
      have HNl : Hid (rest.length = nl) := Lib.hid q2.1
      have HLa : Hid (∀ b o, la = some ⟨b, o, none⟩ → 0 < nl → b < gx) := Lib.hid (by
        intro b o e hn
        have h1 := q6 b o e hn
        rw [HS4.out] at h1
        rcases Nat.lt_or_ge b gx with h2 | h2
        · exact h2
        · obtain rfl : b = gx := by omega
          obtain ⟨b', o', e', hc⟩ := q2.2.2 hn
          rw [e] at e'
          injection e' with e'
          injection e' with e1 e2
          subst e1
          subst e2
          have h3 := hc 0 hn
          rw [cell_of_row w5 b _ _ _ _ q1] at h3
          rcases o with _ | _ | o
          · simp at h3
          · simp at h3
          · simp at h3)
      have HRa : Hid (∀ W, (∀ k, k < gx → W.heap[k]? = w5.heap[k]?) → Rd W la nl rest) := Lib.hid fun W hW => rd_all q2 HLa.out hW
      obtain ⟨ml, hml⟩ : ∃ ml, ml = M.length := ⟨_, rfl⟩
      rw [← hml] at hr5 ⊢
      have hml2 : ml ≤ 128 := by rw [hml]; exact hpos.len hte
      have HR5 := Lib.hid hr5
      have HLo5 := Lib.hid hlo5
      have HML := Lib.hid hml
      have HMe : Hid (∀ r ∈ M, 0 ≤ r.f ∧ r.f < r.t ∧ r.t ≤ 256) := Lib.hid fun r hr => by
        have h1 := canon_f hpos r hr
        have h2 := hte r hr
        omega
      obtain ⟨cn, hcn⟩ : ∃ cn, cn = (numsR M).length := ⟨_, rfl⟩
      have HSum : Hid (sumTF M = (cn : Int)) := Lib.hid (by rw [sumTF_pos hpos, sumLen_nums, hcn])
      have hcn2 : cn ≤ 256 := by rw [hcn]; exact hpos.numsLen hte
      have HCn := Lib.hid hcn
      have HRb := Lib.hid hrb
      clear hbb hpos hte hr5 hlo5 q1 q2 q3 q4 q6 hml hcn hrb HRd5
      go_wp2
      go_loopg [8, 9] ml (fun k s i wr => ∃ (j : Nat) (S : Int), k = ml - j ∧ j ≤ ml ∧ i = .int .i64 (j : Int) ∧ s = .int .i64 S ∧ Hid (S = sumTF (M.take j)) ∧ Hid (Below w5.heap.size w5 wr))
      case atStart => exact ⟨0, 0, rfl, Nat.zero_le _, rfl, rfl, Lib.hid (by simp [sumTF]), Lib.hid (Below.refl _ _)⟩
      case round =>
        obtain ⟨j, S, hk, hj, rfl, rfl, HSj, HBj⟩ := hrel
        have HK := Lib.hid hk
        clear hk
        have hSb := sumTF_bound (L := M.take j) (fun r hr => HMe.out r (List.mem_of_mem_take hr))
        rw [← HSj.out] at hSb
        have hSl : S ≤ 32768 := by
          have h1 : (M.take j).length ≤ j := List.length_take_le _ _
          omega
        have hS0 : 0 ≤ S := hSb.1
        clear hSb
        by_cases hlt : j < ml
        · obtain ⟨b, o, r, rfl, hre, _, e0, e1⟩ := HR5.out.at_ HBj.out hlt
          have hjl : j < M.length := by have := HML.out; omega
          have hrm := HMe.out r (by rw [hre]; exact getD_mem hjl)
          have HSt := Lib.hid (sumTF_take hjl)
          rw [← hre] at HSt
          obtain ⟨f, t⟩ := r
          simp only at e0 e1 hrm HSt
          have hw1 : IntKind.i64.wrap (S + t) = S + t := IntWalk.i64_in _ (by omega)
          obtain ⟨S2, hS2⟩ : ∃ S2, S2 = S + t - f := ⟨_, rfl⟩
          have hw2 : IntKind.i64.wrap (S + t - f) = S2 := by rw [IntWalk.i64_in _ (by omega), hS2]
          have HS2 := Lib.hid hS2
          clear hre hjl hS2
          go_wp2_with fail
          go_quiet (fail)
          go_wp2
          go_roundg (ml - (j + 1))
          case measure => have := HK.out; omega
          case rel => exact ⟨j + 1, S2, rfl, by omega, by go_num, rfl, Lib.hid (by rw [HSt.out, ← HSj.out, HS2.out]; omega), Lib.hid (HBj.out.trans ⟨rfl, rfl, rfl, Nat.le_refl _, fun _ _ => rfl⟩)⟩
        · obtain rfl : j = ml := by omega
          have hSc : S = (cn : Int) := by rw [HSj.out, List.take_of_length_le (by rw [← HML.out]; exact Nat.le_refl _), HSum.out]
          subst hSc
          obtain ⟨w6, hw6⟩ : ∃ w6, w6 = wr := ⟨_, rfl⟩
          rw [← hw6] at HBj ⊢
          clear hw6 HSj hSl hS0 HK
          have HX6 : Hid (w6.heap[gx]? = some (.cells #[.slice la nl lc, .int .i64 ((0 : Nat) : Int)] 70 (0, 0))) := Lib.hid ((HBj.out.block gx (lt_of_block HX5.out)).trans HX5.out)
          have HA6 : Hid (w6.heap[g2]? = some (arrObj holes)) := Lib.hid ((HBj.out.block g2 (lt_of_block HA5.out)).trans HA5.out)
          have hc6 : w6.cell? ⟨gx, 0, none⟩ = some (.slice la nl lc) := by rw [cell_of_row w6 gx 0 _ _ _ HX6.out]; rfl
          have HS6 : Hid (Save [g] w w6) := Lib.hid (HS5.out.trans (Save.of_below HBj.out [g]))
          have hbuild : ∀ W : World, (zeroValue 29).run Try.prog W = .ok (.agg (cS holes).toArray) W := fun W => by rw [Try.zeroValue29, zero_img]; rfl
          obtain ⟨p32, hp32⟩ : ∃ p32 : Nat, p32 = 32 * cn := ⟨_, rfl⟩
          have hmul : (32 : Int) * (cn : Int) = (p32 : Int) := by omega
          have HP32 := Lib.hid hp32
          clear hp32
          by_cases hq : nl = p32
          · have hq' : ((nl : Int) != (p32 : Int)) = false := by simp [hq]
            have HQ := Lib.hid hq
            clear hq
            obtain ⟨g10, hg10⟩ : ∃ g10, g10 = w6.heap.size := ⟨_, rfl⟩
            go_upto_region 16 with (refine wpList_store_img rfl (.tmp 10) (.tmp 65) rfl _ holes holes rfl rfl (heap_alloc_last _ _) List.length_replicate List.length_replicate ?_; intro w7 H7)
            rw [← hg10]
            have e7 : w7 = w6.alloc (arrObj holes) := by rw [H7.out]; exact put_self (heap_alloc_last _ _)
            have HA7 : Hid (w7.heap[g10]? = some (arrObj holes)) := Lib.hid (by rw [e7, hg10]; exact heap_alloc_last _ _)
            have HB67 : Hid (Below w6.heap.size w6 w7) := Lib.hid (by rw [e7]; exact Below.alloc0 _ _)
            have HB57 : Hid (Below w5.heap.size w5 w7) := Lib.hid (HBj.out.trans (HB67.out.mono HBj.out.size))
            have HNE : Hid (g2 < gx ∧ g < gx ∧ gx < g10 ∧ w5.heap.size ≤ g10) := Lib.hid ⟨HG2x.out.1, HG2x.out.2, by rw [hg10]; exact lt_of_block HX6.out, by rw [hg10]; exact HBj.out.size⟩
            have HX7 : Hid (w7.heap[gx]? = some (.cells #[.slice la nl lc, .int .i64 ((0 : Nat) : Int)] 70 (0, 0))) := Lib.hid ((HB67.out.block gx (lt_of_block HX6.out)).trans HX6.out)
            have HA72 : Hid (w7.heap[g2]? = some (arrObj holes)) := Lib.hid ((HB67.out.block g2 (lt_of_block HA6.out)).trans HA6.out)
            have HS7 : Hid (Save [g] w w7) := Lib.hid (HS6.out.trans (Save.of_below HB67.out [g]))
            have HR7 := Lib.hid (HR5.out.later HB57.out)
            have HK7 : Hid (∀ q, q < gx → w7.heap[q]? = w5.heap[q]?) := Lib.hid fun q hq => HB57.out.block q (by have := lt_of_block HX5.out; omega)
            clear H7 e7 hg10 hbuild hc6 hq' hmul HB67 HX6 HA6
            go_wp2
            go_loopg [11] 256 (fun gk i wr => ∃ (k m : Nat) (lx : Option Addr) (lcx : Nat), gk = 256 - k ∧ k ≤ 256 ∧ i = .int .i64 (k : Int) ∧ Hid (m = nl - 32 * (belowN M k).length) ∧ Hid (wr.heap[g10]? = some (arrObj (fillN (belowN M k) rest holes))) ∧ Hid (wr.heap[gx]? = some (.cells #[.slice lx m lcx, .int .i64 ((0 : Nat) : Int)] 70 (0, 0))) ∧ Hid (m ≤ lcx) ∧
              Hid (∀ W, (∀ q, q < gx → W.heap[q]? = w5.heap[q]?) → Rd W lx m (rest.drop (32 * (belowN M k).length))) ∧ Hid (Save [gx, g10] w7 wr))
            case atStart => exact ⟨0, nl, la, lc, rfl, by omega, rfl, Lib.hid (by simp [belowN]), Lib.hid (by simpa [belowN, fillN] using HA7.out), HX7, HLc, Lib.hid (by simpa [belowN] using HRa.out), Lib.hid (Save.refl _ _)⟩
            case round =>
              obtain ⟨k, m, lx, lcx, hgk, hk, rfl, HM, HAr, HXr, HLr, HRr, HSr⟩ := hrel
              have HGK := Lib.hid hgk
              clear hgk
              by_cases hlt : k < 256
              · have hlt' : (k : Int) < 256 := by omega
                have hrr : RdR wr sa j M := HR7.out.save HSr.out (fun b o e => by
                  obtain ⟨h1, h2, _⟩ := HLo5.out b o e
                  have h3 := HS4.out
                  have h4 := HNE.out
                  simp only [List.mem_cons, List.not_mem_nil, or_false, not_or]
                  omega)
                have HIn := Lib.hid (refIn_any sa j sc M (k : Int) wr hrr (by omega))
                have HSu := Lib.hid (belowN_succ M k)
                obtain ⟨Y, hY⟩ : ∃ Y, Y = inB M (k : Int) := ⟨_, rfl⟩
                rw [← hY] at HIn HSu
                clear hrr hY
                go_wp2_with fail
                refine HIn.out.mono ?_
                rintro e w8 ⟨rfl, hb8⟩
                have HA8 : Hid (w8.heap[g10]? = some (arrObj (fillN (belowN M k) rest holes))) := Lib.hid ((hb8.block g10 (lt_of_block HAr.out)).trans HAr.out)
                have HX8 : Hid (w8.heap[gx]? = some (.cells #[.slice lx m lcx, .int .i64 ((0 : Nat) : Int)] 70 (0, 0))) := Lib.hid ((hb8.block gx (lt_of_block HXr.out)).trans HXr.out)
                have HS8 : Hid (Save [gx, g10] w7 w8) := Lib.hid (HSr.out.trans (Save.of_below hb8 _))
                have HK8 : Hid (∀ q, q < gx → w8.heap[q]? = w5.heap[q]?) := Lib.hid (fun q hq => by
                  have h4 := HNE.out
                  have h5 := lt_of_block HX7.out
                  exact (HS8.out.block q (by omega) (by simp only [List.mem_cons, List.not_mem_nil, or_false, not_or]; omega)).trans (HK7.out q hq))
                clear hb8 HIn HAr HXr HSr
                cases Y with
                | false =>
                  have e : belowN M (k + 1) = belowN M k := by rw [HSu.out]; simp
                  have HE := Lib.hid e
                  clear e
                  go_wp2
                  go_roundg (256 - (k + 1))
                  case measure => have := HGK.out; omega
                  case rel =>
                    refine ⟨k + 1, m, lx, lcx, rfl, by omega, by go_num, ?_⟩
                    rw [HE.out]
                    exact ⟨HM, HA8, HX8, HLr, HRr, HS8⟩
                | true =>
                  have e : belowN M (k + 1) = belowN M k ++ [(k : Int)] := by rw [HSu.out]; simp
                  have hlen : (belowN M k).length + 1 ≤ cn := by
                    have h1 := belowN_len (M := M) (i := k + 1)
                    rw [e, List.length_append, ← HCn.out] at h1
                    simpa using h1
                  have hm32 : 32 ≤ m := by rw [HM.out]; have := HQ.out; have := HP32.out; omega
                  have HR8 := Lib.hid (HRr.out w8 HK8.out)
                  obtain ⟨lb, lo, rfl, _⟩ := HR8.out.2.2 (by omega)
                  obtain ⟨bl, hbl⟩ : ∃ bl, bl = (rest.drop (32 * (belowN M k).length)).take 32 := ⟨_, rfl⟩
                  have HRb32 : Hid (Rd w8 (some ⟨lb, lo, none⟩) 32 bl) := Lib.hid (by rw [hbl]; exact HR8.out.first hm32)
                  obtain ⟨F, hF⟩ : ∃ F, F = fillN (belowN M k) rest holes := ⟨_, rfl⟩
                  have HF1 : Hid (fillN (belowN M (k + 1)) rest holes = F.set k bl) := Lib.hid (by rw [e, fillN_snoc, hF, hbl]; simp)
                  have hFok : F.length = 256 := by
                    rw [hF]
                    exact (fillN_ok (belowN M k) rest holes holes_ok HRb.out (by rw [HNl.out]; have := HQ.out; have := HP32.out; omega)).1
                  rw [← hF] at HA8
                  have hLc := HLr.out
                  have c8 : w8.cell? ⟨gx, 0, none⟩ = some (.slice (some ⟨lb, lo, none⟩) m lcx) := by rw [cell_of_row w8 gx 0 _ _ _ HX8.out]; rfl
                  have hs32 : ∀ W' : World, (Instr.slice 23 (.slice (some ⟨lb, lo, none⟩) m lcx) none (some (.int .i64 32)) none).run Try.prog W' = .ok (.slice (some ⟨lb, lo, none⟩) 32 lcx) W' := fun W' => slice_to (some ⟨lb, lo, none⟩) m lcx 32 .i64 (by omega) W'
                  have hf32 : ∀ W' : World, (Instr.slice 23 (.slice (some ⟨lb, lo, none⟩) m lcx) (some (.int .i64 32)) none none).run Try.prog W' = .ok (.slice (cutA (some ⟨lb, lo, none⟩) lcx 32) (m - 32) (lcx - 32)) W' := fun W' => slice_from (some ⟨lb, lo, none⟩) m lcx 32 .i64 (by omega) W'
                  have hcv := conv_rd HRb32.out lcx
                  have hc10 := arr_cell HA8.out (j := k) (by rw [hFok]; exact hlt)
                  have hf10 := arr_frozen (j := k) HA8.out
                  have hset10 := arr_set (j := k) bl HA8.out
                  obtain ⟨w9, hw9⟩ : ∃ w9, w9 = put w8 g10 (arrObj (F.set k bl)) := ⟨_, rfl⟩
                  have hne := HNE.out
                  have HA9 : Hid (w9.heap[g10]? = some (arrObj (F.set k bl))) := Lib.hid (by rw [hw9]; exact put_same HA8.out)
                  have HX9 : Hid (w9.heap[gx]? = some (.cells #[.slice (some ⟨lb, lo, none⟩) m lcx, .int .i64 ((0 : Nat) : Int)] 70 (0, 0))) := Lib.hid (by rw [hw9]; exact (put_other (by omega)).trans HX8.out)
                  have HS9 : Hid (Save [gx, g10] w7 w9) := Lib.hid (by rw [hw9]; exact HS8.out.put (by simp) _)
                  rw [← hw9] at hset10
                  have c9 : w9.cell? ⟨gx, 0, none⟩ = some (.slice (some ⟨lb, lo, none⟩) m lcx) := by rw [cell_of_row w9 gx 0 _ _ _ HX9.out]; rfl
                  have f9 : w9.frozen? ⟨gx, 0, none⟩ = false := by simp [World.frozen?, HX9.out]
                  have hset9 := set_put (i := 0) (.slice (cutA (some ⟨lb, lo, none⟩) lcx 32) (m - 32) (lcx - 32)) HX9.out
                  obtain ⟨w10, hw10⟩ : ∃ w10, w10 = put w9 gx (.cells ((#[.slice (some ⟨lb, lo, none⟩) m lcx, .int .i64 ((0 : Nat) : Int)] : Array Value).setIfInBounds 0 (.slice (cutA (some ⟨lb, lo, none⟩) lcx 32) (m - 32) (lcx - 32))) 70 (0, 0)) := ⟨_, rfl⟩
                  have HA10 : Hid (w10.heap[g10]? = some (arrObj (F.set k bl))) := Lib.hid (by rw [hw10]; exact (put_other (by omega)).trans HA9.out)
                  have HX10 : Hid (w10.heap[gx]? = some (.cells #[.slice (cutA (some ⟨lb, lo, none⟩) lcx 32) (m - 32) (lcx - 32), .int .i64 ((0 : Nat) : Int)] 70 (0, 0))) := Lib.hid (by rw [hw10, put_same HX9.out]; rfl)
                  have HS10 : Hid (Save [gx, g10] w7 w10) := Lib.hid (by rw [hw10]; exact HS9.out.put (by simp) _)
                  rw [← hw10] at hset9
                  have HE := Lib.hid (And.intro e (And.intro hlen hm32))
                  clear hw9 hw10 hne e hbl hF hFok hlen HA8 HX8 HS8 HR8 HX9 HA9 HS9
                  go_wp2
                  go_roundg (256 - (k + 1))
                  case measure => have := HGK.out; omega
                  case rel =>
                    obtain ⟨e1, e2, e3⟩ := HE.out
                    have e4 : (belowN M (k + 1)).length = (belowN M k).length + 1 := by rw [e1]; simp
                    refine ⟨k + 1, m - 32, cutA (some ⟨lb, lo, none⟩) lcx 32, lcx - 32, rfl, by omega, by go_num, Lib.hid ?_, Lib.hid ?_, HX10, Lib.hid ?_, Lib.hid ?_, HS10⟩
                    · rw [e4, HM.out]; omega
                    · rw [HF1.out]; exact HA10.out
                    · have := HLr.out; omega
                    · intro W hW
                      have h1 := (HRr.out W hW).cut (k := 32) e3 HLr.out
                      rw [List.drop_drop] at h1
                      rw [e4, show 32 * ((belowN M k).length + 1) = 32 * (belowN M k).length + 32 by omega]
                      exact h1
              · obtain rfl : k = 256 := by omega
                rw [belowN_all HPos.out HTe.out] at HAr
                have hok := fillN_ok (numsR M) rest holes holes_ok HRb.out (by rw [HNl.out, ← HCn.out]; have := HQ.out; have := HP32.out; omega)
                have HA2r : Hid (wr.heap[g2]? = some (arrObj holes)) := Lib.hid ((HSr.out.block g2 (lt_of_block HA72.out) (by have := HNE.out; simp; omega)).trans HA72.out)
                have HSw : Hid (Save [g] w wr) := Lib.hid (HS7.out.more HSr.out (fun q hq => by
                  have h4 := HNE.out
                  have h5 := HG.out
                  simp only [List.mem_cons, List.not_mem_nil, or_false] at hq
                  omega))
                have HFl := Lib.hid hok.1
                clear hok
                go_wp2_with (first
                  | (refine wpList_load_img rfl (.tmp 10) rfl g10 (fillN (numsR M) rest holes) rfl HAr.out HFl.out ?_)
                  | (refine wpList_store_img rfl (.tmp 2) (.tmp 90) rfl g2 holes (fillN (numsR M) rest holes) rfl rfl HA2r.out List.length_replicate HFl.out ?_; intro w9 H9))
                have e := imgRd_ok HRB.out HRs.out (by rw [HNl.out, ← HCn.out]; have := HQ.out; have := HP32.out; omega)
                refine bodyPost_ret (v := .tuple #[.agg (cS (fillN (numsR M) rest holes)).toArray, .int .i64 0]) ?_ rfl ⟨?_, ?_⟩
                · exact ret_img_tmp (p := 2) (u := 3) (g := g2) rfl rfl (by rw [H9.out]; exact put_same HA2r.out) HFl.out
                · rw [HPR.out, e]; rfl
                · rw [H9.out]
                  exact HSw.out.more ((Save.refl [g2] wr).put (by simp) _) (fun q hq => by
                    simp only [List.mem_singleton] at hq
                    have h5 := HG.out
                    omega)
          · have hq' : ((nl : Int) != (p32 : Int)) = true := by simp; omega
            have HQ := Lib.hid hq
            clear hq
            go_wp2_with (refine wpList_store_img rfl (.tmp 2) (.tmp 64) rfl g2 holes holes rfl rfl HA6.out List.length_replicate List.length_replicate ?_; intro w7 H7)
            have e7 : w7 = w6 := by rw [H7.out]; exact put_self HA6.out
            subst e7
            have e := imgRd_form HRB.out HRs.out (by rw [HNl.out, ← HCn.out]; have := HQ.out; have := HP32.out; omega)
            refine bodyPost_ret (v := .tuple #[.agg (cS holes).toArray, .int .i64 3]) ?_ rfl ⟨?_, HS6.out⟩
            · exact ret_img_tmp (p := 2) (u := 3) rfl rfl HA6.out List.length_replicate
            · rw [HPR.out, e]; rfl
    · have hE' : ((E2 : Int) != 0) = true := by simp; omega
      have hbuild : ∀ W : World, (zeroValue 29).run Try.prog W = .ok (.agg (cS holes).toArray) W := fun W => by rw [Try.zeroValue29, zero_img]; rfl
      go_wp2_with (refine wpList_store_img rfl (.tmp 2) (.tmp 35) rfl g2 holes holes rfl rfl HA5.out List.length_replicate List.length_replicate ?_; intro w6 H6)
      have e6 : w6 = w5 := by rw [H6.out]; exact put_self HA5.out
      subst e6
      have e := imgRd_set HRB.out HRs.out hE2
      refine bodyPost_ret (v := .tuple #[.agg (cS holes).toArray, .int .i64 (E2 : Int)]) ?_ rfl ⟨?_, HS5.out⟩
      · exact ret_img_tmp (p := 2) (u := 3) rfl rfl HA5.out List.length_replicate
      · rw [HPR.out, e]
  · have hE' : ((E1 : Int) != 0) = true := by simp; omega
    go_upto_region 3 with fail
    refine wp_region_still_lit (by kernel_rfl) (by kernel_rfl) ?_
    change wpStill _ _ w3.drew _ _ _
    obtain ⟨w4, h4⟩ : ∃ w4, w4 = w3.drew := ⟨_, rfl⟩
    have hc4 : w4.cell? ⟨g, 1, none⟩ = some (.int .i64 (E1 : Int)) := by rw [h4]; exact hcE
    have HA4 : Hid (w4.heap[g2]? = some (arrObj holes)) := by rw [h4]; exact HA3
    have HS4 : Hid (Save [g] w w4) := by rw [h4]; exact Lib.hid HS3.out.drew
    rw [← h4]
    have H4 := Lib.hid h4
    clear h4 hcE
    have hbuild : ∀ W : World, (zeroValue 29).run Try.prog W = .ok (.agg (cS holes).toArray) W := fun W => by rw [Try.zeroValue29, zero_img]; rfl
    repeat still_step
    refine wpStill_store_same rfl (.tmp 2) (.tmp 20) rfl g2 holes rfl rfl HA4.out List.length_replicate ?_
    repeat still_step
    refine wpStill_nil ?_
    change Exit.then _ _ _ _ w3.drew
    rw [← H4.out]
    go_wp2
    have e := imgRd_err HRB.out hE1
    refine bodyPost_ret (v := .tuple #[.agg (cS holes).toArray, .int .i64 (E1 : Int)]) ?_ rfl ⟨?_, HS4.out⟩
    · exact ret_img_tmp (p := 2) (u := 3) rfl rfl HA4.out List.length_replicate
    · rw [HPR.out, e]

end Go.Proofs.Ytlmieegemckodaa
