/- A state read of its bytes. -/
import Derived.Test.YtaijjogjohbheaaGreatSSetAll
import Derived.Deep.DeepCutAuto
namespace Go.Proofs.YtaijjogjohbheaaGreat
open Go.RowKit
set_option maxRecDepth 100000
set_option linter.unusedSimpArgs false

theorem OwnY.saveX {w w' : World} {X : List Nat} {base : Nat} {v : Value} {L : List (Nat × Nat)} (h : OwnY w base v L) (hs : Save X w w') (hX : ∀ k ∈ X, k < base) : OwnY w' base v L := by
  refine ⟨h.1, ?_⟩
  rcases h.2 with h1 | ⟨g, cap, cur, hv, hbg, hgo, rest⟩
  · exact .inl h1
  · exact .inr ⟨g, cap, cur, hv, hbg, (hs.block g (lt_of_block hgo) (fun hm => by have := hX g hm; omega)).trans hgo, rest⟩

theorem OwnY.alloc' {w : World} {base : Nat} {v : Value} {L : List (Nat × Nat)} (h : OwnY w base v L) (o : Obj) : OwnY (w.alloc o) base v L := World.ownsRow.alloc h o

theorem box_2 {w : World} {q : Nat} {x y z z' : Value} {T : TypeId} (h : w.heap[q]? = some (.cells #[x, y, z] T (0, 0))) : w.setCell ⟨q, 2, none⟩ z' = put w q (.cells #[x, y, z'] T (0, 0)) := by
  rw [set_put _ h]
  rfl

theorem OwnY.put_ {w : World} {base q : Nat} {v : Value} {L : List (Nat × Nat)} (h : OwnY w base v L) (hq : q < base) (o : Obj) : OwnY (put w q o) base v L :=
  h.saveX ((Save.refl [q] w).put (g := q) (by simp) o) (by simp; exact hq)

theorem Rdr.low {w : World} {T g E : Nat} {l : List Nat} (h : Rdr w T g E l) : g < w.heap.size := by
  obtain ⟨a, n, c, hg, _⟩ := h
  exact lt_of_block hg

theorem Rdr.later {w w' : World} {T g E : Nat} {l : List Nat} (h : Rdr w T g E l) (hb : Below w.heap.size w w') : Rdr w' T g E l := (h.hi.below hb).rdr

theorem RdrHi.up {w : World} {T g E B B' : Nat} {l : List Nat} (h : RdrHi w T g E l B) (hB : B ≤ B') : RdrHi w T g E l B' := by
  obtain ⟨a, n, c, h1, h2, h3, h4, h5, h6⟩ := h
  exact ⟨a, n, c, h1, h2, h3, h4, by omega, fun b o e hn => Nat.lt_of_lt_of_le (h6 b o e hn) hB⟩

/-- A number read of its own bytes. -/
theorem numOk (w : World) (g x most : Nat) (r : List Nat) (hx : x ≤ 10000) (hm : x ≤ most) (m : Int) (hmm : m = (most : Int)) (B : Nat) (h : RdrHi w 150 g 0 (vEnc x ++ r) B) :
    Calls Tryz.prog 48 #[.pointer (some ⟨g, 0, none⟩), .int .u64 m] w fun e w' => e = .returned (.int .u64 (x : Int)) ∧ RdrHi w' 150 g 0 r B ∧ Save [g] w w' := by
  subst hmm
  have h1 := numberHi_any w g 0 _ most B h
  rw [rNum_put' x r most (by omega) hm] at h1
  refine h1.mono ?_
  rintro e w' ⟨rfl, h2, h3⟩
  exact ⟨rfl, h2, save_grown h3⟩

/-- An image read of its own bytes. -/
theorem imgOk (w : World) (V : List Nat) (g : Nat) (F : List (List Nat)) (r : List Nat) (hF : okF F) (hr : ∀ y ∈ r, y < 256) (hV : ∀ k ∈ V, k < w.heap.size) (B : Nat) (hB : B ≤ w.heap.size) (h : RdrHi w 150 g 0 (iEnc F ++ r) B) :
    Calls Tryz.prog 47 #[.pointer (some ⟨g, 0, none⟩)] w fun e w' => ∃ g', e = .returned (.tuple #[.pointer (some ⟨g', 0, none⟩), .int .i64 0]) ∧ ImgV w' V 300 g' F ∧ RdrHi w' 150 g 0 r B ∧ Save [g] w w' := by
  obtain ⟨e1, e2, e3⟩ := iEnc_read hF r
  have h1 := imgReadHi_any w g B _ h hB (by
    intro y hy
    rcases List.mem_append.1 hy with hy | hy
    · exact iEnc_byte hF y hy
    · exact hr y hy)
  rw [e1, e2, e3] at h1
  refine h1.mono ?_
  rintro e w' ⟨⟨hs, ⟨h2, _⟩ | ⟨_, g', b', q, hq, hg, hb, rfl, hi⟩⟩, hrd⟩
  · exact absurd rfl h2
  · exact ⟨g', rfl, ⟨b', q, hi, hq, fun hm => by have := hV _ hm; omega, fun hm => by have := hV _ hm; omega⟩, hrd, hs⟩

theorem xEnc_drop {X : List (Nat × List (List Nat))} {j : Nat} (h : j < X.length) : xEnc (X.drop j) = vEnc (X.getD j default).1 ++ (iEnc (X.getD j default).2 ++ xEnc (X.drop (j + 1))) := by
  have e : X.getD j default = X[j] := by simp [List.getD, h]
  rw [List.drop_eq_getElem_cons h, xEnc_cons, e]

theorem size_st : (Tryz.prog.info? 76).map (·.size) = some 3 := by kernel_rfl

/-- A result that lies in a cell: a state. -/
theorem ret_st_tmp {fn : Func} {p g u : Nat} {cs : Array Value} {w : World} {tmps : Array Value} (hr : fn.results = #[.cell p 76, .tmp u]) (ht : tmps.getD p undef = .pointer (some ⟨g, 0, none⟩)) (hg : w.heap[g]? = some (.cells cs 76 (0, 0))) (hs : cs.size = 3) :
    (results fn tmps).run Tryz.prog w = .ok (.tuple #[.agg cs, tmps.getD u undef]) w := by
  rw [results_cell_tmp' hr, ht]
  simp only [asAddr, Sem.run_pure, Result.andThen]
  rw [run_loadVar_row w g _ 76 _ _ _ hg Tryz.underlying76 rfl (by rw [size_st, hs])]

theorem box_all {w : World} {q : Nat} {x y z x' y' z' : Value} {T : TypeId} (h : w.heap[q]? = some (.cells #[x, y, z] T (0, 0))) :
    ((w.setCell ⟨q, 0, none⟩ x').setCell ⟨q, 1, none⟩ y').setCell ⟨q, 2, none⟩ z' = put w q (.cells #[x', y', z'] T (0, 0)) := by
  rw [set_put _ h]
  simp only [List.setIfInBounds_toArray, List.set_cons_succ, List.set_cons_zero]
  rw [set_put _ (put_same h)]
  simp only [List.setIfInBounds_toArray, List.set_cons_succ, List.set_cons_zero, put_put]
  rw [set_put _ (put_same h)]
  simp only [List.setIfInBounds_toArray, List.set_cons_succ, List.set_cons_zero, put_put]

/-- What the loop of read keeps. -/
structure RdSt (w : World) (V : List Nat) (g q base gi last j ab : Nat) (F : List (List Nat)) (X : List (Nat × List (List Nat))) (wr : World) : Prop where
  rdr : RdrHi wr 150 g 0 (xEnc (X.drop j)) base
  row : ∃ (T : List Sn) (a : Option Addr) (n c : Nat), T.map tX = X.take j ∧ OwnY wr base (.slice a n c) (T.map tY) ∧ n = j ∧ (∀ t ∈ T, ImgV wr (g :: q :: V) 300 t.2.1 t.2.2) ∧ wr.heap[q]? = some (.cells #[.pointer (some ⟨gi, 0, none⟩), .int .i64 (last : Int), .slice a n c] 76 (0, 0))
  img : ImgV wr (g :: q :: V) 300 gi F
  bel : Below w.heap.size w wr
  lo : w.heap.size ≤ g ∧ g < base ∧ w.heap.size ≤ q ∧ q < base ∧ q ≠ g ∧ base ≤ wr.heap.size
  abv : ∀ k, j ≤ k → k < X.length → ab < (X.getD k default).1

set_option maxHeartbeats 4000000 in
theorem read_state (w : World) (a : Option Addr) (n c : Nat) (V : List Nat) (F : List (List Nat)) (last : Nat) (X : List (Nat × List (List Nat))) (h : Rd w a n (sEnc F last X)) (hn : n ≤ 1000000) (hok : OkS F last X) (hV : ∀ k ∈ V, k < w.heap.size) :
    Calls Tryz.prog 24 #[.slice a n c] w fun e w' => ∃ gi a' n' c', e = .returned (.tuple #[stV gi last a' n' c', .int .i64 0]) ∧ n' ≤ c' ∧ Sta w' V 300 gi a' n' F X ∧ Below w.heap.size w w' := by
  obtain ⟨i0, hi0, hz0, hz1, hz2⟩ := info_parts info_snap
  have HOk := Lib.hid hok
  have HV := Lib.hid hV
  have HR := Lib.hid h
  have hlast := hok.last
  have hfew := hok.few
  obtain ⟨xl, hxl⟩ : ∃ xl, xl = X.length := ⟨_, rfl⟩
  have hx32 : xl ≤ 32 := by omega
  have HXL := Lib.hid hxl
  have hwl : IntKind.i64.wrap (last : Int) = (last : Int) := by rw [IntKind.wrap_i64] <;> omega
  have hwl2 : IntKind.u64.wrap (last : Int) = (last : Int) := by rw [IntKind.wrap_u64]; omega
  clear h hok hV hxl hfew
  go_enter Tryz.func24, Tryz.ntmps24
  go_upto_region 1 with fail
  obtain ⟨w0, hw0⟩ : ∃ w0, w0 = w.alloc (.cells #[.pointer none, .int .i64 0, .slice none 0 0] 76) := ⟨_, rfl⟩
  obtain ⟨p2, hp2⟩ : ∃ p2, p2 = w.heap.size := ⟨_, rfl⟩
  rw [← hw0, ← hp2]
  have HB0 : Hid (Below w.heap.size w w0) := Lib.hid (by rw [hw0]; exact Below.alloc0 _ _)
  have HP2 : Hid (w0.heap[p2]? = some (.cells #[.pointer none, .int .i64 0, .slice none 0 0] 76 (0, 0)) ∧ w0.heap.size = p2 + 1 ∧ p2 = w.heap.size) := Lib.hid (by rw [hw0, hp2]; exact ⟨heap_alloc_new _ _, by simp, rfl⟩)
  clear hw0 hp2
  have HOp := Lib.hid (open_any a n c _ w0 (HR.out.later HB0.out) hn)
  go_wp2_with fail
  refine HOp.out.mono ?_
  rintro e w1 ⟨g, rfl, hg, hrd1, hb1⟩
  obtain ⟨R1, hR1⟩ : ∃ R1, R1 = vEnc last ++ (vEnc X.length ++ xEnc X) := ⟨_, rfl⟩
  have hbR : ∀ y ∈ R1, y < 256 := fun y hy => HOk.out.byte y (by unfold sEnc; rw [← hR1]; exact List.mem_append_right _ hy)
  have hrd1' : RdrHi w1 150 g 0 (iEnc F ++ R1) w1.heap.size := by rw [hR1]; exact hrd1.hi
  have hgl : g < w1.heap.size := hrd1.low
  have HI := Lib.hid (imgOk w1 (g :: V) g F R1 HOk.out.img hbR (by
    intro k hk
    rcases List.mem_cons.1 hk with rfl | hk
    · exact hgl
    · have h1 := HV.out k hk
      have h2 := HB0.out.size
      have h3 := hb1.size
      omega) w1.heap.size (Nat.le_refl _) hrd1')
  have HB1 := Lib.hid hb1
  have HG := Lib.hid hg
  have HR1 := Lib.hid hR1
  have HGL := Lib.hid hgl
  clear hg hrd1 hb1 hR1 hbR hrd1' hgl HOp
  go_wp2_with fail
  refine HI.out.mono ?_
  rintro e w2 ⟨gi, rfl, himg2, hrd2, hs2⟩
  rw [HR1.out] at hrd2
  have HN1 := Lib.hid (numOk w2 g last 9223372036854775807 _ (by omega) (by omega) 9223372036854775807 rfl w1.heap.size hrd2)
  have HI2 := Lib.hid himg2
  have HS2 := Lib.hid hs2
  clear himg2 hrd2 hs2 HI
  go_wp2_with fail
  refine HN1.out.mono ?_
  rintro e w3 ⟨rfl, hrd3, hs3⟩
  have HI3 := Lib.hid (HI2.out.save hs3 (by simp))
  have HS3 := Lib.hid (HS2.out.trans hs3)
  have HR3 := Lib.hid hrd3
  clear hrd3 hs3 HN1
  go_upto_region 7 with fail
  obtain ⟨w4, hw4⟩ : ∃ w4, w4 = w3.alloc (.cells #[.pointer (some ⟨gi, 0, none⟩), .int .i64 (last : Int), .slice none 0 0] 76) := ⟨_, rfl⟩
  obtain ⟨q, hq⟩ : ∃ q, q = w3.heap.size := ⟨_, rfl⟩
  rw [← hw4, ← hq]
  have HB4 : Hid (Below w3.heap.size w3 w4) := Lib.hid (by rw [hw4]; exact Below.alloc0 _ _)
  have HQ4 : Hid (w4.heap[q]? = some (.cells #[.pointer (some ⟨gi, 0, none⟩), .int .i64 (last : Int), .slice none 0 0] 76 (0, 0)) ∧ w4.heap.size = q + 1 ∧ q = w3.heap.size) := Lib.hid (by rw [hw4, hq]; exact ⟨heap_alloc_new _ _, by simp, rfl⟩)
  clear hw4 hq
  have HN2 := Lib.hid (numOk w4 g X.length 32 _ (by have := HXL.out; omega) (by have := HXL.out; omega) 32 rfl w1.heap.size (HR3.out.below (HB4.out.mono HS3.out.size)))
  rw [← HXL.out] at HN2
  go_wp2_with fail
  refine HN2.out.mono ?_
  rintro e w5 ⟨rfl, hrd5, hs5⟩
  have HST : Hid (RdSt w0 V g q (q + 1) gi last 0 0 F X w5) := by
    have h1 := HG.out
    have h2 := HGL.out
    have h3 := HS3.out.size
    have h4 := HQ4.out
    have h5 := hs5.size
    have h6 := HB1.out.size
    have hb : Below w0.heap.size w0 w5 := (HB1.out.trans (HS3.out.below h6 (by simp; omega))).trans ((HB4.out.mono (by omega)).trans (hs5.below (by omega) (by simp; omega)))
    refine Lib.hid ⟨by simpa using hrd5.up (by omega), ⟨[], none, 0, 0, by simp, by simpa using OwnY.nil _ _, rfl, by simp, ?_⟩, ?_, hb, ⟨h1, by omega, by omega, by omega, by omega, by omega⟩, ?_⟩
    · exact (hs5.block q (lt_of_block h4.1) (by simp; omega)).trans h4.1
    · have i4 : ImgV w4 (g :: V) 300 gi F := HI3.out.save (Save.of_below HB4.out []) (by simp)
      have i4' : ImgV w4 (g :: q :: V) 300 gi F := by
        have i3 : ImgV w3 (g :: q :: V) 300 gi F := HI3.out.fresh (fun k hk hlt => by
          simp only [List.mem_cons] at hk ⊢
          rcases hk with rfl | rfl | hk
          · exact .inl rfl
          · omega
          · exact .inr hk)
        exact i3.save (Save.of_below HB4.out []) (by simp)
      exact i4'.save hs5 (by simp)
    · intro k _ hk
      have hm : X.getD k default ∈ X := by
        have : X.getD k default = X[k] := by simp [List.getD, hk]
        rw [this]; exact List.getElem_mem hk
      have := (HOk.out.ims _ hm).2.1
      omega
  clear hrd5 hs5 HN2
  go_wp2
  go_loopg [8, 31] xl (fun gk v8 v31 wr => ∃ j ab : Nat, gk = xl - j ∧ j ≤ xl ∧ v8 = .int .i64 (ab : Int) ∧ v31 = .int .u64 (j : Int) ∧ Hid (RdSt w0 V g q (q + 1) gi last j ab F X wr))
  case atStart => exact ⟨0, 0, rfl, Nat.zero_le _, rfl, rfl, HST⟩
  case round =>
    obtain ⟨j, ab, hgk, hj, rfl, rfl, HJ⟩ := hrel
    have HGK := Lib.hid hgk
    clear hgk
    by_cases hlt : j < xl
    · have hjX : j < X.length := by have := HXL.out; omega
      have hm : X.getD j default ∈ X := by
        have : X.getD j default = X[j] := by simp [List.getD, hjX]
        rw [this]; exact List.getElem_mem hjX
      have hxd := xEnc_drop hjX
      have hav := HJ.out.abv j (Nat.le_refl _) hjX
      have hrd := HJ.out.rdr
      rw [hxd] at hrd
      have hbt : ∀ y ∈ xEnc (X.drop (j + 1)), y < 256 := xEnc_byte (last := last) fun p hp => HOk.out.ims p (List.mem_of_mem_drop hp)
      have hpk := HOk.out.ims _ hm
      have hnx : ∀ k, j + 1 ≤ k → k < X.length → (X.getD j default).1 < (X.getD k default).1 := fun k h1 h2 => by
        have := List.pairwise_iff_getElem.1 HOk.out.inc j k hjX h2 (by omega)
        have e1 : X.getD j default = X[j] := by simp [List.getD, hjX]
        have e2 : X.getD k default = X[k] := by simp [List.getD, h2]
        rw [e1, e2]
        exact this
      have htk : X.take (j + 1) = X.take j ++ [X.getD j default] := by
        rw [List.take_succ_eq_append_getElem hjX]
        congr 2
        simp [List.getD, hjX]
      obtain ⟨pp, hpp⟩ : ∃ pp, pp = X.getD j default := ⟨_, rfl⟩
      rw [← hpp] at hrd hav hpk hnx htk
      obtain ⟨p, G⟩ := pp
      simp only at hrd hav hpk hnx
      have HNX := Lib.hid hnx
      have HTK := Lib.hid htk
      have HPk := Lib.hid hpk
      have HBt := Lib.hid hbt
      have hp1 : p ≤ last := hpk.2.2
      obtain ⟨R2, hR2⟩ : ∃ R2, R2 = xEnc (X.drop (j + 1)) := ⟨_, rfl⟩
      rw [← hR2] at hrd HBt
      have HR2 := Lib.hid hR2
      obtain ⟨T, va, vn, vc, hT, ho, hvn, hTi, hbx⟩ := HJ.out.row
      have HT := Lib.hid (And.intro hT hTi)
      have HVN := Lib.hid hvn
      have HO := Lib.hid ho
      have HBX := Lib.hid hbx
      have c1 : wr.cell? ⟨q, 1, none⟩ = some (.int .i64 (last : Int)) := by simp [World.cell?, hbx]
      have HNp := Lib.hid (numOk wr g p last _ (by omega) hp1 (last : Int) rfl (q + 1) hrd)
      have HJ2 := Lib.hid HJ.out.img
      have HJ3 := Lib.hid (And.intro HJ.out.bel HJ.out.lo)
      have hwp : IntKind.i64.wrap (p : Int) = (p : Int) := by rw [IntKind.wrap_i64] <;> omega
      have hle : ¬ (p : Int) ≤ (ab : Int) := by omega
      have hle2 : decide (p ≤ ab) = false := by simp; omega
      have hle3 : ab < p := hav
      clear hm hxd hav hrd hbt hpk hnx htk hpp hR2 hT ho hvn hTi hbx HJ
      go_wp2_with fail
      refine HNp.out.mono ?_
      rintro e wa ⟨rfl, hrda, hsa⟩
      obtain ⟨hbel, hlo1, hlo2, hlo3, hlo4, hlo5, hlo6⟩ := HJ3.out
      have HIa := Lib.hid (imgOk wa (g :: q :: V) g G R2 HPk.out.1 HBt.out (by
        intro k hk
        have h5 := hsa.size
        have h6 := HB0.out.size
        have h7 := HP2.out
        simp only [List.mem_cons] at hk
        rcases hk with rfl | rfl | hk
        · omega
        · omega
        · have := HV.out k hk; omega) (q + 1) (Nat.le_trans hlo6 hsa.size) hrda)
      have HSa := Lib.hid hsa
      clear hrda hsa HNp c1 hbel hlo1 hlo2 hlo3 hlo4 hlo5 hlo6
      go_wp2_with fail
      refine HIa.out.mono ?_
      rintro e wb ⟨g', rfl, himg, hrdb, hsb⟩
      have hsr := HSa.out.trans hsb
      have HSr := Lib.hid hsr
      have HIb := Lib.hid himg
      have HRb := Lib.hid hrdb
      have hbxb : wb.heap[q]? = some (.cells #[.pointer (some ⟨gi, 0, none⟩), .int .i64 (last : Int), .slice va vn vc] 76 (0, 0)) := (hsr.block q (lt_of_block HBX.out) (by have := HJ3.out.2.2.2.2.2.1; simp; exact this)).trans HBX.out
      have HBXb := Lib.hid hbxb
      have c2 : wb.cell? ⟨q, 2, none⟩ = some (.slice va vn vc) := by simp [World.cell?, hbxb]
      have HOb := Lib.hid (HO.out.saveX hsr (by have := HJ3.out.2.2.1; simp; exact this))
      have hTl32 : (T.map tY).length ≤ 32 := by
        have h1 : T.length = (X.take j).length := by rw [← HT.out.1, List.length_map]
        rw [List.length_map, h1, List.length_take]
        omega
      have HSZ : Hid (q + 1 ≤ wb.heap.size) := Lib.hid (Nat.le_trans HJ3.out.2.2.2.2.2.2 hsr.size)
      clear himg hrdb hsb hsr hbxb HIa HSa
      go_wp2_with (at_builtin; have _t := hlt; refine wpList_append_own_at _ rfl (.tmp 54) (.tmp 58) 74 rfl (q + 1) 98 i0 _ 2 16 Tryz.underlying74 hi0 hz0 hz1 hz2 rfl (by omega) (.slice va vn vc) (T.map tY).length (cY (T.map tY)) rfl (HOb.out.alloc' _) ⟨wb.heap.size, 0, none⟩ 1 1 (cY [(p, g')]) rfl ?hlen (World.news_of_block (cs := #[.int .i64 (p : Int), .pointer (some ⟨g', 0, none⟩)]) (t := 98) (fr := (0, 0)) (heap_alloc_new wb _)) ?one ?h63 ?hby ?hbase ?next)
      case hlen => rfl
      case one => exact cY_one _
      case h63 => unfold maxLen; omega
      case hby => omega
      case hbase => have := HSZ.out; simp; omega
      case next =>
        intro v' w' hown hgr _ _
        have ho' : OwnY w' (q + 1) v' (T.map tY ++ [(p, g')]) := OwnY.of_append rfl (by rw [List.length_map]; exact hown)
        have hkeep : ∀ k, k < q + 1 → w'.heap[k]? = wb.heap[k]? := fun k hk => by
          have h0 := HSZ.out
          refine (hgr.block k (by simp; omega) (fun e => ?_)).trans (heap_alloc_old wb _ (by omega))
          have := (World.ownsRow.lt HOb.out k e.symm).1
          omega
        have hb' : Below (q + 1) wb w' := ((Below.refl _ _).alloc HSZ.out _).grown hgr (by have := HSZ.out; simp; omega) (fun k hk => (World.ownsRow.lt HOb.out k hk).1)
        obtain ⟨a8, k8, hv8, _⟩ := ho'.rd
        obtain ⟨nl, hnl⟩ : ∃ nl, nl = (T.map tY ++ [(p, g')]).length := ⟨_, rfl⟩
        rw [← hnl] at hv8
        subst hv8
        have hbx8 : w'.heap[q]? = some (.cells #[.pointer (some ⟨gi, 0, none⟩), .int .i64 (last : Int), .slice va vn vc] 76 (0, 0)) := (hkeep q (by omega)).trans HBXb.out
        have HNEXT : Hid (RdSt w0 V g q (q + 1) gi last (j + 1) p F X (put w' q (.cells #[.pointer (some ⟨gi, 0, none⟩), .int .i64 (last : Int), Value.slice a8 nl k8] 76 (0, 0)))) := by
          obtain ⟨hbel, hlo1, hlo2, hlo3, hlo4, hlo5, hlo6⟩ := HJ3.out
          have hszb := HSZ.out
          have hsz' : wb.heap.size ≤ w'.heap.size := hb'.size
          have hgw : g < w'.heap.size := by omega
          have hsw : Save [q] w' (put w' q (.cells #[.pointer (some ⟨gi, 0, none⟩), .int .i64 (last : Int), Value.slice a8 nl k8] 76 (0, 0))) := (Save.refl [q] w').put (g := q) (by simp) _
          have hcut : ∀ k, k < wb.heap.size → (some k ≠ (Value.slice va vn vc).ownBlock) → w'.heap[k]? = wb.heap[k]? := fun k hk hne => (hgr.block k (by simp; omega) hne).trans (heap_alloc_old wb _ hk)
          have himgk : ∀ g0 F0, ImgV wb (g :: q :: V) 300 g0 F0 → ImgV w' (g :: q :: V) 300 g0 F0 := by
            rintro g0 F0 ⟨b0, n0, h1, h2, h3, h4⟩
            have hne : ∀ k, (∃ cs ty, wb.heap[k]? = some (.cells cs ty (0, 0)) ∧ ty = 132) ∨ (∃ es cl, wb.heap[k]? = some (.map es cl)) → (some k ≠ (Value.slice va vn vc).ownBlock) := by
              intro k hk e
              obtain ⟨cur, hc⟩ : ∃ cur, wb.heap[k]? = some (.cells cur 98 (0, 0)) := by
                rcases HOb.out.2 with ⟨hv, _⟩ | ⟨g9, cap, cur, hv, _, hgo, _⟩
                · rw [hv] at e; cases e
                · rw [hv] at e
                  injection e with e
                  subst e
                  exact ⟨cur, hgo⟩
              rcases hk with ⟨cs, ty, hk, hty⟩ | ⟨es, cl, hk⟩
              · rw [hc] at hk
                injection hk with hk
                injection hk with _ hk
                rw [hty] at hk
                exact absurd hk (by decide)
              · rw [hc] at hk; cases hk
            have k1 := hcut g0 h1.lt (hne g0 (.inl ⟨_, _, h1.blk, rfl⟩))
            have k2 := hcut b0 h1.map.lt (hne b0 (.inr h1.map.map))
            exact ⟨b0, n0, ⟨k1.trans h1.blk, h1.map.kept k2, h1.ok⟩, h2, h3, h4⟩
          have hall : ∀ g0 F0, ImgV wr (g :: q :: V) 300 g0 F0 → ImgV (put w' q (.cells #[.pointer (some ⟨gi, 0, none⟩), .int .i64 (last : Int), Value.slice a8 nl k8] 76 (0, 0))) (g :: q :: V) 300 g0 F0 := fun g0 F0 hi =>
            (himgk g0 F0 (hi.save HSr.out (by simp))).save hsw (by simp)
          have hrow8 := ho'.put_ (q := q) (by omega) (.cells #[.pointer (some ⟨gi, 0, none⟩), .int .i64 (last : Int), Value.slice a8 nl k8] 76 (0, 0))
          have hrdw : RdrHi w' 150 g 0 R2 (q + 1) := HRb.out.below hb'
          have hrdp : RdrHi (put w' q (.cells #[.pointer (some ⟨gi, 0, none⟩), .int .i64 (last : Int), Value.slice a8 nl k8] 76 (0, 0))) 150 g 0 R2 (q + 1) := by
            obtain ⟨ra, rn, rc, k1, k2, k3, k4, k5, k6⟩ := hrdw
            refine ⟨ra, rn, rc, (put_other (by omega)).trans k1, k2.saveIf hsw (fun hn b o e => ?_), k3, k4, k5, k6⟩
            intro hbq
            simp only [List.mem_cons, List.not_mem_nil, or_false] at hbq
            subst hbq
            obtain ⟨b', o', e', hc⟩ := k2.2.2 hn
            rw [e] at e'
            injection e' with e'
            injection e' with e1 e2
            subst e1
            have h9 := hc 0 hn
            rw [cell_of_row w' b _ _ _ _ hbx8] at h9
            rcases Nat.lt_or_ge (o' + 0) 3 with h3 | h3
            · rcases (by omega : o' + 0 = 0 ∨ o' + 0 = 1 ∨ o' + 0 = 2) with h4 | h4 | h4 <;> rw [h4] at h9 <;> simp at h9
            · rw [Array.getElem?_eq_none (by simp; omega)] at h9
              cases h9
          have hlT : T.length = j := by
            have h1 : T.length = (X.take j).length := by rw [← HT.out.1, List.length_map]
            rw [h1, List.length_take]; omega
          have eT : (T ++ [(p, g', G)]).map tY = T.map tY ++ [(p, g')] := by simp [tY]
          refine Lib.hid ⟨by rw [← HR2.out]; exact hrdp, ⟨T ++ [(p, g', G)], a8, nl, k8, ?_, ?_, ?_, fun t ht => ?_, ?_⟩, hall gi F HJ2.out, ?_, ⟨hlo1, hlo2, hlo3, hlo4, hlo5, ?_⟩, HNX.out⟩
          · rw [List.map_append, HT.out.1, HTK.out]; rfl
          · rw [eT]; exact hrow8
          · rw [hnl]; simp [hlT]
          · rcases List.mem_append.1 ht with ht | ht
            · exact hall _ _ (HT.out.2 t ht)
            · simp only [List.mem_singleton] at ht
              subst ht
              exact (himgk g' G HIb.out).save hsw (by simp)
          · exact put_same hbx8
          · have hb2 : Below w0.heap.size wr wb := HSr.out.below hbel.size (by simp; omega)
            exact (hbel.trans hb2).trans ((hb'.mono (by omega)).trans (put_below _ (by omega)))
          · rw [put_size]; omega
        have HX8 := Lib.hid hbx8
        have c8 : w'.cell? ⟨q, 2, none⟩ = some (.slice va vn vc) := by simp [World.cell?, hbx8]
        have f8 : w'.frozen? ⟨q, 2, none⟩ = false := by simp [World.frozen?, hbx8]
        clear ho' hkeep hb' hbx8 hown hgr hnl
        go_wp2
        go_roundg (xl - (j + 1))
        case measure => have := HGK.out; omega
        case rel => exact ⟨j + 1, p, rfl, by omega, rfl, by go_num, by rw [box_2 HX8.out]; exact HNEXT⟩
    · obtain rfl : j = xl := by omega
      have hnil : xEnc (X.drop j) = [] := by rw [List.drop_eq_nil_of_le (by have := HXL.out; omega)]; rfl
      have hrd := HJ.out.rdr.rdr
      rw [hnil] at hrd
      have HEn := Lib.hid (end_any wr g 0 [] hrd)
      rw [show rEnd 0 [] = 0 from rfl] at HEn
      obtain ⟨T, va, vn, vc, hT, ho, hvn, hTi, hbx⟩ := HJ.out.row
      have hp2r : wr.heap[p2]? = some (.cells #[.pointer none, .int .i64 0, .slice none 0 0] 76 (0, 0)) := (HJ.out.bel.block p2 (by have := HP2.out; omega)).trans HP2.out.1
      have HP2r := Lib.hid hp2r
      have c0 : wr.cell? ⟨q, 0, none⟩ = some (.pointer (some ⟨gi, 0, none⟩)) := by simp [World.cell?, hbx]
      have c1 : wr.cell? ⟨q, 1, none⟩ = some (.int .i64 (last : Int)) := by simp [World.cell?, hbx]
      have c2 : wr.cell? ⟨q, 2, none⟩ = some (.slice va vn vc) := by simp [World.cell?, hbx]
      have p0 : wr.cell? ⟨p2, 0, none⟩ = some (.pointer none) := by simp [World.cell?, hp2r]
      have p1 : wr.cell? ⟨p2, 1, none⟩ = some (.int .i64 0) := by simp [World.cell?, hp2r]
      have p22 : wr.cell? ⟨p2, 2, none⟩ = some (.slice none 0 0) := by simp [World.cell?, hp2r]
      have pf : ∀ i, wr.frozen? ⟨p2, i, none⟩ = false := fun i => by simp [World.frozen?, hp2r]
      have HRow := Lib.hid (And.intro hT (And.intro ho (And.intro hvn hTi)))
      have HEnd := Lib.hid (And.intro HJ.out.img (And.intro HJ.out.bel HJ.out.lo))
      clear hnil hrd hT ho hvn hTi hbx hp2r HJ
      go_wp2_with fail
      refine HEn.out.mono ?_
      rintro e wz ⟨rfl, rfl⟩
      go_wp2
      rw [box_all HP2r.out]
      refine bodyPost_ret (v := .tuple #[stV gi last va vn vc, .int .i64 0]) ?_ rfl ?_
      · exact ret_st_tmp (p := 2) (u := 3) (g := p2) rfl rfl (put_same HP2r.out) rfl
      · obtain ⟨hT, ho, hvn, hTi⟩ := HRow.out
        obtain ⟨himg, hbel, hlo1, hlo2, hlo3, hlo4, hlo5, hlo6⟩ := HEnd.out
        have hp := HP2.out
        have hsw : Save [p2] wr (put wr p2 (.cells #[.pointer (some ⟨gi, 0, none⟩), .int .i64 (last : Int), .slice va vn vc] 76 (0, 0))) := (Save.refl [p2] wr).put (g := p2) (by simp) _
        obtain ⟨a9, c9, hv9, hr9, hc9, hl9⟩ := ho.rd
        injection hv9 with e1 e2 e3
        subst e1
        subst e3
        rw [← e2] at hr9 hc9
        have hkind : ∀ g0 F0, ImgV wr (g :: q :: V) 300 g0 F0 → ImgV (put wr p2 (.cells #[.pointer (some ⟨gi, 0, none⟩), .int .i64 (last : Int), .slice va vn vc] 76 (0, 0))) V 300 g0 F0 := by
          rintro g0 F0 ⟨b0, n0, h1, h2, h3, h4⟩
          have hne : g0 ≠ p2 ∧ b0 ≠ p2 := by
            constructor
            · rintro rfl
              have := h1.blk
              rw [HP2r.out] at this
              injection this with this
              injection this with this
              simp at this
            · rintro rfl
              obtain ⟨es, cl, hm⟩ := h1.map.map
              rw [HP2r.out] at hm
              cases hm
          refine ⟨b0, n0, h1.save hsw (by simpa using hne.1) (by simpa using hne.2), h2, fun hm => h3 (by simp [hm]), fun hm => h4 (by simp [hm])⟩
        refine ⟨gi, va, vn, vc, rfl, hc9, ⟨hkind gi F himg, T, ?_, ?_, fun t ht => hkind _ _ (hTi t ht), fun hn b o e hb => ?_⟩, ?_⟩
        · rw [hT, List.take_of_length_le (by have := HXL.out; omega)]
        · refine hr9.save hsw (fun hn b o e => ?_)
          have := (hl9 b o e).1
          simp
          omega
        · have h1 := (hl9 b o e).1
          have h2 := HV.out b hb
          omega
        · exact (HB0.out.trans (hbel.mono HB0.out.size)).trans (put_below _ (by omega))

end Go.Proofs.YtaijjogjohbheaaGreat

/- A store opened. -/
namespace Go.Proofs.YtaijjogjohbheaaGreat
open Go.RowKit
set_option maxRecDepth 100000
set_option linter.unusedSimpArgs false

/-- What a disk's bytes say of a store: the bytes b, of generation G. -/
def Bk (G : Nat) (b : List Nat) (F : List (List Nat)) (last : Nat) (X : List (Nat × List (List Nat))) : Prop :=
  (G = 0 ∧ b = [] ∧ F = holes ∧ last = 0 ∧ X = []) ∨ (0 < G ∧ b = sEnc F last X)

theorem okS_new : OkS holes 0 [] := ⟨holes_ok, by simp, by simp, by simp, by omega⟩

theorem sopen_nil (w : World) : Calls Tryz.prog 8 #[.pointer none] w fun e w' => e = .returned (.tuple #[.pointer none, .int .i64 1]) ∧ w' = w := by
  have HO := Lib.hid (ropen_nil w)
  go_enter Tryz.func8, Tryz.ntmps8
  go_wp2_with fail
  refine HO.out.mono ?_
  rintro e w1 ⟨rfl, rfl⟩
  go_wp2
  go_ret2
  exact ⟨rfl, rfl⟩

set_option maxHeartbeats 2000000 in
theorem sopen_any (w : World) (gd gp gb k G B : Nat) (s : Pw) (L b : List Nat) (F : List (List Nat)) (last : Nat) (X : List (Nat × List (List Nat))) (h : Dsk w gd gp gb s L k) (hk : 4 ≤ k) (hk1 : k ≤ 1000) (ho : s.on = true) (hi : RInv L k G b) (hb : Bk G b F last X) (hok : OkS F last X) (hw : s.within B) (hB : B < 1000000000) (hG : G < 200) :
    Calls Tryz.prog 8 #[.pointer (some ⟨gd, 0, none⟩)] w fun e w' => ∃ gr gs, e = .returned (.tuple #[.pointer (some ⟨gs, 0, none⟩), .int .i64 0]) ∧ w.heap.size ≤ gr ∧ w.heap.size ≤ gs ∧ Ctx w' gd gp gb gr gs k G B 300 s L b F last X ∧ Below w.heap.size w w' := by
  have hlts := h.lts
  have HD := Lib.hid h
  have HI := Lib.hid hi
  have HOk := Lib.hid hok
  have HM := Lib.hid (And.intro hw (And.intro ho hlts))
  have HFIN : Hid (∀ (w' : World) gr gs, w'.heap[gr]? = some (rootObj gd G) → Below w.heap.size w w' → w.heap.size ≤ gr → w.heap.size ≤ gs → gs ≠ gr → Sto w' [gp, gb, gr, gs] 300 gs gr F last X → Ctx w' gd gp gb gr gs k G B 300 s L b F last X) := by
    refine Lib.hid fun w' gr gs h1 h2 h3 h4 h5 h6 => ?_
    have := HM.out.2.2
    exact ⟨h1, HD.out.later h2, by omega, by omega, HI.out, HM.out.2.1, HM.out.1, h6, HOk.out, hk, hk1, hG, hB, by omega⟩
  rcases hb with ⟨rfl, rfl, rfl, rfl, rfl⟩ | ⟨hG0, rfl⟩
  · have HO := Lib.hid (open_inv w gd gp gb k 0 s L [] h hk hk1 ho hi 6 rfl)
    clear h hi hok hw hlts
    go_enter Tryz.func8, Tryz.ntmps8
    go_wp2_with fail
    refine HO.out.mono ?_
    rintro e w1 ⟨gr, a, c, rfl, hgr, hrd, hr, hb1⟩
    have HR := Lib.hid (And.intro hgr (And.intro hr hb1))
    have HN := Lib.hid (imgNew_any w1)
    clear hgr hrd hr hb1 HO
    go_wp2_with fail
    refine HN.out.mono ?_
    rintro e w2 ⟨gi, bi, rfl, hgi, hbi, himg, hb2⟩
    have HE := Lib.hid (And.intro hgi (And.intro hbi (And.intro himg hb2)))
    clear hgi hbi himg hb2 HN
    go_wp2
    go_ret2
    obtain ⟨hgr, hr, hb1⟩ := HR.out
    obtain ⟨hgi, hbi, himg, hb2⟩ := HE.out
    have hlts := HM.out.2.2
    have hs1 := hb1.size
    have hs2 := hb2.size
    have hrl := lt_of_block hr
    have hb3 : Below w.heap.size w (w2.alloc (stoObj gr gi 0 none 0 0)) := (hb1.trans (hb2.mono hs1)).alloc (by omega) _
    have hr3 : (w2.alloc (stoObj gr gi 0 none 0 0)).heap[gr]? = some (rootObj gd 0) := (heap_alloc_old w2 _ (by omega)).trans ((hb2.block gr hrl).trans hr)
    have hst : Sta w2 [gp, gb, gr] 300 gi none 0 holes [] := by
      refine ⟨⟨bi, 0, himg, by omega, ?_, ?_⟩, [], rfl, RdY.nil _ _, by simp, by omega⟩ <;> simp only [List.mem_cons, List.not_mem_nil, or_false, not_or] <;> omega
    refine ⟨gr, w2.heap.size, rfl, hgr, by omega, HFIN.out _ gr w2.heap.size hr3 hb3 hgr (by omega) (by omega) ⟨gi, none, 0, 0, heap_alloc_new w2 _, Nat.le_refl _, ?_⟩, hb3⟩
    refine (hst.fresh (V' := [gp, gb, gr, w2.heap.size]) (fun k hk hlt => ?_)).later (Below.alloc0 _ _)
    simp only [List.mem_cons, List.not_mem_nil, or_false] at hk ⊢
    omega
  · have HO := Lib.hid (open_inv w gd gp gb k G s L _ h hk hk1 ho hi 0 (by rw [if_neg (by omega)]))
    have HBL : Hid ((sEnc F last X).length ≤ 400000) := Lib.hid hok.len
    obtain ⟨bl, hbl⟩ : ∃ bl, bl = (sEnc F last X).length := ⟨_, rfl⟩
    have HBl := Lib.hid hbl
    rw [← hbl] at HO
    clear h hi hok hw hlts hbl
    go_enter Tryz.func8, Tryz.ntmps8
    go_wp2_with fail
    refine HO.out.mono ?_
    rintro e w1 ⟨gr, a, c, rfl, hgr, hrd, hr, hb1⟩
    have HR := Lib.hid (And.intro hgr (And.intro hr hb1))
    have HRe := Lib.hid (read_state w1 a bl c [gp, gb, gr] F last X hrd (by have := HBL.out; have := HBl.out; omega) HOk.out (by
      have h1 := HM.out.2.2
      have h2 := hb1.size
      have h3 := lt_of_block hr
      simp only [List.mem_cons, List.not_mem_nil, or_false]
      omega))
    unfold stV at HRe
    clear hgr hrd hr hb1 HO
    go_wp2_with fail
    refine HRe.out.mono ?_
    rintro e w2 ⟨gi, a', n', c', rfl, hnc, hst, hb2⟩
    have HE := Lib.hid (And.intro hnc (And.intro hst hb2))
    clear hnc hst hb2 HRe
    go_wp2
    go_ret2
    obtain ⟨hgr, hr, hb1⟩ := HR.out
    obtain ⟨hnc, hst, hb2⟩ := HE.out
    have hlts := HM.out.2.2
    have hs1 := hb1.size
    have hs2 := hb2.size
    have hrl := lt_of_block hr
    obtain ⟨w3, hw3⟩ : ∃ w3, w3 = w2.alloc (.cells #[.pointer (some ⟨gi, 0, none⟩), .int .i64 (last : Int), .slice a' n' c'] 76) := ⟨_, rfl⟩
    rw [← hw3]
    have hs3 : w3.heap.size = w2.heap.size + 1 := by rw [hw3]; simp
    have hb23 : Below w2.heap.size w2 w3 := by rw [hw3]; exact Below.alloc0 _ _
    have hb3 : Below w.heap.size w (w3.alloc (stoObj gr gi last a' n' c')) := ((hb1.trans (hb2.mono hs1)).trans (hb23.mono (by omega))).alloc (by omega) _
    have hr3 : (w3.alloc (stoObj gr gi last a' n' c')).heap[gr]? = some (rootObj gd G) := (heap_alloc_old w3 _ (by omega)).trans ((hb23.block gr (by omega)).trans ((hb2.block gr hrl).trans hr))
    refine ⟨gr, w3.heap.size, by rw [hs3]; rfl, hgr, by omega, HFIN.out _ gr w3.heap.size hr3 hb3 hgr (by omega) (by omega) ⟨gi, a', n', c', heap_alloc_new w3 _, hnc, ?_⟩, hb3⟩
    refine ((hst.later hb23).fresh (V' := [gp, gb, gr, w3.heap.size]) (fun k hk hlt => ?_)).later (Below.alloc0 _ _)
    simp only [List.mem_cons, List.not_mem_nil, or_false] at hk ⊢
    omega

end Go.Proofs.YtaijjogjohbheaaGreat
