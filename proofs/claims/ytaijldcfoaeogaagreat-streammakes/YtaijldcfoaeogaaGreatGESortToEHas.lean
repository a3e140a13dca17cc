/- The contract of slices.SortFunc as package extent calls it, by the library's own, over any world. -/
import Derived.Test.YtaijldcfoaeogaaGreatGERowToEAdd
import Derived.Test.YtaijldcfoaeogaaGreatShelf
import Derived.BigQuiet
import Derived.Deep.RegionHeld3
namespace Go.Proofs.YtaijldcfoaeogaaGreat
open Go.RowKit Go.Shelf Go.Lib Go.Sort

theorem compare_any (x y : Int) (W : World) : Calls Tryz.prog 87 #[.int .i64 x, .int .i64 y] W fun e w' => e = .returned (.int .i64 (if x < y then -1 else if y < x then 1 else 0)) ∧ w' = W := by
  have hnan : ∀ (z : Int) (W : World), Calls Tryz.prog 97 #[.int .i64 z] W fun e w' => e = .returned (.bool false) ∧ w' = W := by
    intro z W
    go_enter Tryz.func97, Tryz.ntmps97
    go_wp2
    go_ret
    exact ⟨rfl, rfl⟩
  by_cases h1 : x < y
  · rw [if_pos h1]
    go_enter Tryz.func87, Tryz.ntmps87
    go_wp2_with fail
    refine (hnan _ _).mono ?_
    rintro e w' ⟨rfl, rfl⟩
    go_wp2_with fail
    refine (hnan _ _).mono ?_
    rintro e w' ⟨rfl, rfl⟩
    go_wp2
    go_ret
    exact ⟨rfl, rfl⟩
  · have h1' : y ≤ x := by omega
    rw [if_neg h1]
    by_cases h2 : y < x
    · rw [if_pos h2]
      clear h1
      go_enter Tryz.func87, Tryz.ntmps87
      go_wp2_with fail
      refine (hnan _ _).mono ?_
      rintro e w' ⟨rfl, rfl⟩
      go_wp2_with fail
      refine (hnan _ _).mono ?_
      rintro e w' ⟨rfl, rfl⟩
      go_wp2
      go_ret
      exact ⟨rfl, rfl⟩
    · have h2' : x ≤ y := by omega
      rw [if_neg h2]
      clear h1 h2
      go_enter Tryz.func87, Tryz.ntmps87
      go_wp2_with fail
      refine (hnan _ _).mono ?_
      rintro e w' ⟨rfl, rfl⟩
      go_wp2_with fail
      refine (hnan _ _).mono ?_
      rintro e w' ⟨rfl, rfl⟩
      go_wp2
      go_ret
      exact ⟨rfl, rfl⟩

/-- A step's two cells. -/
def encR (x : Rn) : List Value := [.int .i64 x.f, .int .i64 x.t]

/-- What cmp says of two numbers. -/
def cmpI (x y : Int) : Int := if x < y then -1 else if y < x then 1 else 0

theorem stepCmp_any (x y : Rn) (W : World) : Calls Tryz.prog 86 #[.agg #[.int .i64 x.f, .int .i64 x.t], .agg #[.int .i64 y.f, .int .i64 y.t]] W fun e w' => e = .returned (.int .i64 (cmpI x.f y.f)) ∧ ∃ q os', w' = grow (W.drewN q) os' := by
  have hcon := fun W' => compare_any x.f y.f W'
  change ∀ W', Calls Tryz.prog 87 _ _ (fun e w' => e = .returned (.int .i64 (cmpI x.f y.f)) ∧ w' = _) at hcon
  generalize cmpI x.f y.f = r at hcon ⊢
  have HC := Lib.hid hcon
  clear hcon
  go_enter Tryz.func86, Tryz.ntmps86
  go_wp2_with fail
  refine (HC.out _).mono ?_
  rintro e w' ⟨rfl, rfl⟩
  go_wp2
  go_ret
  exact ⟨rfl, 0, _, by rw [alloc_eq_grow, alloc_eq_grow, grow_grow]; rfl⟩

theorem ltOf_cmp (x y : Rn) : ltOf (fun x y : Rn => cmpI x.f y.f) x y = decide (x.f < y.f) := by
  unfold ltOf cmpI
  by_cases h1 : x.f < y.f
  · simp [h1]
  · by_cases h2 : y.f < x.f <;> simp [h1, h2]

theorem swoR : SWO (ltOf fun x y : Rn => cmpI x.f y.f) where
  irrefl x := by rw [ltOf_cmp]; simp
  trans x y z h1 h2 := by rw [ltOf_cmp] at *; simp at *; omega
  ntrans x y z h1 h2 := by rw [ltOf_cmp] at *; simp at *; omega

theorem getD_toArray (L : List Rn) (j : Nat) : L.toArray[j]! = L.getD j default := by
  simp [List.getD]

theorem holdsK_of {w : World} {base T g cap : Nat} {L : List Rn} (h : OwnR w base T (.slice (some ⟨g, 0, none⟩) L.length cap) L) : HoldsK encR 2 w g 0 L.toArray := by
  obtain ⟨a, c, hv, hr, _, _⟩ := h.rd
  injection hv with h1 h2 h3
  subst h1
  have hblk : ∃ cur, w.heap[g]? = some (.cells cur T (0, 0)) := by
    rcases h.2 with ⟨hv, _⟩ | ⟨g', cap', cur, hv, _, hgo, _⟩
    · cases hv
    · injection hv with e1 _ _
      injection e1 with e1
      injection e1 with e1 _
      subst e1
      exact ⟨cur, hgo⟩
  obtain ⟨cur, hgo⟩ := hblk
  intro t ht
  rw [size_flatK] at ht
  have ht' : t < L.length * 2 := by simpa using ht
  refine ⟨?_, by simp [World.frozen?, hgo]⟩
  rw [get_flatK _ _ _ t ht, getD_toArray]
  obtain ⟨b, o, he, hc⟩ := hr.2 (by omega)
  injection he with he
  injection he with e1 e2
  subst e1
  subst e2
  have hc' := hc (t / 2) (by omega)
  rcases Nat.mod_two_eq_zero_or_one t with h2 | h2
  · rw [h2]
    have : 0 + t = 0 + t / 2 * 2 := by omega
    rw [this, hc'.1]
    rfl
  · rw [h2]
    have : 0 + t = 0 + t / 2 * 2 + 1 := by omega
    rw [this, hc'.2]
    rfl

theorem rdR_of {w : World} {g n : Nat} {d : Array Rn} (hn : d.size = n) (h : HoldsK encR 2 w g 0 d) : RdR w (some ⟨g, 0, none⟩) n d.toList := by
  refine ⟨by simpa using hn, fun _ => ⟨g, 0, rfl, fun j hj => ?_⟩⟩
  have e : d.toList.getD j default = d[j]! := by
    rw [← getD_toArray]
  rw [e]
  have h0 := (h.cell (i := j) (c := 0) (by omega) (by omega)).1
  have h1 := (h.cell (i := j) (c := 1) (by omega) (by omega)).1
  exact ⟨h0, h1⟩

theorem sort_any (a : Option Addr) (n c : Nat) (S : List Rn) (w : World) (base : Nat) (hbase : base ≤ w.heap.size) (hn : S.length = n) (hb : n < 4611686018427387904) (h : OwnR w base 158 (.slice a n c) S) :
    Calls Tryz.prog 85 #[.slice a n c, .func (.func 86) #[] #[]] w fun e w' => e = .returned (.tuple #[]) ∧ ∃ S', S'.Perm S ∧ RisS S' ∧ RdR w' a n S' ∧ Below base w w' := by
  rcases Nat.eq_zero_or_pos n with h0 | h0
  · subst h0
    have hS : S = [] := List.eq_nil_of_length_eq_zero hn
    subst hS
    have hcon := AnyF.slices_SortFunc_none sortSt a c (.func (.func 86) #[] #[]) w
    change Calls Tryz.prog 85 _ _ _ at hcon
    refine hcon.mono ?_
    rintro e w' ⟨rfl, rfl⟩
    exact ⟨rfl, [], List.Perm.refl _, List.Pairwise.nil, RdR.nil _ _, Below.refl _ _⟩
  · obtain ⟨g, cap, cur, hv, hbg, hgo⟩ : ∃ g cap cur, Value.slice a n c = .slice (some ⟨g, 0, none⟩) n cap ∧ base ≤ g ∧ w.heap[g]? = some (.cells cur 158 (0, 0)) := by
      rcases h.2 with ⟨hv, hl⟩ | ⟨g, cap, cur, hv, hbg, hgo, _⟩
      · omega
      · rw [hn] at hv
        exact ⟨g, cap, cur, hv, hbg, hgo⟩
    injection hv with e1 e2 e3
    subst e1
    subst e3
    subst hn
    have hH : HoldsK encR 2 w g 0 S.toArray := holdsK_of h
    have hlt : g < w.heap.size := lt_of_block hgo
    have eg : ∀ args w, (callFunc 86 args).run Tryz.prog w = .ok (.enter 86 args) w := enters_of Tryz.func86 (by kernel_rfl) rfl
    have hcon := AnyQ.slices_SortFunc sortSt 2 Tryz.isAgg158 Tryz.sizeOf158 encR (fun _ => rfl) (fun x v hv => by simp [encR] at hv; rcases hv with rfl | rfl <;> rfl) (fun x y => cmpI x.f y.f) swoR 86 #[] g 0 c S.toArray w eg (fun _ _ _ _ x y => stepCmp_any x y _) hH hlt (by simpa using hb)
    change Calls Tryz.prog 85 #[.slice (some ⟨g, 0, none⟩) S.length c, _] _ _ at hcon
    refine hcon.mono ?_
    rintro e w' ⟨rfl, d', m, os, hp, hs, rfl⟩
    obtain ⟨hsz, _, hperm⟩ := hp
    have hsz' : d'.size = S.length := by simpa using hsz
    refine ⟨rfl, d'.toList, ?_, ?_, ?_, ?_⟩
    · have e1 : (d'.extract 0 S.toArray.size) = d' := by rw [List.size_toArray, ← hsz']; simp
      rw [e1] at hperm
      simpa using hperm
    · refine List.pairwise_iff_getElem.2 fun i j hi hj hij => ?_
      have h1 := hs i j (Nat.zero_le _) hij (by simp at hj ⊢; omega)
      rw [ltOf_cmp] at h1
      have hi' : i < d'.size := by simpa using hi
      have hj' : j < d'.size := by simpa using hj
      rw [getElem!_pos d' i hi', getElem!_pos d' j hj'] at h1
      simp at h1
      simpa using h1
    · have hH' : HoldsK encR 2 (sortWorldK encR 2 w g 0 m d' os) g 0 d' := by
        unfold sortWorldK
        refine holdsK_grow _ _ _ _ g 0 d' (by simp [putRowK, putRow, mapBlock, Sort.ahead]; exact hlt) ?_
        exact holdsK_putRowK _ _ _ g 0 S.toArray d' (holdsK_ahead _ _ _ _ _ _ _ hH) (by simpa using hsz)
      exact rdR_of hsz' hH'
    · refine ⟨rfl, rfl, rfl, ?_, fun k hk => ?_⟩
      · simp [sortWorldK, grow, putRowK, putRow, mapBlock, Sort.ahead]
      · have hk' : k < w.heap.size := by omega
        have hne : k ≠ g := by omega
        simp [sortWorldK, grow, putRowK, putRow, mapBlock, Sort.ahead, hk', Array.getElem?_append_left, Array.getElem_modify, Ne.symm hne]

end Go.Proofs.YtaijldcfoaeogaaGreat

/- The contracts of counted and Of, over any world. -/
namespace Go.Proofs.YtaijldcfoaeogaaGreat
open Go.RowKit
set_option maxRecDepth 100000

theorem dropR_cons {L : List Rn} {j : Nat} {r : Rn} (hj : j < L.length) (hr : r = L.getD j default) : L.drop j = r :: L.drop (j + 1) := by
  rw [List.drop_eq_getElem_cons hj, hr]; simp [List.getD, hj]

theorem goesOn_no {L : List Rn} {j : Nat} {x : Rn} (h : L.length ≤ j) : goesOn x (L.drop j) = false := by
  rw [List.drop_eq_nil_of_le h]; rfl

theorem goesOn_yes {L : List Rn} {j : Nat} {x : Rn} (h : j < L.length) : goesOn x (L.drop j) = decide ((L.getD j default).f = x.f) := by
  rw [dropR_cons h rfl]; rfl

set_option maxHeartbeats 2000000 in
set_option maxRecDepth 100000 in
theorem counted_any (least : Int) (a : Option Addr) (n c : Nat) (S : List Rn) (w : World) (base : Nat) (hbase : base ≤ w.heap.size) (hn : S.length = n) (hb : n ≤ 1000000) (hs1 : ∀ s ∈ S, -1 ≤ s.t ∧ s.t ≤ 1) (h : OwnR w base 158 (.slice a n c) S) :
    Calls Tryz.prog 64 #[.int .i64 least, .slice a n c] w fun e w' => ∃ v S', e = .returned v ∧ S'.Perm S ∧ RisS S' ∧ OwnR w' w.heap.size 53 v (scanS least S' 0 false 0) ∧ Below base w w' := by
  obtain ⟨i0, hi0, hz0, hz1, hz2⟩ := info_parts info_run
  have HSo := Lib.hid (sort_any a n c S w base hbase hn (by omega) h)
  have HN := Lib.hid hn
  have HS1 := Lib.hid hs1
  clear h hn hs1
  go_enter Tryz.func64, Tryz.ntmps64
  go_wp2_with fail
  refine HSo.out.mono ?_
  rintro e w1 ⟨rfl, S', hp, hri, hrd, hb1⟩
  have HP := Lib.hid hp
  have HRi := Lib.hid hri
  have HRd := Lib.hid hrd
  have HB1 := Lib.hid hb1
  have hS' : ∀ s ∈ S', -1 ≤ s.t ∧ s.t ≤ 1 := fun s hs => HS1.out s (hp.mem_iff.1 hs)
  have HS' := Lib.hid hS'
  have hsz1 : w.heap.size ≤ w1.heap.size := hb1.size
  have HSz := Lib.hid hsz1
  clear HSo hp hri hrd hb1 hS' HS1 HN hsz1
  go_wp2
  go_loopg [5, 6, 7, 8, 16] n (fun k s fr op ct i wr => ∃ (j : Nat) (f : Int) (o : Bool) (q : Int) (acc : List Rn), k = n - j ∧ j ≤ n ∧ i = .int .i64 (j : Int) ∧ fr = .int .i64 f ∧ op = .bool o ∧ ct = .int .i64 q ∧ Hid (-(j : Int) ≤ q ∧ q ≤ j) ∧ Hid (acc.length ≤ j) ∧ OwnR wr w1.heap.size 53 s acc ∧ Below w1.heap.size w1 wr ∧ Hid (acc ++ scanS least (S'.drop j) q o f = scanS least S' 0 false 0))
  case atStart => exact ⟨0, 0, false, 0, [], rfl, Nat.zero_le _, rfl, rfl, rfl, rfl, Lib.hid ⟨by omega, by omega⟩, Lib.hid (by simp), OwnR.nil _ _ _, Below.refl _ _, Lib.hid (by simp)⟩
  case round =>
    obtain ⟨j, f, o, q, acc, hk, hj, rfl, rfl, rfl, rfl, HQ, HAl, ho, hbr, HE⟩ := hrel
    have HK := Lib.hid hk
    have HO := Lib.hid ho
    have HB := Lib.hid hbr
    clear hk ho hbr
    by_cases hlt : j < n
    · have hrr := HRd.out.later HB.out
      obtain ⟨b, oo, r, rfl, hre, hbl, e0, e1⟩ := hrr.at_ (Below.refl _ _) hlt
      have hjl : j < S'.length := by have := HRd.out.1; omega
      have hst : S'.drop j = r :: S'.drop (j + 1) := dropR_cons hjl hre
      have hrt : -1 ≤ r.t ∧ r.t ≤ 1 := by rw [hre]; exact HS'.out _ (getD_mem hjl)
      have HST := Lib.hid hst
      obtain ⟨x, d⟩ := r
      simp only at e0 e1 hrt
      have HQ2 : Hid (-((j : Int) + 1) ≤ q + d ∧ q + d ≤ (j : Int) + 1) := by
        have := HQ.out
        exact Lib.hid (by omega)
      obtain ⟨q2, hq2⟩ : ∃ q2, q2 = q + d := ⟨_, rfl⟩
      have hwr : wrap64 (q + d) = q2 := by
        have := HQ.out
        rw [hq2]
        unfold wrap64
        omega
      rw [← hq2] at HQ2
      have HQE := Lib.hid hq2
      obtain ⟨G, hG⟩ : ∃ G, G = goesOn (⟨x, d⟩ : Rn) (S'.drop (j + 1)) := ⟨_, rfl⟩
      have HG := Lib.hid hG
      have HRR := Lib.hid hrr
      clear hst hre hjl hq2 hrt hG hrr
      go_upto_region 8 with fail
      rw [hwr]
      clear hwr
      obtain ⟨w2, hw2⟩ : ∃ w2, w2 = wr.alloc (.cells #[.int .i64 x, .int .i64 d] 158) := ⟨_, rfl⟩
      rw [← hw2]
      have hb2 : Below wr.heap.size wr w2 := by rw [hw2]; exact Below.alloc0 _ _
      have hbx : BoxR w2 wr.heap.size ⟨x, d⟩ := by rw [hw2]; exact BoxR.new wr x d 158
      obtain ⟨b0, b1⟩ := hbx
      simp only at b0 b1
      have HB2 : Hid (Below w1.heap.size w1 w2) := Lib.hid (HB.out.trans (hb2.mono HB.out.size))
      have HO2 := Lib.hid (HO.out.kept hb2)
      have HR2 := Lib.hid (HRR.out.later hb2)
      clear hw2 hb2 e0 e1 HO HB HRR
      go_cut [40] (fun g wx => g = .bool G ∧ Below w2.heap.size w2 wx)
      case first =>
        rcases Nat.lt_or_ge (j + 1) n with h1 | h1
        · obtain ⟨b', o', r2, he, hre, _, c0, c1⟩ := HR2.out.at_ (Below.refl _ _) h1
          injection he with he
          injection he with he1 he2
          subst he1
          subst he2
          have hg2 : G = decide (r2.f = x) := by
            rw [HG.out, goesOn_yes (by have := HR2.out.1; omega), ← hre]
          obtain ⟨y, y2⟩ := r2
          simp only at c0 c1 hg2
          have hlt' : decide ((j : Int) + 1 < (n : Int)) = true := by simp; omega
          have HG2 := Lib.hid hg2
          clear hre hg2
          go_quiet (fail)
          go_wp2_with fail
          go_meet
          exact ⟨by rw [HG2.out]; rfl, (Below.refl _ _).trans ⟨rfl, rfl, rfl, Nat.le_refl _, fun _ _ => rfl⟩⟩
        · have hlt' : decide ((j : Int) + 1 < (n : Int)) = false := by simp; omega
          go_quiet (fail)
          go_wp2_with fail
          go_meet
          exact ⟨by rw [HG.out, goesOn_no (by have := HR2.out.1; omega)], (Below.refl _ _).trans ⟨rfl, rfl, rfl, Nat.le_refl _, fun _ _ => rfl⟩⟩
      case rest =>
        obtain ⟨rfl, hb3⟩ := hcut
        have b0' : wc.cell? ⟨wr.heap.size, 0, none⟩ = some (.int .i64 x) := (hb3.cell (World.block_lt_of_cell? w2 _ b0)).trans b0
        have HO3 := Lib.hid (HO2.out.kept hb3)
        have HB3 : Hid (Below w1.heap.size w1 wc) := Lib.hid (HB2.out.trans (hb3.mono HB2.out.size))
        clear hb3 b0 b1 HO2 HB2 HR2
        cases G with
        | true =>
          go_wp2
          go_roundg (n - (j + 1))
          case measure => have := HK.out; omega
          case rel => exact ⟨j + 1, f, o, q2, acc, rfl, by omega, by go_num, rfl, rfl, rfl, Lib.hid (by have := HQ2.out; omega), Lib.hid (by have := HAl.out; omega), HO3.out, HB3.out, Lib.hid (by rw [← HE.out, HST.out, scanS, ← HG.out, if_pos rfl, HQE.out])⟩
        | false =>
          by_cases hin : least ≤ q2
          · have hin' : decide (least ≤ q2) = true := by simpa using hin
            have hsc : scanS least (S'.drop j) q o f = scanS least (S'.drop (j + 1)) q2 true (if o then f else x) := by
              rw [HST.out, scanS, ← HG.out]
              simp only [Bool.false_eq_true, if_false, ← HQE.out]
              rw [if_pos hin]
            have HSC := Lib.hid hsc
            clear hsc
            cases o with
            | true =>
              go_wp2
              go_roundg (n - (j + 1))
              case measure => have := HK.out; omega
              case rel => exact ⟨j + 1, f, true, q2, acc, rfl, by omega, by go_num, rfl, rfl, rfl, Lib.hid (by have := HQ2.out; omega), Lib.hid (by have := HAl.out; omega), HO3.out, HB3.out, Lib.hid (by rw [← HE.out, HSC.out]; rfl)⟩
            | false =>
              go_wp2
              go_roundg (n - (j + 1))
              case measure => have := HK.out; omega
              case rel => exact ⟨j + 1, x, true, q2, acc, rfl, by omega, by go_num, rfl, rfl, rfl, Lib.hid (by have := HQ2.out; omega), Lib.hid (by have := HAl.out; omega), HO3.out, HB3.out, Lib.hid (by rw [← HE.out, HSC.out]; rfl)⟩
          · have hin' : decide (least ≤ q2) = false := by simpa using hin
            have hin2 : q2 < least := by omega
            have hsc : scanS least (S'.drop j) q o f = if o then ⟨f, x⟩ :: scanS least (S'.drop (j + 1)) q2 false f else scanS least (S'.drop (j + 1)) q2 false f := by
              rw [HST.out, scanS, ← HG.out]
              simp only [Bool.false_eq_true, if_false, ← HQE.out]
              rw [if_neg hin]
            have HSC := Lib.hid hsc
            clear hsc hin
            cases o with
            | false =>
              go_wp2
              go_roundg (n - (j + 1))
              case measure => have := HK.out; omega
              case rel => exact ⟨j + 1, f, false, q2, acc, rfl, by omega, by go_num, rfl, rfl, rfl, Lib.hid (by have := HQ2.out; omega), Lib.hid (by have := HAl.out; omega), HO3.out, HB3.out, Lib.hid (by rw [← HE.out, HSC.out]; rfl)⟩
            | true =>
              have hbr2 : w1.heap.size ≤ wc.heap.size := HB3.out.size
              have hal : acc.length ≤ 1000000 := by have := HAl.out; omega
              go_wp2_with (at_builtin; have _t := hlt; refine wpList_append_own_at _ rfl (.tmp 56) (.tmp 61) 71 rfl w1.heap.size 53 i0 _ 2 16 Tryz.underlying71 hi0 hz0 hz1 hz2 rfl (by omega) _ acc.length (cR acc) rfl (HO3.out.kept (Below.alloc0 _ _)) ⟨wc.heap.size, 0, none⟩ 1 1 (cR [⟨f, x⟩]) rfl ?hlen (World.news_of_block (cs := #[.int .i64 f, .int .i64 x]) (t := 53) (fr := (0, 0)) (heap_alloc_new wc _)) ?one ?h63 ?hby ?hbase ?next)
              case hlen => rfl
              case one => exact cR_one _
              case h63 => unfold maxLen; omega
              case hby => omega
              case hbase => first | omega | (simp; omega)
              case next =>
                intro v' w' hown hg _ _
                have HO4 : Hid (OwnR w' w1.heap.size 53 v' (acc ++ [⟨f, x⟩])) := Lib.hid (OwnR.of_append rfl hown)
                have HB4 : Hid (Below w1.heap.size w1 w') := Lib.hid ((HB3.out.alloc hbr2 _).grown hg (by simp; omega) (fun k hk => (World.ownsRow.lt HO3.out k hk).1))
                clear hown hg
                go_wp2
                go_roundg (n - (j + 1))
                case measure => have := HK.out; omega
                case rel => exact ⟨j + 1, f, false, q2, acc ++ [⟨f, x⟩], rfl, by omega, by go_num, rfl, rfl, rfl, Lib.hid (by have := HQ2.out; omega), Lib.hid (by have := HAl.out; simp; omega), HO4.out, HB4.out, Lib.hid (by rw [← HE.out, HSC.out]; simp)⟩
    · obtain rfl : j = n := by omega
      go_wp2
      go_ret
      refine ⟨_, S', rfl, HP.out, HRi.out, ?_, HB1.out.trans (HB.out.mono (Nat.le_trans hbase HSz.out))⟩
      have h1 := HE.out
      rw [List.drop_eq_nil_of_le (by have := HRd.out.1; omega)] at h1
      simp only [scanS, List.append_nil] at h1
      rw [← h1]
      exact HO.out.mono HSz.out

theorem low_exists (S : List Rn) : ∃ a : Int, ∀ s ∈ S, a < s.f := by
  induction S with
  | nil => exact ⟨0, by simp⟩
  | cons s S ih =>
    obtain ⟨a, ha⟩ := ih
    refine ⟨min a (s.f - 1), fun q hq => ?_⟩
    rcases List.mem_cons.1 hq with rfl | hq
    · omega
    · have := ha q hq; omega

theorem scanS_len (least : Int) (S : List Rn) : ∀ (c : Int) (o : Bool) (f : Int), (scanS least S c o f).length ≤ S.length := by
  induction S with
  | nil => intro c o f; simp [scanS]
  | cons x S ih =>
    intro c o f
    rw [scanS]
    split
    · have := ih (c + x.t) o f; simp; omega
    · split
      · have := ih (c + x.t) true (if o then f else x.f); simp; omega
      · split
        · have := ih (c + x.t) false f; simp; omega
        · have := ih (c + x.t) false f; simp; omega

/-- Runs that are a set. -/
def IsSet (M : List Rn) : Prop := ∃ a, Canon a M

/-- What a set made of steps has. -/
theorem counted_set {least : Int} {S S' : List Rn} (hp : S'.Perm S) (hr : RisS S') (hs : sumS S = 0) (hl : 0 < least) :
    IsSet (scanS least S' 0 false 0) ∧ (∀ z, inR (scanS least S' 0 false 0) z ↔ least ≤ cntS S z) ∧ (scanS least S' 0 false 0).length ≤ S.length := by
  obtain ⟨h1, h2⟩ := scan_all hr (by rw [sumS_perm hp]; exact hs) hl
  obtain ⟨a, ha⟩ := low_exists S'
  refine ⟨⟨a, h1 a ha⟩, fun z => ?_, ?_⟩
  · rw [h2 z, cntS_perm hp]
  · have := scanS_len least S' 0 false 0
    rw [hp.length_eq] at this
    exact this

/-- The ends of a set's runs, by its numbers. -/
theorem IsSet.ends {M : List Rn} (h : IsSet M) {lo hi : Int} (hb : ∀ z, inR M z → lo ≤ z ∧ z < hi) : ∀ r ∈ M, lo ≤ r.f ∧ r.f < r.t ∧ r.t ≤ hi := by
  obtain ⟨a, ha⟩ := h
  have key : ∀ (M : List Rn) (a : Int), Canon a M → ∀ r ∈ M, r.f < r.t := by
    intro M
    induction M with
    | nil => intro a _ r hr; cases hr
    | cons q M ih =>
      intro a h r hr
      rcases List.mem_cons.1 hr with rfl | hr
      · exact h.2.1
      · exact ih _ h.2.2 r hr
  intro r hr
  have h1 := key M a ha r hr
  have h2 := hb r.f ⟨r, hr, ⟨Int.le_refl _, h1⟩⟩
  have h3 := hb (r.t - 1) ⟨r, hr, ⟨by omega, by omega⟩⟩
  omega

theorem IsSet.unique {M N : List Rn} (hM : IsSet M) (hN : IsSet N) (h : ∀ z, inR M z ↔ inR N z) : M = N := by
  obtain ⟨a, ha⟩ := hM
  obtain ⟨b, hb⟩ := hN
  exact ha.unique hb h

theorem IsSet.ok {M L : List Rn} (hM : IsSet M) (h : ∀ z, inR M z → inR L z) (hL : ∀ r ∈ L, r.ok) : ∀ r ∈ M, r.ok := by
  intro r hr
  have := hM.ends (lo := -1099511627776) (hi := 1099511627776) (fun z hz => by
    obtain ⟨q, hq, h1, h2⟩ := h z hz
    obtain ⟨k1, k2, k3, k4⟩ := hL q hq
    omega) r hr
  exact ⟨by omega, by omega, by omega, by omega⟩

set_option maxHeartbeats 1000000 in
theorem of_any (a : Option Addr) (n c : Nat) (L : List Rn) (w : World) (h : RdR w a n L) (hn : n ≤ 100000) (hok : ∀ r ∈ L, r.ok) :
    Calls Tryz.prog 44 #[.slice a n c] w fun e w' => ∃ v M, e = .returned v ∧ OwnR w' w.heap.size 53 v M ∧ IsSet M ∧ (∀ z, inR M z ↔ inR L z) ∧ M.length ≤ 2 * n ∧ Below w.heap.size w w' := by
  have HA := Lib.hid (addSteps_any (.slice none 0 0) w.heap.size [] 1 (.inl rfl) a n c L w (OwnR.nil _ _ _) (Nat.le_refl _) h (fun _ _ _ _ h => h) hok (by simp; omega))
  have HL := Lib.hid h.1
  clear h hok
  go_enter Tryz.func44, Tryz.ntmps44
  go_wp2_with fail
  refine HA.out.mono ?_
  rintro e w1 ⟨v, rfl, ho, hb⟩
  rw [List.nil_append] at ho
  obtain ⟨a1, c1, hv, _⟩ := ho.rd
  have hlen := stepsR_len 1 L
  have HC := Lib.hid (counted_any 1 a1 (stepsR 1 L).length c1 (stepsR 1 L) w1 w.heap.size hb.size rfl (by have := HL.out; omega) (fun s hs => by rcases stepsR_small hs with h | h <;> omega) (by rw [← hv]; exact ho))
  subst hv
  have HB := Lib.hid hb
  have HLen := Lib.hid hlen
  clear ho hb hlen HA
  go_wp2_with fail
  refine HC.out.mono ?_
  rintro e w2 ⟨v2, S', rfl, hp, hr, ho2, hb2⟩
  obtain ⟨g1, g2, g3⟩ := counted_set (least := 1) hp hr (stepsR_sum 1 L) (by omega)
  have HG := Lib.hid (And.intro g1 (And.intro g2 g3))
  have HO2 := Lib.hid ho2
  have HB2 := Lib.hid hb2
  obtain ⟨M, hM⟩ : ∃ M, M = scanS 1 S' 0 false 0 := ⟨_, rfl⟩
  rw [← hM] at HG HO2
  clear g1 g2 g3 hp hr ho2 hb2 HC hM
  go_wp2
  go_ret
  refine ⟨v2, M, rfl, HO2.out.mono HB.out.size, HG.out.1, fun z => ?_, ?_, HB.out.trans HB2.out⟩
  · rw [HG.out.2.1 z, stepsR_cnt, ← occR_pos]
    omega
  · have h1 := HG.out.2.2
    have h2 := HLen.out
    have h3 := HL.out
    omega

end Go.Proofs.YtaijldcfoaeogaaGreat

/- The contracts of slices.BinarySearchFunc as package extent calls it, of a set's Has and Len, over any world. -/
namespace Go.Proofs.YtaijldcfoaeogaaGreat
open Go.RowKit
set_option maxRecDepth 100000

theorem cmpI_neg {x y : Int} (h : x < y) : cmpI x y = -1 := by simp [cmpI, h]
theorem cmpI_zero (x : Int) : cmpI x x = 0 := by simp [cmpI]
theorem cmpI_pos {x y : Int} (h : y < x) : cmpI x y = 1 := by
  unfold cmpI
  rw [if_neg (by omega), if_pos h]

theorem Canon.get {a : Int} {M : List Rn} (h : Canon a M) : ∀ k, k < M.length → a < (M.getD k default).f ∧ (M.getD k default).f < (M.getD k default).t ∧ ∀ l, k < l → l < M.length → (M.getD k default).t < (M.getD l default).f := by
  induction M generalizing a with
  | nil => intro k hk; simp at hk
  | cons r M ih =>
    obtain ⟨h1, h2, h3⟩ := h
    intro k hk
    cases k with
    | zero =>
      refine ⟨h1, h2, fun l hl hlt => ?_⟩
      cases l with
      | zero => omega
      | succ l => exact (ih h3 l (by simpa using hlt)).1
    | succ k =>
      obtain ⟨g1, g2, g3⟩ := ih h3 k (by simpa using hk)
      refine ⟨by have : r.t < (M.getD k default).f := g1; simp only [List.getD_cons_succ]; omega, g2, fun l hl hlt => ?_⟩
      cases l with
      | zero => omega
      | succ l => exact g3 l (by omega) (by simpa using hlt)

theorem inR_get {M : List Rn} {x : Int} : inR M x ↔ ∃ k, k < M.length ∧ (M.getD k default).f ≤ x ∧ x < (M.getD k default).t := by
  constructor
  · rintro ⟨r, hr, h1, h2⟩
    obtain ⟨k, hk, rfl⟩ := List.getElem_of_mem hr
    have : M.getD k default = M[k] := by simp [List.getD, hk]
    exact ⟨k, hk, by rw [this]; exact h1, by rw [this]; exact h2⟩
  · rintro ⟨k, hk, h1, h2⟩
    exact ⟨_, getD_mem hk, h1, h2⟩

/-- Where a number is looked for: all runs ahead begin below it, none behind does. -/
def Cut (M : List Rn) (x : Int) (i : Nat) : Prop := i ≤ M.length ∧ (∀ k, k < i → (M.getD k default).f < x) ∧ ∀ k, i ≤ k → k < M.length → x ≤ (M.getD k default).f

theorem Cut.found {a : Int} {M : List Rn} (h : Canon a M) {x : Int} {i : Nat} (hi : i < M.length) (he : (M.getD i default).f = x) : inR M x :=
  inR_get.2 ⟨i, hi, by omega, by have := (h.get i hi).2.1; omega⟩

theorem Cut.has {a : Int} {M : List Rn} (h : Canon a M) {x : Int} {i : Nat} (hc : Cut M x i) (hn : i < M.length → (M.getD i default).f ≠ x) : inR M x ↔ 0 < i ∧ x < (M.getD (i - 1) default).t := by
  obtain ⟨c1, c2, c3⟩ := hc
  rw [inR_get]
  constructor
  · rintro ⟨k, hk, h1, h2⟩
    have hki : k < i := by
      rcases Nat.lt_or_ge k i with h3 | h3
      · exact h3
      · have h4 := c3 k h3 hk
        have h5 := c3 i (Nat.le_refl _) (by omega)
        rcases Nat.lt_or_ge i k with h6 | h6
        · have h7 := (h.get i (by omega)).2.2 k h6 hk
          have h8 := (h.get i (by omega)).2.1
          omega
        · have : k = i := by omega
          subst this
          exact absurd (by omega) (hn hk)
    refine ⟨by omega, ?_⟩
    rcases Nat.lt_or_ge k (i - 1) with h3 | h3
    · have h4 := (h.get k hk).2.2 (i - 1) h3 (by omega)
      have h5 := c2 (i - 1) (by omega)
      omega
    · have : k = i - 1 := by omega
      subst this
      exact h2
  · rintro ⟨h1, h2⟩
    exact ⟨i - 1, by omega, by have := c2 (i - 1) (by omega); omega, h2⟩

/-- How many numbers some runs have, one run behind the other. -/
def sumLen : List Rn → Int
  | [] => 0
  | r :: L => (if r.f < r.t then r.t - r.f else 0) + sumLen L

theorem sumLen_snoc (L : List Rn) (r : Rn) : sumLen (L ++ [r]) = sumLen L + (if r.f < r.t then r.t - r.f else 0) := by
  induction L with
  | nil => simp [sumLen]
  | cons q L ih => simp only [List.cons_append, sumLen, ih]; omega

theorem sumLen_le (L : List Rn) (h : ∀ r ∈ L, r.ok) : 0 ≤ sumLen L ∧ sumLen L ≤ 2199023255552 * (L.length : Int) := by
  induction L with
  | nil => simp [sumLen]
  | cons q L ih =>
    obtain ⟨h1, h2⟩ := ih fun r hr => h r (by simp [hr])
    obtain ⟨k1, k2, k3, k4⟩ := h q (by simp)
    simp only [sumLen, List.length_cons]
    split <;> omega

end Go.Proofs.YtaijldcfoaeogaaGreat
