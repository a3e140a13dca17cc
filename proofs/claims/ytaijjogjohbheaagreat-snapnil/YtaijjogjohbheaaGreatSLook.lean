/- The contracts of a store's Image, List, Diff; of a nil store. -/
import Derived.Test.YtaijjogjohbheaaGreatSBytesAll
import Derived.Test.YtaijjogjohbheaaGreatIDiffAll
namespace Go.Proofs.YtaijjogjohbheaaGreat
open Go.RowKit
set_option maxRecDepth 100000
set_option linter.unusedSimpArgs false

/-- What Image answers. -/
def ImP (w : World) (N : Nat) (o : Option (List (List Nat))) (e : Ending) (w' : World) : Prop :=
  Below w.heap.size w w' ∧ ((o = none ∧ e = .returned (.tuple #[.pointer none, .int .i64 6])) ∨
    ∃ G g' b' n, o = some G ∧ n ≤ N ∧ e = .returned (.tuple #[.pointer (some ⟨g', 0, none⟩), .int .i64 0]) ∧ w.heap.size ≤ g' ∧ w.heap.size ≤ b' ∧ Img w' g' b' n G)

theorem image_nil (w : World) (x : Int) : Calls Tryz.prog 18 #[.pointer none, .int .i64 x] w fun e w' => e = .returned (.tuple #[.pointer none, .int .i64 1]) ∧ w' = w := by
  go_enter Tryz.func18, Tryz.ntmps18
  go_wp2
  go_ret2
  exact ⟨rfl, rfl⟩

theorem clone_img (w : World) (V : List Nat) (N g : Nat) (F : List (List Nat)) (h : ImgV w V N g F) (hN : N < 100000) :
    Calls Tryz.prog 32 #[.pointer (some ⟨g, 0, none⟩)] w fun e w' => ∃ g' b' n, n ≤ N ∧ e = .returned (.pointer (some ⟨g', 0, none⟩)) ∧ w.heap.size ≤ g' ∧ w.heap.size ≤ b' ∧ Img w' g' b' n F ∧ Below w.heap.size w w' := by
  obtain ⟨b, n, h1, h2, h3, h4⟩ := h
  refine (imgClone_any w g b n F h1 (by omega)).mono ?_
  rintro e w' ⟨g', b', rfl, k1, k2, k3, k4⟩
  exact ⟨g', b', n, h2, rfl, k1, k2, k3, k4⟩

set_option maxHeartbeats 1000000 in
theorem image_any (w : World) (V : List Nat) (N gs gr last : Nat) (F : List (List Nat)) (X : List (Nat × List (List Nat))) (x : Int) (h : Sto w V N gs gr F last X) (hok : OkS F last X) (hN : N < 100000) :
    Calls Tryz.prog 18 #[.pointer (some ⟨gs, 0, none⟩), .int .i64 x] w (ImP w N (lkS F X x)) := by
  obtain ⟨gi, a, n, c, hobj, hnc, hst⟩ := h
  have hn := hst.len
  have hfew := hok.few
  by_cases h0 : x = 0
  · subst h0
    have hcl := clone_img w V N gi F hst.img hN
    obtain ⟨c0, c1, c2, c3⟩ := sto_cells hobj
    have HC := Lib.hid hcl
    have HL : Hid (lkS F X 0 = some F) := Lib.hid (by simp [lkS])
    clear hcl hst hobj hok
    go_enter Tryz.func18, Tryz.ntmps18
    go_wp2_with fail
    refine HC.out.mono ?_
    rintro e w1 ⟨g', b', m, k0, rfl, k1, k2, k3, k4⟩
    have HE := Lib.hid (And.intro k0 (And.intro k1 (And.intro k2 (And.intro k3 k4))))
    clear k0 k1 k2 k3 k4 c0 c1 c2 c3
    go_wp2
    go_ret2
    exact ⟨HE.out.2.2.2.2, .inr ⟨F, g', b', m, HL.out, HE.out.1, rfl, HE.out.2.1, HE.out.2.2.1, HE.out.2.2.2.1⟩⟩
  · obtain ⟨T, hX, hRY, hT, hV⟩ := hst.row
    subst hX
    have hTl : T.length = n := by simpa using hn
    have HF := Lib.hid (find_any gi last a n c (T.map tY) x w hRY (by omega) hok.incY)
    unfold stV at HF
    obtain ⟨c0, c1, c2, c3⟩ := sto_cells hobj
    have HR := Lib.hid hRY
    have HT := Lib.hid hT
    have HO := Lib.hid hok
    have HOB := Lib.hid hobj
    have HTl := Lib.hid hTl
    have hx0 : (x == 0) = false := by simp [h0]
    clear hst hobj hok hRY hT hV hn
    go_enter Tryz.func18, Tryz.ntmps18
    go_wp2_with fail
    refine HF.out.mono ?_
    rintro e w1 ⟨i, fd, rfl, hi, hfd, hnf, hb⟩
    have HFd := Lib.hid (And.intro hi (And.intro hfd hnf))
    have HB := Lib.hid hb
    obtain ⟨d0, d1, d2, d3⟩ := sto_cells ((HB.out.block gs (lt_of_block HOB.out)).trans HOB.out)
    cases fd with
    | true =>
      obtain ⟨hin, hix⟩ := hfd rfl
      obtain ⟨b, o, r, rfl, hre, hbl, e0, e1⟩ := HR.out.at_ hb hin
      have hiT : i < T.length := by omega
      rw [getD_tY hiT] at hre hix
      have hm := getD_memS (T := T) hiT
      have himg := HT.out _ hm
      obtain ⟨t, ht⟩ : ∃ t, t = T.getD i default := ⟨_, rfl⟩
      rw [← ht] at hre himg hix
      obtain ⟨p, g, G⟩ := t
      simp only [tY] at hre hix
      subst hre
      simp only at e0 e1 himg
      have HL : Hid (lkS F (T.map tX) x = some G) := by
        refine Lib.hid ?_
        have h1 := lkS_at (F := F) HO.out.inc (i := i) (by simpa using hiT) (x := x) (by rw [getD_tX hiT, ← ht]; exact hix) h0
        rw [getD_tX hiT, ← ht] at h1
        exact h1
      have HC := Lib.hid (clone_img w1 V N g G (himg.save (Save.of_below hb []) (by simp)) hN)
      clear hi hfd hnf hb HF hix hbl hm himg ht c0 c1 c2 c3 h0
      go_wp2_with fail
      refine HC.out.mono ?_
      rintro e w2 ⟨g', b', m, k0, rfl, k1, k2, k3, k4⟩
      have HE := Lib.hid (And.intro k0 (And.intro k1 (And.intro k2 (And.intro k3 k4))))
      clear k0 k1 k2 k3 k4 d0 d1 d2 d3 e0 e1
      go_wp2
      go_ret2
      have hs := HB.out.size
      exact ⟨HB.out.trans (HE.out.2.2.2.2.mono hs), .inr ⟨G, g', b', m, HL.out, HE.out.1, rfl, Nat.le_trans hs HE.out.2.1, Nat.le_trans hs HE.out.2.2.1, HE.out.2.2.2.1⟩⟩
    | false =>
      have HL : Hid (lkS F (T.map tX) x = none) := by
        refine Lib.hid (lkS_none (fun k hk => ?_) h0)
        have hk' : k < T.length := by simpa using hk
        have := hnf rfl k (by omega)
        rw [getD_tY hk'] at this
        rw [getD_tX hk']
        exact this
      clear hi hfd hnf hb HF c0 c1 c2 c3 h0
      go_wp2
      go_ret2
      exact ⟨HB.out, .inl ⟨HL.out, rfl⟩⟩

theorem info_int : (Tryz.prog.info? 3).map (fun i => (i.zero, i.size, i.bytes)) = some (some (.int .i64 0), 1, 8) := by kernel_rfl

def cN (L : List Nat) : List Value := L.map fun x : Nat => Value.int .i64 (x : Int)

theorem cN_one (L : List Nat) : ∀ u ∈ cN L, u.oneCell' = true := by
  intro u hu
  simp only [cN, List.mem_map] at hu
  obtain ⟨x, _, rfl⟩ := hu
  rfl

/-- A row of the call's own of numbers. -/
def OwnN (w : World) (base : Nat) (v : Value) (L : List Nat) : Prop := w.ownsRow base 3 1 v L.length (cN L)

theorem OwnN.kept {w w' : World} {base : Nat} {v : Value} {L : List Nat} (h : OwnN w base v L) (hb : Below w.heap.size w w') : OwnN w' base v L :=
  World.ownsRow.kept h (row := none) ⟨hb.os, hb.tape, hb.output, hb.size, fun k hk _ => hb.block k hk⟩ (by
    cases hv : v.ownBlock with
    | none => exact .inl rfl
    | some k => exact .inr (by simp))

/-- The slice reads as the numbers. -/
def RdN (w : World) (a : Option Addr) (n : Nat) (L : List Nat) : Prop :=
  L.length = n ∧ (0 < n → ∃ b o, a = some ⟨b, o, none⟩ ∧ ∀ j, j < n → w.cell? ⟨b, o + j, none⟩ = some (.int .i64 ((L.getD j 0 : Nat) : Int)))

theorem RdN.later {w w' : World} {a : Option Addr} {n : Nat} {L : List Nat} (h : RdN w a n L) (hb : Below w.heap.size w w') : RdN w' a n L := by
  refine ⟨h.1, fun hn => ?_⟩
  obtain ⟨b, o, rfl, hc⟩ := h.2 hn
  exact ⟨b, o, rfl, fun j hj => (hb.cell (p := ⟨b, o + j, none⟩) (World.block_lt_of_cell? w _ (hc j hj))).trans (hc j hj)⟩

theorem OwnN.rd {w : World} {base : Nat} {v : Value} {L : List Nat} (h : OwnN w base v L) : ∃ a c, v = .slice a L.length c ∧ RdN w a L.length L := by
  have h1 := h
  rcases h.2 with ⟨rfl, hl⟩ | ⟨g, cap, cur, rfl, hbg, hgo, hnc, _⟩
  · have : L = [] := List.eq_nil_of_length_eq_zero hl
    subst this
    exact ⟨none, 0, rfl, rfl, by simp⟩
  · refine ⟨_, cap, rfl, rfl, fun _ => ⟨g, 0, rfl, fun j hj => ?_⟩⟩
    have e0 := h1.cells (g := g) rfl j (.int .i64 ((L.getD j 0 : Nat) : Int)) (by simp [cN, List.getD, hj])
    rw [add_plain] at e0
    exact e0

theorem list_nil (w : World) : Calls Tryz.prog 21 #[.pointer none] w fun e w' => e = .returned (.slice none 0 0) ∧ w' = w := by
  go_enter Tryz.func21, Tryz.ntmps21
  go_wp2
  go_ret
  exact ⟨rfl, rfl⟩

set_option maxHeartbeats 1000000 in
theorem list_any (w : World) (V : List Nat) (N gs gr last : Nat) (F : List (List Nat)) (X : List (Nat × List (List Nat))) (h : Sto w V N gs gr F last X) (hok : OkS F last X) :
    Calls Tryz.prog 21 #[.pointer (some ⟨gs, 0, none⟩)] w fun e w' => ∃ a c, e = .returned (.slice a X.length c) ∧ RdN w' a X.length (X.map (·.1)) ∧ Below w.heap.size w w' := by
  obtain ⟨i0, hi0, hz0, hz1, hz2⟩ := info_parts info_int
  obtain ⟨gi, a, n, c, hobj, hnc, hst⟩ := h
  have hn := hst.len
  have hfew := hok.few
  obtain ⟨T, hX, hRY, hT, hV⟩ := hst.row
  have HR := Lib.hid hRY
  have HX := Lib.hid hX
  have hTl : T.length = n := by rw [hX] at hn; simpa using hn
  have HTl := Lib.hid hTl
  obtain ⟨c0, c1, c2, c3⟩ := sto_cells hobj
  have hn32 : n ≤ 32 := by omega
  have HNL := Lib.hid hn
  clear hst hobj hok hRY hT hV hX hn hTl
  go_enter Tryz.func21, Tryz.ntmps21
  go_wp2
  go_loopg [3, 14] n (fun k v i wr => ∃ (j : Nat) (sv : Value), sv = v ∧ k = n - j ∧ j ≤ n ∧ i = .int .i64 (j : Int) ∧ Hid (OwnN wr w.heap.size sv ((X.map (·.1)).take j)) ∧ Hid (Below w.heap.size w wr))
  case atStart => exact ⟨0, _, rfl, rfl, Nat.zero_le _, rfl, Lib.hid (by simpa [OwnN, cN] using World.ownsRow_nil w w.heap.size 3 1), Lib.hid (Below.refl _ _)⟩
  case round =>
    obtain ⟨j, sv, rfl, hk, hj, rfl, HO, HB⟩ := hrel
    have HK := Lib.hid hk
    clear hk c0 c1 c2 c3
    by_cases hlt : j < n
    · have hjT : j < T.length := by have := HTl.out; omega
      obtain ⟨b, o, r, rfl, hre, hbl, e0, e1⟩ := HR.out.at_ HB.out hlt
      rw [getD_tY hjT] at hre
      obtain ⟨t, ht⟩ : ∃ t, t = T.getD j default := ⟨_, rfl⟩
      rw [← ht] at hre
      obtain ⟨p, g, G⟩ := t
      simp only [tY] at hre
      subst hre
      simp only at e0 e1
      have HST : Hid ((X.map (·.1)).take (j + 1) = (X.map (·.1)).take j ++ [p]) := by
        refine Lib.hid ?_
        have hjX : j < (X.map (·.1)).length := by rw [HX.out]; simpa using hjT
        rw [List.take_succ_eq_append_getElem hjX]
        congr 2
        have e := getD_tX (T := T) hjT
        rw [← ht, ← HX.out] at e
        have hjX' : j < X.length := by simpa using hjX
        have e2 : X.getD j default = X[j] := by simp [List.getD, hjX']
        simp only [List.getElem_map]
        rw [← e2, e]
        rfl
      obtain ⟨A, hA⟩ : ∃ A, A = (X.map (·.1)).take j := ⟨_, rfl⟩
      rw [← hA] at HO HST
      have hAl : A.length ≤ 1000 := by rw [hA, List.length_take]; omega
      have hbr : w.heap.size ≤ wr.heap.size := HB.out.size
      clear ht hA hbl
      go_wp2_with (at_builtin; have _t := hlt; refine wpList_append_own_at _ rfl (.tmp 18) (.tmp 21) 63 rfl w.heap.size 3 i0 _ 1 8 Tryz.underlying63 hi0 hz0 hz1 hz2 rfl (by omega) sv A.length (cN A) rfl (HO.out.kept ((Below.alloc0 _ _).alloc (by simp) _)) ⟨wr.heap.size + 1, 0, none⟩ 1 1 (cN [p]) rfl ?hlen (World.news_of_block (cs := #[.int .i64 (p : Int)]) (t := 3) (fr := (0, 0)) (heap_alloc2 wr _ _)) ?one ?h63 ?hby ?hbase ?next)
      case hlen => rfl
      case one => exact cN_one _
      case h63 => unfold maxLen; omega
      case hby => omega
      case hbase => simp; omega
      case next =>
        intro v' w' hown hg _ _
        have HO3 : Hid (OwnN w' w.heap.size v' (A ++ [p])) := Lib.hid (by unfold OwnN; rw [List.length_append]; simpa [cN] using hown)
        have HB3 : Hid (Below w.heap.size w w') := Lib.hid (((HB.out.alloc hbr _).alloc (by simp; omega) _).grown hg (by simp; omega) (fun k hk => (World.ownsRow.lt HO.out k hk).1))
        clear hown hg
        go_wp2
        go_roundg (n - (j + 1))
        case measure => have := HK.out; omega
        case rel => exact ⟨j + 1, v', rfl, rfl, by omega, by go_num, Lib.hid (by rw [HST.out]; exact HO3.out), HB3⟩
    · obtain rfl : j = n := by omega
      have h1 := HO.out
      have hl : (X.map (·.1)).length = j := by rw [List.length_map]; exact HNL.out
      rw [List.take_of_length_le (by omega)] at h1
      obtain ⟨a', c', hv, hr⟩ := h1.rd
      rw [List.length_map] at hv hr
      subst hv
      have HR2 := Lib.hid hr
      clear h1 hr hl HO
      go_wp2
      go_ret
      exact ⟨a', c', rfl, HR2.out, HB.out⟩

/-- What Diff answers. -/
def DfP (w : World) (o o' : Option (List (List Nat))) (e : Ending) (w' : World) : Prop :=
  Below w.heap.size w w' ∧ (((o = none ∨ o' = none) ∧ e = .returned (.tuple #[.slice none 0 0, .slice none 0 0, .int .i64 6])) ∨
    ∃ G H M K a n c a' n' c', o = some G ∧ o' = some H ∧ okF G ∧ okF H ∧ e = .returned (.tuple #[.slice a n c, .slice a' n' c', .int .i64 0]) ∧ SetF (diffF G H) M ∧ SetF (goneF G H) K ∧ RdR w' a n M ∧ RdR w' a' n' K)

theorem sdiff_nil (w : World) (x y : Int) : Calls Tryz.prog 19 #[.pointer none, .int .i64 x, .int .i64 y] w fun e w' => e = .returned (.tuple #[.slice none 0 0, .slice none 0 0, .int .i64 1]) ∧ w' = w := by
  have HI := Lib.hid (image_nil w x)
  go_enter Tryz.func19, Tryz.ntmps19
  go_wp2_with fail
  refine HI.out.mono ?_
  rintro e w1 ⟨rfl, rfl⟩
  go_wp2
  go_ret3
  exact ⟨rfl, rfl⟩

set_option maxHeartbeats 1000000 in
theorem sdiff_any (w : World) (V : List Nat) (N gs gr last : Nat) (F : List (List Nat)) (X : List (Nat × List (List Nat))) (x y : Int) (h : Sto w V N gs gr F last X) (hok : OkS F last X) (hN : N < 100000) :
    Calls Tryz.prog 19 #[.pointer (some ⟨gs, 0, none⟩), .int .i64 x, .int .i64 y] w (DfP w (lkS F X x) (lkS F X y)) := by
  have HI := Lib.hid (image_any w V N gs gr last F X x h hok hN)
  have HI2 : Hid (∀ W, Below w.heap.size w W → Calls Tryz.prog 18 #[.pointer (some ⟨gs, 0, none⟩), .int .i64 y] W (ImP W N (lkS F X y))) := Lib.hid fun W hW => image_any W V N gs gr last F X y (h.later hW) hok hN
  obtain ⟨o, ho⟩ : ∃ o, o = lkS F X x := ⟨_, rfl⟩
  obtain ⟨o', ho'⟩ : ∃ o', o' = lkS F X y := ⟨_, rfl⟩
  rw [← ho] at HI ⊢
  rw [← ho'] at HI2 ⊢
  clear h hok ho ho'
  go_enter Tryz.func19, Tryz.ntmps19
  go_wp2_with fail
  refine HI.out.mono ?_
  rintro e w1 ⟨hb1, ⟨rfl, rfl⟩ | ⟨G, g1, b1, n1, rfl, hn1, rfl, hg1, hbb1, himg1⟩⟩
  · have HB1 := Lib.hid hb1
    clear hb1
    go_wp2
    go_ret3
    exact ⟨HB1.out, .inl ⟨.inl rfl, rfl⟩⟩
  · have HB1 := Lib.hid hb1
    have HM1 := Lib.hid (And.intro hn1 himg1)
    clear hb1 hn1 hg1 hbb1 himg1
    go_wp2_with fail
    refine (HI2.out _ HB1.out).mono ?_
    rintro e w2 ⟨hb2, ⟨rfl, rfl⟩ | ⟨H, g2, b2, n2, rfl, hn2, rfl, hg2, hbb2, himg2⟩⟩
    · have HB2 := Lib.hid hb2
      clear hb2
      go_wp2
      go_ret3
      exact ⟨HB1.out.trans (HB2.out.mono HB1.out.size), .inl ⟨.inr rfl, rfl⟩⟩
    · have HD := Lib.hid (diff_any w2 g1 b1 n1 g2 b2 n2 G H (HM1.out.2.later hb2) himg2 (by have := HM1.out.1; omega))
      have HB2 := Lib.hid (HB1.out.trans (hb2.mono HB1.out.size))
      have HOK := Lib.hid (And.intro HM1.out.2.ok himg2.ok)
      clear hb2 hn2 hg2 hbb2 himg2
      go_wp2_with fail
      refine HD.out.mono ?_
      rintro e w3 ⟨v, u, M, K, rfl, hv, hM, hu, hK, hb3⟩
      obtain ⟨a3, c3, rfl, hr3, _⟩ := hv.rd
      obtain ⟨a4, c4, rfl, hr4, _⟩ := hu.rd
      have HE := Lib.hid (And.intro hM (And.intro hK (And.intro hr3 hr4)))
      have HB3 := Lib.hid (HB2.out.trans (hb3.mono HB2.out.size))
      obtain ⟨m, hm⟩ : ∃ m, m = M.length := ⟨_, rfl⟩
      obtain ⟨k, hk⟩ : ∃ k, k = K.length := ⟨_, rfl⟩
      rw [← hm, ← hk] at HE
      rw [← hm, ← hk]
      clear hv hM hu hK hr3 hr4 hb3 hm hk
      go_wp2
      go_ret3
      exact ⟨HB3.out, .inr ⟨G, H, M, K, a3, m, c3, a4, k, c4, rfl, rfl, HOK.out.1, HOK.out.2, rfl, HE.out.1, HE.out.2.1, HE.out.2.2.1, HE.out.2.2.2⟩⟩

end Go.Proofs.YtaijjogjohbheaaGreat
