/- DigestRows returns true, whatever the bytes and the pieces. -/
import Derived.Test.YtiajcolhemdnaaaDJoinsBig
namespace Go.Proofs.Ytiajcolhemdnaaa
open Go.RowKit

set_option maxHeartbeats 800000 in
set_option maxRecDepth 100000 in
theorem rows_big1 (a : Option Addr) (n c : Nat) (pa : Option Addr) (pn pc : Nat) (w : World) (h : 3000 < n) :
    Calls Try.prog 3 #[.slice a n c, .slice pa pn pc] w fun e w' => e = .returned (.bool true) ∧ Below w.heap.size w w' := by
  have hd : decide (3000 < (n : Int)) = true := by simp; omega
  clear h
  go_enter Try.func3, Try.ntmps3
  go_wp2_with fail
  refine (lives_any w).mono ?_
  rintro e w1 ⟨rfl, hb⟩
  have HB := Lib.hid hb
  clear hb
  go_wp2_with fail
  refine (lives_any w1).mono ?_
  rintro e w2 ⟨rfl, hb2⟩
  have HB2 := Lib.hid hb2
  clear hb2
  go_wp2
  go_ret
  exact ⟨rfl, HB.out.trans (HB2.out.mono HB.out.size)⟩

set_option maxHeartbeats 800000 in
set_option maxRecDepth 100000 in
theorem rows_big2 (a : Option Addr) (n c : Nat) (pa : Option Addr) (pn pc : Nat) (w : World) (h0 : n ≤ 3000) (h : 60 < pn) :
    Calls Try.prog 3 #[.slice a n c, .slice pa pn pc] w fun e w' => e = .returned (.bool true) ∧ Below w.heap.size w w' := by
  have hd0 : decide (3000 < (n : Int)) = false := by simp; omega
  have hd : decide (60 < (pn : Int)) = true := by simp; omega
  clear h h0
  go_enter Try.func3, Try.ntmps3
  go_wp2_with fail
  refine (lives_any w).mono ?_
  rintro e w1 ⟨rfl, hb⟩
  have HB := Lib.hid hb
  clear hb
  go_wp2_with fail
  refine (lives_any w1).mono ?_
  rintro e w2 ⟨rfl, hb2⟩
  have HB2 := Lib.hid hb2
  clear hb2
  go_wp2
  go_ret
  exact ⟨rfl, HB.out.trans (HB2.out.mono HB.out.size)⟩

set_option maxHeartbeats 8000000 in
set_option maxRecDepth 100000 in
theorem rows_walk (a : Option Addr) (n c : Nat) (l : List Nat) (pa : Option Addr) (pn pc : Nat) (pl : List Nat) (w : World) (h : Rd w a n l) (hp : Rd w pa pn pl) (hnc : n ≤ c) (hn : n ≤ 3000) (hpn : pn ≤ 60) :
    Calls Try.prog 3 #[.slice a n c, .slice pa pn pc] w fun e w' => e = .returned (.bool true) ∧ Below w.heap.size w w' := by
  obtain ⟨i0, hi0, hz0, hz1, hz2⟩ := info_parts info_digest
  have hd0 : decide (3000 < (n : Int)) = false := by simp; omega
  have hd1 : decide (60 < (pn : Int)) = false := by simp; omega
  have HR := Lib.hid h
  have HP := Lib.hid hp
  clear h hp
  obtain ⟨S, hS⟩ : ∃ S, S = dSum l := ⟨_, rfl⟩
  have HS := Lib.hid hS
  clear hS
  go_enter Try.func3, Try.ntmps3
  go_wp2_with fail
  refine (lives_any w).mono ?_
  rintro e w1 ⟨rfl, hb1⟩
  have HR1 := Lib.hid (HR.out.later hb1)
  have HB1 := Lib.hid hb1
  clear hb1
  go_wp2_with fail
  refine (refOf_any a n c l w1 HR1.out (by omega)).mono ?_
  rintro e w2 ⟨rfl, nq, hw2⟩
  rw [← HS.out]
  have HR2 : Hid (Rd w2 a n l) := by rw [hw2]; exact Lib.hid HR1.out
  have HB2 : Hid (Below w.heap.size w w2) := by rw [hw2]; exact Lib.hid (HB1.out.trans ⟨rfl, rfl, rfl, Nat.le_refl _, fun _ _ => rfl⟩)
  clear hw2 HR1 HB1
  go_wp2_with fail
  refine (of_any a n c l w2 HR2.out (by omega)).mono ?_
  rintro e w3 ⟨rfl, hw3⟩
  rw [← HS.out] at hw3 ⊢
  have HB3 : Hid (Below w.heap.size w w3) := by rw [hw3]; exact Lib.hid (HB2.out.alloc HB2.out.size _)
  clear hw3 HR2 HB2
  go_upto_region 7 with fail
  obtain ⟨w4, h4⟩ : ∃ w4, w4 = w3.alloc (.cells #[.int .u64 (n : Int), .int .u64 (S : Int)] 28) := ⟨_, rfl⟩
  rw [← h4]
  obtain ⟨g, hg⟩ : ∃ g, g = w3.heap.size := ⟨_, rfl⟩
  have HG : Hid (Box w4 g n S) := by rw [h4, hg]; exact Lib.hid (Box.new _ _ _)
  have HB4 : Hid (Below w.heap.size w w4) := by rw [h4]; exact Lib.hid (HB3.out.alloc HB3.out.size _)
  rw [← hg]
  clear h4 hg HB3 hd0 hd1
  go_wp2
  go_loopg [8, 9, 42] pn (fun k v at_ i wr => ∃ (j q : Nat) (L : List (Nat × Nat)), k = pn - j ∧ j ≤ pn ∧ i = .int .i64 (j : Int) ∧ at_ = .int .i64 (q : Int) ∧ q ≤ n ∧ Hid (OwnD wr w4.heap.size v L ∧ L.length = j ∧ dJoin L = dOf (l.take q) ∧ Below w4.heap.size w4 wr ∧ ∀ d ∈ L, d.2 < 18446744073709551616))
  case atStart => exact ⟨0, 0, [], rfl, Nat.zero_le _, rfl, rfl, Nat.zero_le _, Lib.hid ⟨OwnD.nil _ _, rfl, by simp [dJoin, dOf, dSum, dFrom], Below.refl _ _, by simp⟩⟩
  case round =>
    obtain ⟨j, q, L, hk, hj, rfl, rfl, hq, HI⟩ := hrel
    have HK := Lib.hid hk
    have HBR : Hid (Below w.heap.size w wr) := Lib.hid (HB4.out.trans (HI.out.2.2.2.1.mono HB4.out.size))
    have HRr := Lib.hid (HR.out.below HBR.out fun _ _ _ h => h)
    have HGr := Lib.hid (HG.out.below HI.out.2.2.2.1)
    clear hk
    by_cases hlt : j < pn
    · obtain ⟨b, o, hpa, hc⟩ := (HP.out.later HBR.out).2.2 (by omega)
      have hcell := hc j hlt
      have hy : pl.getD j 0 < 256 := HP.out.2.1 _ (by have := HP.out.1; simp [List.getD, show j < pl.length by omega])
      obtain ⟨y, hye⟩ : ∃ y, y = pl.getD j 0 := ⟨_, rfl⟩
      rw [← hye] at hcell hy
      clear hye hc
      subst hpa
      go_upto_region 13 with fail
      obtain ⟨t, ht⟩ : ∃ t : Nat, t = min (q + y) n := ⟨_, rfl⟩
      have hqt : q ≤ t := by omega
      have htn : t ≤ n := by omega
      have hif : (if (n : Int) < (q : Int) + (y : Int) then (n : Int) else (q : Int) + (y : Int)) = (t : Int) := by split <;> omega
      rw [hif]
      clear hif ht hcell hy
      have hsl : ∀ W : World, (Instr.slice 22 (.slice a n c) (some (.int .i64 (q : Int))) (some (.int .i64 (t : Int))) none).run Try.prog W = .ok (.slice (cutA a c q) (t - q) (c - q)) W := fun W => slice_both a n c q t .i64 .i64 hqt (by omega) W
      have hpart : Rd wr (cutA a c q) (t - q) ((l.drop q).take (t - q)) := (HRr.out.cut hq hnc).first (by omega)
      have HOF := Lib.hid (of_any (cutA a c q) (t - q) (c - q) _ wr hpart (by omega))
      have hjn : dJoin (L ++ [(t - q, dSum ((l.drop q).take (t - q)))]) = dOf (l.take t) := by
        have h1 := dJoin_of L (l.take q) ((l.drop q).take (t - q)) HI.out.2.2.1
        rw [← take_part l hqt] at h1
        have h2 : dOf ((l.drop q).take (t - q)) = (t - q, dSum ((l.drop q).take (t - q))) := by
          unfold dOf
          rw [hpart.1]
        rw [← h2]; exact h1
      obtain ⟨s1, hs1⟩ : ∃ s1, s1 = dSum ((l.drop q).take (t - q)) := ⟨_, rfl⟩
      obtain ⟨m1, hm1⟩ : ∃ m1, m1 = t - q := ⟨_, rfl⟩
      have hls : ∀ d ∈ L ++ [(t - q, dSum ((l.drop q).take (t - q)))], d.2 < 18446744073709551616 := by
        intro d hd
        simp only [List.mem_append, List.mem_singleton] at hd
        rcases hd with hd | rfl
        · exact HI.out.2.2.2.2 d hd
        · have := dSum_lt ((l.drop q).take (t - q))
          simp only
          omega
      rw [← hs1] at HOF hjn hls
      rw [← hm1] at HOF hjn hsl hls
      have HJN := Lib.hid hjn
      have HLS := Lib.hid hls
      clear hls hjn hs1 hm1 hpart
      go_wp2_with fail
      refine HOF.out.mono ?_
      rintro e w5 ⟨rfl, hw5⟩
      have HO5 : Hid (OwnD w5 w4.heap.size u8 L) := by rw [hw5]; exact Lib.hid (HI.out.1.kept (Below.alloc0 _ _))
      have HB5 : Hid (Below w4.heap.size w4 w5) := by rw [hw5]; exact Lib.hid (HI.out.2.2.2.1.alloc HI.out.2.2.2.1.size _)
      clear hw5 HOF
      go_wp2_with (at_builtin; have _t := hlt; refine wpList_append_own_at _ rfl (.tmp 53) (.tmp 59) 30 rfl w4.heap.size 28 i0 _ 2 16 Try.underlying30 hi0 hz0 hz1 hz2 rfl (by omega) _ L.length (cD L) rfl (HO5.out.kept (Below.alloc0 _ _)) ⟨w5.heap.size, 0, none⟩ 1 1 [.int .u64 (m1 : Int), .int .u64 (s1 : Int)] rfl ?hlen (World.news_of_block (cs := #[.int .u64 (m1 : Int), .int .u64 (s1 : Int)]) (t := 28) (fr := (0, 0)) (heap_alloc_new w5 _)) ?one ?h63 ?hby ?hbase ?next)
      case hlen => rfl
      case one => intro u hu; simp only [List.mem_cons, List.not_mem_nil, or_false] at hu; rcases hu with rfl | rfl <;> rfl
      case h63 => have := HI.out.2.1; unfold maxLen; omega
      case hby => have := HI.out.2.1; omega
      case hbase => have := HB5.out.size; simp; omega
      case next =>
        intro v6 w6 hown hgr _ _
        have HB6 := Lib.hid ((HB5.out.alloc HB5.out.size _).grown hgr (by have := HB5.out.size; simp; omega) (fun k hk => (HO5.out.lt k hk).1))
        have HO6 : Hid (OwnD w6 w4.heap.size v6 (L ++ [(m1, s1)])) := Lib.hid (OwnD.of_append hown)
        clear hown hgr HO5 HB5
        have HBW6 : Hid (Below w.heap.size w w6) := Lib.hid (HB4.out.trans (HB6.out.mono HB4.out.size))
        have HR6 := Lib.hid (HR.out.below HBW6.out fun _ _ _ h => h)
        have HG6 := Lib.hid (HG.out.below HB6.out)
        obtain ⟨s2, hs2⟩ : ∃ s2, s2 = dSum (l.take t) := ⟨_, rfl⟩
        obtain ⟨s3, hs3⟩ : ∃ s3, s3 = dSum (l.drop t) := ⟨_, rfl⟩
        have HOF : Hid (∀ W, Below w6.heap.size w6 W → Calls Try.prog 7 #[.slice a t c] W fun e w' => e = .returned (.agg #[.int .u64 (t : Int), .int .u64 (s2 : Int)]) ∧ w' = W.alloc (.cells #[.int .u64 (t : Int), .int .u64 (s2 : Int)] 28)) := by
          refine Lib.hid fun W hW => ?_
          rw [hs2]
          exact of_any a t c _ W ((HR6.out.below hW fun _ _ _ h => h).first htn) (by omega)
        have HCU : Hid (∀ W, Calls Try.prog 8 #[.agg #[.int .u64 (n : Int), .int .u64 (S : Int)], .agg #[.int .u64 (t : Int), .int .u64 (s2 : Int)]] W fun e w' => e = .returned (.tuple #[.agg #[.int .u64 ((n - t : Nat) : Int), .int .u64 (s3 : Int)], .bool true]) ∧ w' = (((W.alloc (.cells #[.int .u64 (n : Int), .int .u64 (S : Int)] 28)).alloc (.cells #[.int .u64 (t : Int), .int .u64 (s2 : Int)] 28)).alloc (.cells #[.int .u64 ((n - t : Nat) : Int), .int .u64 (s3 : Int)] 28)).drew) := by
          refine Lib.hid fun W => ?_
          have h1 := cut_exact n S t s2 W htn (by rw [HS.out]; exact dSum_lt _) (by rw [hs2]; exact dSum_lt _) (by omega)
          have h2 := cut_split l t
          rw [HR.out.1, ← HS.out, ← hs2, ← hs3] at h2
          rw [h2] at h1
          exact h1
        obtain ⟨r3, hr3⟩ : ∃ r3, r3 = n - t := ⟨_, rfl⟩
        rw [← hr3] at HCU
        have HT3 := Lib.hid (And.intro hs3 hr3)
        have hsl2 : ∀ W : World, (Instr.slice 22 (.slice a n c) none (some (.int .i64 (t : Int))) none).run Try.prog W = .ok (.slice a t c) W := fun W => slice_to a n c t .i64 (by omega) W
        have HLL := Lib.hid HI.out.2.1
        clear hs2 hs3 hr3 hsl HI HBR HRr HGr
        go_upto_region 14 with fail
        go_cut [13, 14] (fun s s' wx => ∃ g3 : Nat, s = .pointer (some ⟨g3, 0, none⟩) ∧ s' = .bool true ∧ Box wx g3 r3 s3 ∧ Below w6.heap.size w6 wx)
        case first =>
          obtain ⟨d1, d2⟩ := HG6.out
          have HKP : Hid (∀ W, Below w6.heap.size w6 W → W.cell? ⟨g, 0, none⟩ = some (.int .u64 (n : Int)) ∧ W.cell? ⟨g, 1, none⟩ = some (.int .u64 (S : Int))) := Lib.hid fun W hW => HG6.out.below hW
          go_region_held3 (fun W => W.cell? ⟨g, 0, none⟩ = some (.int .u64 (n : Int)) ∧ W.cell? ⟨g, 1, none⟩ = some (.int .u64 (S : Int))) (first | (refine HKP.out _ ?_; (repeat (first | exact Below.refl _ _ | refine Below.drew ?_ | refine Below.alloc ?_ (by first | (simp; done) | (simp; omega)) _)); done) | go_keep)
            (first
              | (go_at_call 7; refine (HOF.out _ ?_).mono ?_; (first | exact (Below.refl _ _).drew | exact (Below.alloc0 _ _).drew); rintro e w' ⟨rfl, rfl⟩)
              | (go_at_call 8; refine (HCU.out _).mono ?_; rintro e w' ⟨rfl, rfl⟩))
          all_goals (go_wp2_with fail; go_meet; refine ⟨_, rfl, rfl, ⟨by simp [go_sem], by simp [go_sem]⟩, ?_⟩; (repeat (first | exact Below.refl _ _ | refine Below.drew ?_ | refine Below.alloc ?_ (by first | (simp; done) | (simp; omega)) _)))
        case rest =>
          obtain ⟨g3, rfl, rfl, hbox, hb7⟩ := hcut
          have HB7 : Hid (Below w4.heap.size w4 wc) := Lib.hid (HB6.out.trans (hb7.mono HB6.out.size))
          have HO7 := Lib.hid (HO6.out.kept hb7)
          have HR7 := Lib.hid (HR6.out.below hb7 fun _ _ _ h => h)
          have HOF7 : Hid (∀ W, Below wc.heap.size wc W → Calls Try.prog 7 #[.slice (cutA a c t) r3 (c - t)] W fun e w' => e = .returned (.agg #[.int .u64 (r3 : Int), .int .u64 (s3 : Int)]) ∧ w' = W.alloc (.cells #[.int .u64 (r3 : Int), .int .u64 (s3 : Int)] 28)) := by
            refine Lib.hid fun W hW => ?_
            rw [HT3.out.1, HT3.out.2]
            exact of_any (cutA a c t) (n - t) (c - t) _ W ((HR7.out.below hW fun _ _ _ h => h).cut htn hnc) (by omega)
          have hsl3 : ∀ W : World, (Instr.slice 22 (.slice a n c) (some (.int .i64 (t : Int))) none none).run Try.prog W = .ok (.slice (cutA a c t) r3 (c - t)) W := fun W => by rw [HT3.out.2]; exact slice_from a n c t .i64 htn W
          clear hsl2 HOF HCU HO6 HB6 HR6 HG6 HBW6 hb7
          have HBX := Lib.hid hbox
          obtain ⟨d1, d2⟩ := hbox
          go_upto_region 15 with fail
          go_region_held3 (fun W => W.cell? ⟨g3, 0, none⟩ = some (.int .u64 (r3 : Int)) ∧ W.cell? ⟨g3, 1, none⟩ = some (.int .u64 (s3 : Int))) (go_keep)
            (first
              | (go_at_call 7; refine (HOF7.out _ ?_).mono ?_; (first | exact (Below.refl _ _).drew | exact (Below.alloc0 _ _).drew); rintro e w' ⟨rfl, rfl⟩))
          obtain ⟨w8, h8⟩ : ∃ w8, w8 = (wc.alloc (.cells #[.int .u64 (r3 : Int), .int .u64 (s3 : Int)] 28)).drew := ⟨_, rfl⟩
          rw [← h8]
          have hb8 : Below wc.heap.size wc w8 := by rw [h8]; exact (Below.alloc0 _ _).drew
          have HB8 : Hid (Below w4.heap.size w4 w8) := Lib.hid (HB7.out.trans (hb8.mono HB7.out.size))
          have HO8 := Lib.hid (HO7.out.kept hb8)
          clear h8 hb8 d1 d2 HBX HOF7 hsl3 HO7 HB7 HR7
          go_wp2
          go_roundg (pn - (j + 1))
          case measure => have := HK.out; omega
          case rel => exact ⟨j + 1, t, L ++ [(m1, s1)], rfl, by omega, by go_num, rfl, htn, Lib.hid ⟨HO8.out, by have := HLL.out; simp; omega, HJN.out, HB8.out, HLS.out⟩⟩
    · have : j = pn := by omega
      subst this
      have HBI := Lib.hid HI.out.2.2.2.1
      have hsl : ∀ W : World, (Instr.slice 22 (.slice a n c) (some (.int .i64 (q : Int))) none none).run Try.prog W = .ok (.slice (cutA a c q) (n - q) (c - q)) W := fun W => slice_from a n c q .i64 hq W
      have hjn : dJoin (L ++ [(n - q, dSum (l.drop q))]) = (n, S) := by
        have h1 := dJoin_of L (l.take q) (l.drop q) HI.out.2.2.1
        rw [List.take_append_drop] at h1
        have h2 : dOf (l.drop q) = (n - q, dSum (l.drop q)) := by
          unfold dOf
          rw [List.length_drop, HR.out.1]
        have h3 : dOf l = (n, S) := by
          unfold dOf
          rw [HR.out.1, HS.out]
        rw [← h2, h1, h3]
      have hs4 : dSum (l.drop q) < 2305843009213693951 := dSum_lt _
      have hsl4 : ∀ d ∈ L, d.2 < 18446744073709551616 := HI.out.2.2.2.2
      have HOF : Hid (∀ W, Below wr.heap.size wr W → Calls Try.prog 7 #[.slice (cutA a c q) (n - q) (c - q)] W fun e w' => e = .returned (.agg #[.int .u64 ((n - q : Nat) : Int), .int .u64 ((dSum (l.drop q) : Nat) : Int)]) ∧ w' = W.alloc (.cells #[.int .u64 ((n - q : Nat) : Int), .int .u64 ((dSum (l.drop q) : Nat) : Int)] 28)) :=
        Lib.hid fun W hW => of_any (cutA a c q) (n - q) (c - q) _ W ((HRr.out.below hW fun _ _ _ h => h).cut hq hnc) (by omega)
      obtain ⟨s4, hs4e⟩ : ∃ s4, s4 = dSum (l.drop q) := ⟨_, rfl⟩
      obtain ⟨m4, hm4⟩ : ∃ m4, m4 = n - q := ⟨_, rfl⟩
      rw [← hs4e] at hjn hs4 HOF
      rw [← hm4] at hjn hsl HOF
      have HLL := Lib.hid HI.out.2.1
      have HJ : Hid (∀ gg cap w7, World.ownsRow w7 w4.heap.size 28 2 (.slice (some ⟨gg, 0, none⟩) (L.length + 1) cap) (L.length + 1) (cD L ++ [.int .u64 (m4 : Int), .int .u64 (s4 : Int)]) → Calls Try.prog 9 #[.slice (some ⟨gg, 0, none⟩) (L.length + 1) cap] w7 fun e w' => e = .returned (.agg #[.int .u64 (n : Int), .int .u64 (S : Int)]) ∧ Below w7.heap.size w7 w') := by
        refine Lib.hid fun gg cap w7 ho => ?_
        obtain ⟨a7, c7, hv, hr⟩ := (OwnD.of_append ho).rd
        injection hv with e1 e2 e3
        subst e1
        have hlen : (L ++ [(m4, s4)]).length = L.length + 1 := by simp
        rw [hlen] at hr
        have h1 := join_any _ (L.length + 1) cap _ w7 hr (by have := HLL.out; omega) (by rw [hjn]; simp only; omega) (by
          intro d hd
          simp only [List.mem_append, List.mem_singleton] at hd
          rcases hd with hd | rfl
          · exact hsl4 d hd
          · simp only; omega)
        rw [hjn] at h1
        exact h1
      have HOA : Hid (OwnD ((wr.alloc (.cells #[.int .u64 (m4 : Int), .int .u64 (s4 : Int)] 28)).alloc (.cells #[.int .u64 (m4 : Int), .int .u64 (s4 : Int)] 28)).drew w4.heap.size u8 L) := Lib.hid (HI.out.1.kept (((Below.alloc0 _ _).alloc (by simp) _).drew))
      have HNW : Hid (∀ j u, [Value.int .u64 (m4 : Int), .int .u64 (s4 : Int)][j]? = some u → ((wr.alloc (.cells #[.int .u64 (m4 : Int), .int .u64 (s4 : Int)] 28)).alloc (.cells #[.int .u64 (m4 : Int), .int .u64 (s4 : Int)] 28)).drew.cell? ((⟨wr.heap.size + 1, 0, none⟩ : Addr).add j) = some u) := Lib.hid (World.news_of_block (cs := #[.int .u64 (m4 : Int), .int .u64 (s4 : Int)]) (t := 28) (fr := (0, 0)) (heap_alloc2_new wr _ _))
      have HGW : Hid (∀ w7, World.grownBy ((wr.alloc (.cells #[.int .u64 (m4 : Int), .int .u64 (s4 : Int)] 28)).alloc (.cells #[.int .u64 (m4 : Int), .int .u64 (s4 : Int)] 28)).drew w7 u8.ownBlock → Below w4.heap.size w4 w7) := Lib.hid fun w7 hg => by
        have hb : Below w4.heap.size w4 ((wr.alloc (.cells #[.int .u64 (m4 : Int), .int .u64 (s4 : Int)] 28)).alloc (.cells #[.int .u64 (m4 : Int), .int .u64 (s4 : Int)] 28)).drew := by (repeat (first | exact HBI.out | refine Below.drew ?_ | refine Below.alloc ?_ (by have := HBI.out.size; first | (simp; done) | (simp; omega)) _))
        exact hb.grown hg hb.size (fun k hk => (HOA.out.lt k hk).1)
      have HKP : Hid (∀ W, Below w4.heap.size w4 W → W.cell? ⟨g, 0, none⟩ = some (.int .u64 (n : Int)) ∧ W.cell? ⟨g, 1, none⟩ = some (.int .u64 (S : Int))) := Lib.hid fun W hW => HG.out.below hW
      obtain ⟨d1, d2⟩ := HGr.out
      have hmx : L.length + 1 ≤ maxLen := by have := HLL.out; unfold maxLen; omega
      have hby : (L.length + 1) * 16 ≤ 140737488355328 := by have := HLL.out; omega
      have hbs : w4.heap.size ≤ wr.heap.size := HBI.out.size
      clear hjn hs4 hsl4 hs4e hm4 HI HBR HRr HGr
      go_upto_region 19 with fail
      go_region_held3 (fun W => W.cell? ⟨g, 0, none⟩ = some (.int .u64 (n : Int)) ∧ W.cell? ⟨g, 1, none⟩ = some (.int .u64 (S : Int)))
        (first
          | (refine HKP.out _ ?_; (repeat (first | exact HBI.out | refine Below.drew ?_ | refine Below.alloc ?_ (by have := HBI.out.size; first | (simp; done) | (simp; omega)) _)); done)
          | exact HKP.out _ (HGW.out _ hgrow)
          | exact HKP.out _ ((HGW.out _ hgrow).trans (hb9.mono (HGW.out _ hgrow).size))
          | go_keep)
        (first
          | (go_at_call 7; refine (HOF.out _ ?_).mono ?_; (first | exact (Below.refl _ _).drew | exact (Below.alloc0 _ _).drew); rintro e w' ⟨rfl, rfl⟩)
          | (go_at_call 9; refine (HJ.out gg cap w7 hown1).mono ?_; rintro e w9 ⟨rfl, hb9⟩)
          | (refine step_append_lies _ (by rfl) _ _ _ (by rfl) w4.heap.size 28 i0 _ 2 16 Try.underlying30 hi0 hz0 hz1 hz2 rfl (by omega) u8 L.length (cD L) (by rfl) HOA.out
              ⟨wr.heap.size + 1, 0, none⟩ 1 1 [.int .u64 (m4 : Int), .int .u64 (s4 : Int)] (by rfl) (by rfl) HNW.out (by simp [Value.oneCell'])
              (by omega) hmx hby (by simp; omega) (wr.heap.size + 1 + 1) (by simp) ?_; intro gg cap w7 hown1 hgrow hat hlt))
      all_goals (go_wp2; go_ret; exact ⟨rfl, HB4.out.trans (((HGW.out _ hgrow).trans (hb9.mono (HGW.out _ hgrow).size)).mono HB4.out.size)⟩)

/-- Whatever the bytes and the pieces. -/
theorem digestRows_walk (a : Option Addr) (n c : Nat) (l : List Nat) (pa : Option Addr) (pn pc : Nat) (pl : List Nat) (w : World) (h : Rd w a n l) (hp : Rd w pa pn pl) (hnc : n ≤ c) :
    Calls Try.prog 3 #[.slice a n c, .slice pa pn pc] w fun e w' => e = .returned (.bool true) ∧ Below w.heap.size w w' := by
  rcases Nat.lt_or_ge 3000 n with h1 | h1
  · exact rows_big1 a n c pa pn pc w h1
  · rcases Nat.lt_or_ge 60 pn with h2 | h2
    · exact rows_big2 a n c pa pn pc w h1 h2
    · exact rows_walk a n c l pa pn pc pl w h hp hnc h1 h2
end Go.Proofs.Ytiajcolhemdnaaa
