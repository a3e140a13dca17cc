/- The contract of the document's own bytes of a set (revenantref08), over any world. -/
import Derived.Test.YtaijjogjohbheaaGreatEBytes
import Derived.Test.YtaijjogjohbheaaGreatRefNum
namespace Go.Proofs.YtaijjogjohbheaaGreat
open Go.RowKit
set_option maxRecDepth 100000

theorem flat_snoc (A : List Nat) (x : Nat) : (A ++ [x]).flatMap vEnc = A.flatMap vEnc ++ vEnc x := by simp

theorem numsGo_le64 (L : List Rn) : ∀ (q : Int), -1099511627776 ≤ q → (∀ r ∈ L, r.ok) → ∀ z ∈ numsGo q L, z ≤ 18446744073709551615 := by
  induction L with
  | nil => intro q _ _ z hz; simp [numsGo] at hz
  | cons r L ih =>
    intro q hq hL z hz
    obtain ⟨k1, k2, k3, k4⟩ := hL r (by simp)
    simp only [numsGo, List.mem_cons] at hz
    rcases hz with rfl | rfl | hz
    · omega
    · omega
    · exact ih r.t k3 (fun r' hr' => hL r' (by simp [hr'])) z hz

set_option maxHeartbeats 2000000 in
set_option maxRecDepth 100000 in
theorem refBytes_any (a : Option Addr) (n c : Nat) (M : List Rn) (w : World) (h : RdR w a n M) (hn : n ≤ 400) (hs : Pos M) (hok : ∀ r ∈ M, r.ok) :
    Calls Tryz.prog 82 #[.slice a n c] w fun e w' => ∃ v, e = .returned v ∧ Own w' w.heap.size v ((setNums M).flatMap vEnc) ∧ Below w.heap.size w w' := by
  obtain ⟨i0, hi0, hz0, hz1, hz2⟩ := info_parts info5
  have HR := Lib.hid h
  have HS := Lib.hid (lastT_take hs)
  have HOk := Lib.hid hok
  clear h hs hok
  go_enter Tryz.func82, Tryz.ntmps82
  go_wp2_with fail
  refine (refNum_any n _ _ (by omega) (by omega)).mono ?_
  rintro e w1 ⟨g0, m0, c0, rfl, hm0, ho, hb⟩
  have HO0 : Hid (Own w1 w.heap.size (.slice (some ⟨g0, 0, none⟩) m0 c0) ([n].flatMap vEnc)) := Lib.hid (by simpa using ho)
  have HB0 := Lib.hid hb
  clear ho hb hm0
  go_wp2
  go_loopg [3, 4, 5] n (fun k s la i wr => ∃ (j p : Nat) (sv : Value), sv = s ∧ k = n - j ∧ j ≤ n ∧ i = .int .i64 (j : Int) ∧ la = .int .i64 (p : Int) ∧ Hid ((p : Int) = lastT 0 (M.take j)) ∧ Hid (Own wr w.heap.size sv ((n :: numsGo 0 (M.take j)).flatMap vEnc)) ∧ Hid (Below w.heap.size w wr))
  case atStart => exact ⟨0, 0, _, rfl, rfl, Nat.zero_le _, rfl, rfl, Lib.hid (by simp [lastT]), HO0, HB0⟩
  case round =>
    obtain ⟨j, p, sv, rfl, hk, hj, rfl, rfl, HPl, HO, HB⟩ := hrel
    have HK := Lib.hid hk
    clear hk HO0 HB0
    by_cases hlt : j < n
    · have hrr := HR.out.later HB.out
      obtain ⟨b, o, r, rfl, hre, hbl, e0, e1⟩ := hrr.at_ (Below.refl _ _) hlt
      have hjl : j < M.length := by have := HR.out.1; omega
      have HBw : Hid (b < w.heap.size) := Lib.hid (by
        obtain ⟨b1, o1, he1, hc1⟩ := HR.out.2 (by omega)
        injection he1 with he1
        injection he1 with e1 e2
        subst e1
        exact World.block_lt_of_cell? w _ (hc1 0 (by omega)).1)
      have HCL0 : Hid (∀ W, Below w.heap.size w W → W.cell? ⟨b, o + j * 2, none⟩ = some (.int .i64 r.f) ∧ W.cell? ⟨b, o + j * 2 + 1, none⟩ = some (.int .i64 r.t)) := Lib.hid fun W hW => by
        obtain ⟨b1, o1, r1, he1, hr1, _, f0, f1⟩ := HR.out.at_ hW hlt
        injection he1 with he1
        injection he1 with e1 e2
        subst e1
        subst e2
        rw [hre, ← hr1]
        exact ⟨f0, f1⟩
      obtain ⟨s1, s2, s3⟩ := HS.out j hjl
      rw [← HPl.out, ← hre] at s2
      rw [← hre] at s3
      have hrk : r.ok := by rw [hre]; exact HOk.out _ (getD_mem hjl)
      have hst := takeR_succ hjl hre
      obtain ⟨xi, yi⟩ := r
      simp only at e0 e1 s2 s3 HCL0
      obtain ⟨x, rfl⟩ : ∃ x : Nat, xi = (x : Int) := ⟨xi.toNat, by omega⟩
      obtain ⟨y, rfl⟩ : ∃ y : Nat, yi = (y : Int) := ⟨yi.toNat, by omega⟩
      have hpx : p ≤ x := by omega
      have hxy : x < y := by omega
      have hyb : y ≤ 1099511627776 := by obtain ⟨_, _, _, h4⟩ := hrk; simp only at h4; omega
      have hnum : (n :: numsGo 0 (M.take (j + 1))).flatMap vEnc = (n :: numsGo 0 (M.take j)).flatMap vEnc ++ vEnc (x - p) ++ vEnc (y - x) := by
        have e : n :: numsGo 0 (M.take (j + 1)) = ((n :: numsGo 0 (M.take j)) ++ [x - p]) ++ [y - x] := by
          rw [hst, numsGo_snoc, ← HPl.out]
          simp only [List.cons_append, List.append_assoc, List.nil_append]
          congr 4 <;> omega
        rw [e, flat_snoc, flat_snoc]
      have hlast : ((y : Nat) : Int) = lastT 0 (M.take (j + 1)) := by rw [hst, lastT_snoc]
      have hlen : ((n :: numsGo 0 (M.take j)).flatMap vEnc).length ≤ 8010 := by
        have h1 := encs_len (n :: numsGo 0 (M.take j)) (fun z hz => by
          rcases List.mem_cons.1 hz with rfl | hz
          · omega
          · exact numsGo_le64 _ 0 (by omega) (fun r hr => HOk.out r (List.mem_of_mem_take hr)) z hz)
        rw [List.length_cons, numsGo_length, List.length_take] at h1
        omega
      obtain ⟨A, hA⟩ : ∃ A, A = (n :: numsGo 0 (M.take j)).flatMap vEnc := ⟨_, rfl⟩
      rw [← hA] at hnum HO hlen
      have HNum := Lib.hid hnum
      have HLast := Lib.hid hlast
      have HRR := Lib.hid hrr
      clear hst hrk hre hnum hlast hjl hA s1 s2 s3 hrr
      go_wp2_with fail
      refine (refNum_any (x - p) _ _ (by omega) (by omega)).mono ?_
      rintro e w2 ⟨g2, m2, c2, rfl, hm2, ho2, hb2⟩
      have hm10 : m2 ≤ 10 := by rw [hm2]; exact vEnc_len10 (by omega)
      have hl2 : (vEnc (x - p)).length = m2 := hm2.symm
      have HRd2 := Lib.hid (ho2.asSlice1 hl2)
      have HO2 := Lib.hid (HO.out.kept hb2)
      have HB2 : Hid (Below w.heap.size w w2) := Lib.hid (HB.out.trans (hb2.mono HB.out.size))
      have HRR2 := Lib.hid (HRR.out.later hb2)
      have HL2 := Lib.hid hl2
      clear ho2 hb2 HO HB HRR e0 e1 hm2 hl2
      go_wp2_with (at_builtin; have _t := hlt; refine wpList_append_rd rfl (.tmp 16) (.tmp 25) rfl sv rfl (some ⟨g2, 0, none⟩) m2 c2 rfl w.heap.size A HO2.out ?hbase (vEnc (x - p)) HRd2.out ?hn ?next)
      case hbase => exact HB2.out.size
      case hn => omega
      case next =>
        intro v3 w3 ho3 hb3
        have HO3 := Lib.hid ho3
        have HB3 : Hid (Below w.heap.size w w3) := Lib.hid (HB2.out.trans hb3)
        have hcells : ∀ W, Below w3.heap.size w3 W → W.cell? ⟨b, o + j * 2, none⟩ = some (.int .i64 (x : Int)) ∧ W.cell? ⟨b, o + j * 2 + 1, none⟩ = some (.int .i64 (y : Int)) := fun W hW => by
          obtain ⟨q1, q2⟩ := HCL0.out W (HB3.out.trans (hW.mono HB3.out.size))
          exact ⟨q1, q2⟩
        have HKP := Lib.hid hcells
        have hlen3 : (A ++ vEnc (x - p)).length ≤ 8020 := by
          rw [List.length_append]
          have := HL2.out
          omega
        obtain ⟨A3, hA3⟩ : ∃ A3, A3 = A ++ vEnc (x - p) := ⟨_, rfl⟩
        rw [← hA3] at HO3 hlen3
        have HA3 := Lib.hid hA3
        have HROW : Hid (∀ W, Below w3.heap.size w3 W → Own W w.heap.size v3 A3) := Lib.hid fun W hW => HO3.out.kept hW
        obtain ⟨d, hd⟩ : ∃ d : Nat, d = y - x := ⟨_, rfl⟩
        have hdw : IntKind.u64.wrap (IntKind.i64.wrap ((y : Int) - (x : Int))) = (d : Int) := by rw [IntKind.wrap_i64, IntKind.wrap_u64]; omega
        have HNu : Hid (∀ W, Calls Tryz.prog 51 #[.int .u64 (IntKind.u64.wrap (IntKind.i64.wrap ((y : Int) - (x : Int))))] W fun e w' => ∃ g m c, e = .returned (.slice (some ⟨g, 0, none⟩) m c) ∧ Hid (m = (vEnc d).length ∧ m ≤ 10 ∧ 0 < m ∧ Own w' W.heap.size (.slice (some ⟨g, 0, none⟩) m c) (vEnc d)) ∧ Below W.heap.size W w') := Lib.hid fun W => by
          rw [hdw]
          refine (refNum_any d _ W rfl (by omega)).mono ?_
          rintro e w' ⟨g, m, c, rfl, hm, ho, hb⟩
          exact ⟨g, m, c, rfl, Lib.hid ⟨hm, by rw [hm]; exact vEnc_len10 (by omega), by rw [hm]; exact vEnc_pos d, ho⟩, hb⟩
        have HD := Lib.hid hd
        have HBE : Hid (∀ k, v3.ownBlock = some k → w.heap.size ≤ k) := Lib.hid fun k hk => (World.ownsRow.lt HO3.out.2 k hk).1
        have HOl : Hid (∀ k, v3.ownBlock = some k → k < w3.heap.size) := Lib.hid fun k hk => (World.ownsRow.lt HO3.out.2 k hk).2
        have hbw : b < w.heap.size := HBw.out
        obtain ⟨e0, e1⟩ := HKP.out w3 (Below.refl _ _)
        clear ho3 hb3 hcells hA3 hd hdw HO2 HB2 HRR2 HRd2
        go_upto_region 7 with fail
        go_cut [3] (fun s wx => ∃ v, v = s ∧ Hid (Own wx w.heap.size v (A3 ++ vEnc d)) ∧ Hid (Below w.heap.size w wx))
        case first =>
          go_region_held3 (fun W => W.cell? ⟨b, o + j * 2, none⟩ = some (.int .i64 (x : Int)) ∧ W.cell? ⟨b, o + j * 2 + 1, none⟩ = some (.int .i64 (y : Int)))
            (first | exact k7 | exact k4 | (refine HKP.out _ ?_; (repeat (first | exact Below.refl _ _ | refine Below.drew ?_)); done) | go_keep)
            (first
              | (go_at_call 51; refine (HNu.out _).mono ?_; rintro e w4 ⟨g4, m4, c4, rfl, HM4, hb4⟩; have k4 := HKP.out w4 (((Below.refl _ _).drew).trans hb4))
              | (refine step_append_lies _ (by rfl) _ _ _ (by rfl) w.heap.size 5 i0 _ 1 1 Tryz.underlying40 hi0 hz0 hz1 hz2 rfl (by omega) v3 A3.length (cB A3) (by rfl) (HROW.out w4 (((Below.refl _ _).drew).trans hb4)).2 ⟨g4, 0, none⟩ m4 c4 (cB (vEnc d)) (by rfl) (by rw [cB_length, ← HM4.out.1]; omega) (rd_cells (HM4.out.2.2.2.asSlice1 HM4.out.1.symm)) (cB_one _) HM4.out.2.2.1 (by have := HM4.out.2.1; unfold maxLen; omega) (by have := HM4.out.2.1; omega) (by have h1 := HB3.out.size; have h2 := hb4.size; simp at h2; omega) _ rfl ?_; intro gg cap w7 hown hgrow hat hlt7; have k7 : w7.cell? ⟨b, o + j * 2, none⟩ = some (.int .i64 (x : Int)) ∧ w7.cell? ⟨b, o + j * 2 + 1, none⟩ = some (.int .i64 (y : Int)) := ⟨hgrow.cell k4.1 (fun e => Nat.lt_irrefl _ (Nat.lt_of_lt_of_le hbw (HBE.out _ e.symm))), hgrow.cell k4.2 (fun e => Nat.lt_irrefl _ (Nat.lt_of_lt_of_le hbw (HBE.out _ e.symm)))⟩))
          go_wp2_with fail
          go_meet
          refine ⟨_, rfl, Lib.hid ⟨?_, ?_⟩, Lib.hid ?_⟩
          · intro z hz
            rcases List.mem_append.1 hz with h | h
            · exact HO3.out.1 z h
            · exact vEnc_byte d z h
          · rw [cB_append, List.length_append, ← HM4.out.1]
            exact hown
          · exact (HB3.out.trans ((((Below.refl _ _).drew).trans hb4).mono HB3.out.size)).grown hgrow (by have h1 := HB3.out.size; have h2 := hb4.size; simp at h2; omega) HBE.out
        case rest =>
          obtain ⟨v5, rfl, HO5, HB5⟩ := hcut
          obtain ⟨e2, e3⟩ := HCL0.out wc HB5.out
          clear HROW HKP HNu HBE HOl HO3 HB3 e0 e1
          go_wp2
          go_roundg (n - (j + 1))
          case measure => have := HK.out; omega
          case rel => exact ⟨j + 1, y, _, rfl, rfl, by omega, by go_num, rfl, HLast, Lib.hid (by rw [HNum.out, ← HA3.out, ← HD.out]; exact HO5.out), HB5⟩
    · obtain rfl : j = n := by omega
      have h1 := HO.out
      rw [List.take_of_length_le (by have := HR.out.1; omega)] at h1
      have h2 : j :: numsGo 0 M = setNums M := by unfold setNums; rw [HR.out.1]
      rw [h2] at h1
      have H1 := Lib.hid h1
      clear h1 h2
      go_wp2
      go_ret
      exact ⟨_, rfl, H1.out, HB.out⟩

end Go.Proofs.YtaijjogjohbheaaGreat
