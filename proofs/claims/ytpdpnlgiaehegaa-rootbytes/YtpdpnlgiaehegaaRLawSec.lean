/- The statements' own root sector: what the document says that one has. -/
import Derived.Test.YtpdpnlgiaehegaaRCom
import Derived.Test.YtpdpnlgiaehegaaCheckRef
import Derived.Test.YtpdpnlgiaehegaaRefNum
namespace Go.Proofs.Ytpdpnlgiaehegaa
open Go.RowKit
set_option linter.unusedSimpArgs false

set_option maxHeartbeats 400000 in
set_option maxRecDepth 100000 in
theorem lawSector_any (G : Nat) (a : Option Addr) (n c : Nat) (b : List Nat) (w : World) (h : Rd w a n b) (hn : n ≤ 3000) :
    Calls Try.prog 13 #[.int .u64 (G : Int), .slice a n c] w fun e w' => ∃ v, e = .returned v ∧ Own w' w.heap.size v (rSec G b) ∧ Below w.heap.size w w' := by
  obtain ⟨i0, hi0, hz0, hz1, hz2⟩ := info_parts info5
  have HR := Lib.hid h
  clear h
  go_enter Try.func13, Try.ntmps13
  go_wp2
  go_loopg [5, 8] 8 (fun k d i wr => ∃ j : Nat, k = 8 - j ∧ j ≤ 8 ∧ i = .int .i64 (j : Int) ∧ Own wr w.heap.size d (g8 j G) ∧ Below w.heap.size w wr)
  case atStart => exact ⟨0, rfl, Nat.zero_le _, rfl, by simpa [g8] using Own.nil w w.heap.size, Below.refl _ _⟩
  case round =>
    obtain ⟨j, hk, hj, rfl, ho, hb⟩ := hrel
    have HK := Lib.hid hk
    have hbr : w.heap.size ≤ wr.heap.size := hb.size
    obtain ⟨M, hM⟩ : ∃ M, M = g8 j G := ⟨_, rfl⟩
    have HLJ : Hid (M.length = j) := Lib.hid (by rw [hM, g8_length])
    have hl9 : M.length ≤ 8 := by have := HLJ.out; omega
    rw [← hM] at ho
    have HM := Lib.hid hM
    clear hk hM
    by_cases hlt : j < 8
    · go_wp2_with (at_builtin; refine wpList_append_own_at _ rfl (.tmp 11) (.tmp 17) 32 rfl w.heap.size 5 i0 _ 1 1 Try.underlying32 hi0 hz0 hz1 hz2 rfl (by omega) _ M.length (cB M) rfl (ho.2.alloc _) ⟨wr.heap.size, 0, none⟩ 1 1 [_] rfl ?hlen (cell_one_new _ _ _) ?one ?h63 ?hby ?hbase ?next)
      case hlen => rfl
      case one => intro u hu; simp only [List.mem_singleton] at hu; subst hu; rfl
      case h63 => unfold maxLen; omega
      case hby => omega
      case hbase => simp; omega
      case next =>
        intro v' w' hown hg _ _
        have hb' : Below w.heap.size w w' := (hb.alloc hbr _).grown hg (by simp; omega) (fun k hk => (ho.2.lt k hk).1)
        have e : ((G : Int) / 2 ^ (8 * j)) % 256 = ((G / 256 ^ j % 256 : Nat) : Int) := by rw [← pow_256]; simp
        have ho' : Own w' w.heap.size v' (M ++ [G / 256 ^ j % 256]) := Own.snoc (Nat.mod_lt _ (by omega)) ho.1 (by rw [← e]; exact hown)
        clear hown hg
        go_wp2
        go_roundg (8 - (j + 1))
        case measure => have := HK.out; omega
        case rel => exact ⟨j + 1, rfl, by omega, by go_num, by rw [g8_snoc, ← HM.out]; exact ho', hb'⟩
    · have hge : ¬ (j : Int) < 8 := by omega
      have e8 : j = 8 := by omega
      have hl := HLJ.out
      obtain ⟨gg, cc, hv⟩ := ho.held (by omega)
      subst hv
      rw [hl, e8] at ho ⊢
      have HG : Hid (M = g8 8 G) := Lib.hid (by rw [HM.out, e8])
      have HO := Lib.hid ho
      have HB := Lib.hid hb
      have HML := Lib.hid (hl.trans e8)
      have hrM : Rd wr (some ⟨gg, 0, none⟩) 8 M := ho.asSlice1 (hl.trans e8)
      have HRM := Lib.hid hrM
      have HS := Lib.hid HR.out.1
      clear ho hb hl e8 HM HK hrM hl9 HLJ
      go_wp2_with (at_builtin; refine wpList_fresh rfl (.tmp 20) (.tmp 21) rfl wr.heap.size rfl (some ⟨gg, 0, none⟩) 8 cc rfl (heap_alloc_new wr _) M (HRM.out.later (Below.alloc0 _ _)) (by omega) ?next)
      case next =>
        intro gO cO w2 hgO hO hg2
        have HB2 := Lib.hid ((Below.alloc0 wr _).grown hg2 (by simp) (by simp))
        have HO2 := Lib.hid hO
        clear hO hg2 hgO
        go_wp2_with fail
        refine (refNum_any n n w2 rfl (by omega)).mono ?_
        rintro e w3 ⟨g3, m3, c3, rfl, hm3, ho3, hb3⟩
        have HR3 := Lib.hid (ho3.asSlice1 hm3.symm)
        have HM3 := Lib.hid hm3
        have HO3 := Lib.hid (HO2.out.kept hb3)
        have HB3 := Lib.hid (HB2.out.trans (hb3.mono HB2.out.size))
        have hm10 : m3 ≤ 10 := by rw [hm3]; exact vEnc_len10 (by omega)
        clear ho3 hb3 hm3
        go_wp2_with (at_builtin; refine wpList_append_rd rfl (.tmp 22) (.tmp 26) rfl _ rfl (some ⟨g3, 0, none⟩) m3 c3 rfl wr.heap.size M HO3.out HB3.out.size (vEnc n) HR3.out (by have := HML.out; omega) ?next2)
        case next2 =>
          intro v4 w4 ho4 hb4
          have HO4 := Lib.hid ho4
          have HB4 := Lib.hid (HB3.out.trans hb4)
          clear ho4 hb4
          have hbw4 : Below w.heap.size w w4 := HB.out.trans (HB4.out.mono HB.out.size)
          have HRB := Lib.hid (HR.out.later hbw4)
          clear hbw4
          go_wp2_with fail
          refine (refOf_any a n c b w4 HRB.out (by omega)).mono ?_
          rintro e w5 ⟨rfl, rfl⟩
          have hcs := cSum_lt b
          obtain ⟨Q, hQ⟩ : ∃ Q, Q = cSum b := ⟨_, rfl⟩
          rw [← hQ] at hcs ⊢
          have HQ := Lib.hid hQ
          clear hQ
          go_wp2_with fail
          refine (refNum_any Q Q _ rfl (by omega)).mono ?_
          rintro e w6 ⟨g6, m6, c6, rfl, hm6, ho6, hb6⟩
          have HR6 := Lib.hid (ho6.asSlice1 hm6.symm)
          have HM6 := Lib.hid hm6
          have HO6 := Lib.hid (HO4.out.kept hb6)
          have HB6 := Lib.hid (HB4.out.trans (hb6.mono HB4.out.size))
          have hm610 : m6 ≤ 10 := by rw [hm6]; exact vEnc_len10 (by omega)
          clear ho6 hb6 hm6
          go_wp2_with (at_builtin; refine wpList_append_rd rfl (.tmp 28) (.tmp 32) rfl _ rfl (some ⟨g6, 0, none⟩) m6 c6 rfl wr.heap.size _ HO6.out HB6.out.size (vEnc Q) HR6.out (by have := HML.out; have := HM3.out; rw [List.length_append]; omega) ?next3)
          case next3 =>
            intro v7 w7 ho7 hb7
            have e7 : M ++ (vEnc n ++ vEnc Q) = rHead G b := by rw [rHead_eq, HG.out, HS.out, HQ.out]
            rw [e7] at ho7
            obtain ⟨hh1, hh2⟩ := rHead_len G b (by have := HS.out; omega)
            obtain ⟨g7, c7, hv7⟩ := ho7.held (by omega)
            subst hv7
            obtain ⟨Y, hY⟩ : ∃ Y, Y = (rHead G b).length := ⟨_, rfl⟩
            rw [← hY] at hh1 hh2 ho7 ⊢
            have HY := Lib.hid hY
            have HO7 := Lib.hid ho7
            have HB7 := Lib.hid (HB6.out.trans hb7)
            clear ho7 hb7 e7 hY
            go_wp2_with (at_builtin; refine wpList_append_zeros rfl (.tmp 34) (.tmp 37) rfl g7 Y c7 rfl (56 - Y) (congrArg (Value.int .i64) (show (56 : Int) - (Y : Int) = ((56 - Y : Nat) : Int) by omega)) wr.heap.size (rHead G b) HO7.out HY.out.symm HB7.out.size (by omega) ?next4)
            case next4 =>
              intro v8 w8 ho8 hb8
              have HO8 := Lib.hid ho8
              have HB8 := Lib.hid (HB7.out.trans hb8)
              clear ho8 hb8
              go_wp2_with (at_builtin; refine wpList_append_rd rfl (.tmp 39) (.tmp 40) rfl _ rfl (some ⟨gg, 0, none⟩) 8 cc rfl wr.heap.size _ HO8.out HB8.out.size M (HRM.out.later HB8.out) (by rw [List.length_append, List.length_replicate, ← HY.out]; omega) ?next5)
              case next5 =>
                intro v9 w9 ho9 hb9
                have HO9 := Lib.hid ho9
                have HB9 := Lib.hid (HB8.out.trans hb9)
                clear ho9 hb9
                go_wp2
                go_ret
                refine ⟨v9, rfl, ?_, HB.out.trans (HB9.out.mono HB.out.size)⟩
                have := HO9.out.mono HB.out.size
                rw [HY.out, HG.out, ← List.append_assoc] at this
                exact this

end Go.Proofs.Ytpdpnlgiaehegaa
