/- ExtentBytes, walked: over any world. -/
import Derived.Test.YtfmaapojlbheaaaEBack
import Derived.Test.YtfmaapojlbheaaaERefBytes
import Derived.Test.YtfmaapojlbheaaaELives
import Derived.Test.YtfmaapojlbheaaaEReads
import Derived.Test.YtfmaapojlbheaaaOrders
import Derived.BigQuiet
namespace Go.Proofs.Ytfmaapojlbheaaa
open Go.RowKit
set_option linter.unusedSimpArgs false

/-- A number as the statement cuts it. -/
def um (x : Int) : Int := wrap64 ((IntKind.u64.wrap x).tmod 100000)

theorem um_in (x : Int) : 0 ≤ um x ∧ um x < 100000 := by
  have h0 : 0 ≤ IntKind.u64.wrap x := by rw [IntKind.wrap_u64]; omega
  have h1 := Int.tmod_lt_of_pos (IntKind.u64.wrap x) (b := 100000) (by omega)
  have h2 := Int.tmod_nonneg (100000 : Int) h0
  unfold um wrap64
  omega

theorem heap_alloc2 (w : World) (o1 o2 : Obj) : ((w.alloc o1).alloc o2).heap[w.heap.size + 1]? = some o2 := by
  have := heap_alloc_new (w.alloc o1) o2
  rw [World.size_alloc] at this
  exact this

theorem Canon.raise {a b : Int} {M : List Rn} (h : Canon a M) (hb : ∀ r ∈ M, b < r.f) : Canon b M := by
  cases M with
  | nil => trivial
  | cons r M => exact ⟨hb r (by simp), h.2⟩

set_option maxHeartbeats 4000000 in
set_option maxRecDepth 100000 in
theorem extentBytes_walk (a : Option Addr) (n c : Nat) (L : List Rn) (w : World) (h : RdR w a n L) :
    Calls Try.prog 4 #[.slice a n c] w fun e w' => e = .returned (.bool true) ∧ Below w.heap.size w w' := by
  have HR := Lib.hid h
  clear h
  by_cases hn : n ≤ 100
  · have hn' : decide ((100 : Int) < (n : Int)) = false := by simp; omega
    obtain ⟨i0, hi0, hz0, hz1, hz2⟩ := info_parts info_run
    obtain ⟨j0, hj0, hy0, hy1, hy2⟩ := info_parts info_ref
    go_enter Try.func4, Try.ntmps4
    go_wp2_with fail
    refine (lives_any w).mono ?_
    rintro e w1 ⟨rfl, hb1⟩
    have HB1 := Lib.hid hb1
    clear hb1
    go_wp2
    go_loopg [3, 25] n (fun k s i wr => ∃ (j : Nat) (sv : Value), sv = s ∧ k = n - j ∧ j ≤ n ∧ i = .int .i64 (j : Int) ∧ Hid (OwnR wr w.heap.size 37 sv ((L.take j).map fun r => ⟨um r.f, um r.t⟩)) ∧ Hid (Below w.heap.size w wr))
    case atStart => exact ⟨0, _, rfl, rfl, Nat.zero_le _, rfl, Lib.hid (by simpa using OwnR.nil _ _ _), HB1⟩
    case round =>
      obtain ⟨j, sv, rfl, hk, hj, rfl, HO, HB⟩ := hrel
      have HK := Lib.hid hk
      clear hk HB1
      by_cases hlt : j < n
      · obtain ⟨b, o, r, rfl, hre, hbl, e0, e1⟩ := HR.out.at_ HB.out hlt
        have hjl : j < L.length := by have := HR.out.1; omega
        have hst := takeR_succ hjl hre
        obtain ⟨x, y⟩ := r
        simp only at e0 e1
        have HST : Hid ((L.take (j + 1)).map (fun r => (⟨um r.f, um r.t⟩ : Rn)) = (L.take j).map (fun r => (⟨um r.f, um r.t⟩ : Rn)) ++ [⟨um x, um y⟩]) := Lib.hid (by rw [hst]; simp)
        obtain ⟨A, hA⟩ : ∃ A, A = (L.take j).map (fun r => (⟨um r.f, um r.t⟩ : Rn)) := ⟨_, rfl⟩
        rw [← hA] at HO HST
        have hAl : A.length ≤ 100 := by rw [hA, List.length_map, List.length_take]; omega
        have hbr : w.heap.size ≤ wr.heap.size := HB.out.size
        clear hst hre hjl hA
        go_wp2_with (at_builtin; have _t := hlt; refine wpList_append_own_at _ rfl (.tmp 29) (.tmp 41) 22 rfl w.heap.size 37 i0 _ 2 16 Try.underlying22 hi0 hz0 hz1 hz2 rfl (by omega) sv A.length (cR A) rfl (HO.out.kept ((Below.alloc0 _ _).alloc (by simp) _)) ⟨wr.heap.size + 1, 0, none⟩ 1 1 (cR [⟨um x, um y⟩]) rfl ?hlen (World.news_of_block (cs := #[.int .i64 (um x), .int .i64 (um y)]) (t := 37) (fr := (0, 0)) (heap_alloc2 wr _ _)) ?one ?h63 ?hby ?hbase ?next)
        case hlen => rfl
        case one => exact cR_one _
        case h63 => unfold maxLen; omega
        case hby => omega
        case hbase => simp; omega
        case next =>
          intro v' w' hown hg _ _
          have HO3 : Hid (OwnR w' w.heap.size 37 v' (A ++ [⟨um x, um y⟩])) := Lib.hid (OwnR.of_append rfl hown)
          have HB3 : Hid (Below w.heap.size w w') := Lib.hid (((HB.out.alloc hbr _).alloc (by simp; omega) _).grown hg (by simp; omega) (fun k hk => (World.ownsRow.lt HO.out k hk).1))
          clear hown hg
          go_wp2
          go_roundg (n - (j + 1))
          case measure => have := HK.out; omega
          case rel => exact ⟨j + 1, v', rfl, rfl, by omega, by go_num, Lib.hid (by rw [HST.out]; exact HO3.out), HB3⟩
      · obtain rfl : j = n := by omega
        obtain ⟨A, hA⟩ : ∃ A, A = L.map (fun r => (⟨um r.f, um r.t⟩ : Rn)) := ⟨_, rfl⟩
        have ho := HO.out
        rw [List.take_of_length_le (by have := HR.out.1; omega), ← hA] at ho
        have hAl : A.length = j := by rw [hA, List.length_map]; exact HR.out.1
        have hAin : ∀ r ∈ A, 0 ≤ r.f ∧ r.f < 100000 ∧ 0 ≤ r.t ∧ r.t < 100000 := by
          intro r hr
          rw [hA, List.mem_map] at hr
          obtain ⟨q, _, rfl⟩ := hr
          have h1 := um_in q.f
          have h2 := um_in q.t
          exact ⟨h1.1, h1.2, h2.1, h2.2⟩
        obtain ⟨a1, c1, hv, hr1, _, hlo1⟩ := ho.rd
        rw [hAl] at hv hr1
        subst hv
        have HRA := Lib.hid hr1
        have HAin := Lib.hid hAin
        clear ho hA hAl hAin hr1 hlo1 HO HK
        go_wp2_with fail
        refine (of_any a1 j c1 A wr HRA.out (by omega) (fun r hr => by have := HAin.out r hr; exact ⟨by omega, by omega, by omega, by omega⟩)).mono ?_
        rintro e w2 ⟨v2, M, rfl, ho2, hs2, hm2, hl2, hb2⟩
        have hpos : ∀ r ∈ M, 0 ≤ r.f ∧ r.f < r.t ∧ r.t ≤ 100000 := hs2.ends (fun z hz => by
          obtain ⟨q, hq, k1, k2⟩ := (hm2 z).1 hz
          have := HAin.out q hq
          omega)
        have hPos : Pos M := by
          obtain ⟨a0, ha0⟩ := hs2
          exact ha0.raise fun r hr => by have := (hpos r hr).1; omega
        have hokM : ∀ r ∈ M, r.ok := fun r hr => by have := hpos r hr; exact ⟨by omega, by omega, by omega, by omega⟩
        obtain ⟨a2, c2, hv2, hr2, _, hlo2⟩ := ho2.rd
        obtain ⟨q, hq⟩ : ∃ q, q = M.length := ⟨_, rfl⟩
        rw [← hq] at hv2 hr2 hl2
        subst hv2
        have hqb : q ≤ 200 := by omega
        have HM := Lib.hid (And.intro hPos (And.intro hokM hpos))
        have HQ := Lib.hid hq
        have HRM := Lib.hid hr2
        have HB2 : Hid (Below w.heap.size w w2) := Lib.hid (HB.out.trans (hb2.mono HB.out.size))
        clear ho2 hs2 hm2 hl2 hb2 hpos hPos hokM hlo2 hr2 hq HRA HAin HB
        go_wp2
        go_loopg [4, 48] q (fun k s i wr => ∃ (j : Nat) (sv : Value), sv = s ∧ k = q - j ∧ j ≤ q ∧ i = .int .i64 (j : Int) ∧ Hid (OwnR wr w2.heap.size 39 sv (M.take j)) ∧ Hid (Below w2.heap.size w2 wr))
        case atStart => exact ⟨0, _, rfl, rfl, Nat.zero_le _, rfl, Lib.hid (by simpa using OwnR.nil _ _ _), Lib.hid (Below.refl _ _)⟩
        case round =>
          obtain ⟨i, sv, rfl, hk, hi, rfl, HO, HB⟩ := hrel
          have HK := Lib.hid hk
          clear hk
          by_cases hlt : i < q
          · obtain ⟨b, o, r, rfl, hre, hbl, e0, e1⟩ := HRM.out.at_ HB.out hlt
            have hjl : i < M.length := by have := HQ.out; omega
            have hst := takeR_succ hjl hre
            obtain ⟨x, y⟩ := r
            simp only at e0 e1
            have HST := Lib.hid hst
            obtain ⟨A2, hA⟩ : ∃ A2, A2 = M.take i := ⟨_, rfl⟩
            rw [← hA] at HO HST
            have hAl : A2.length ≤ 200 := by rw [hA, List.length_take]; omega
            have hbr : w2.heap.size ≤ wr.heap.size := HB.out.size
            clear hst hre hjl hA
            go_wp2_with (at_builtin; have _t := hlt; refine wpList_append_own_at _ rfl (.tmp 52) (.tmp 58) 35 rfl w2.heap.size 39 j0 _ 2 16 Try.underlying35 hj0 hy0 hy1 hy2 rfl (by omega) sv A2.length (cR A2) rfl (HO.out.kept ((Below.alloc0 _ _).alloc (by simp) _)) ⟨wr.heap.size + 1, 0, none⟩ 1 1 (cR [⟨x, y⟩]) rfl ?hlen2 (World.news_of_block (cs := #[.int .i64 x, .int .i64 y]) (t := 39) (fr := (0, 0)) (heap_alloc2 wr _ _)) ?one2 ?h632 ?hby2 ?hbase2 ?next2)
            case hlen2 => rfl
            case one2 => exact cR_one _
            case h632 => unfold maxLen; omega
            case hby2 => omega
            case hbase2 => simp; omega
            case next2 =>
              intro v' w' hown hg _ _
              have HO3 : Hid (OwnR w' w2.heap.size 39 v' (A2 ++ [⟨x, y⟩])) := Lib.hid (OwnR.of_append rfl hown)
              have HB3 : Hid (Below w2.heap.size w2 w') := Lib.hid (((HB.out.alloc hbr _).alloc (by simp; omega) _).grown hg (by simp; omega) (fun k hk => (World.ownsRow.lt HO.out k hk).1))
              clear hown hg
              go_wp2
              go_roundg (q - (i + 1))
              case measure => have := HK.out; omega
              case rel => exact ⟨i + 1, v', rfl, rfl, by omega, by go_num, Lib.hid (by rw [HST.out]; exact HO3.out), HB3⟩
          · obtain rfl : i = q := by omega
            have ho := HO.out
            rw [List.take_of_length_le (by have := HQ.out; omega)] at ho
            obtain ⟨a3, c3, hv3, hr3, _, hlo3⟩ := ho.rd
            rw [← HQ.out] at hv3 hr3
            subst hv3
            have HR3 := Lib.hid hr3
            have HB3 : Hid (Below w.heap.size w wr) := Lib.hid (HB2.out.trans (HB.out.mono HB2.out.size))
            have HRM3 := Lib.hid (HRM.out.later HB.out)
            clear ho hr3 hlo3 HO HB HK HRM HB2
            obtain ⟨BB, hBB⟩ : ∃ BB, BB = (setNums M).flatMap vEnc := ⟨_, rfl⟩
            have HRT : Hid (rdSet 0 BB 100000 = (0, M, 0, [])) := Lib.hid (by
              rw [hBB]
              exact rdSet_put (by omega) HM.out.1 (by have := HQ.out; omega) (fun r hr => (HM.out.2.2 r hr).2.2))
            have HBy : Hid (∀ W, Below wr.heap.size wr W → Calls Try.prog 17 #[.slice a2 i c2] W fun e w' => ∃ v, e = .returned v ∧ Own w' W.heap.size v BB ∧ Below W.heap.size W w') := Lib.hid fun W hW => by
              rw [hBB]
              exact setBytes_any a2 i c2 M W (HRM3.out.later hW) (by omega) HM.out.1 HM.out.2.1
            have HRB0 : Hid (∀ W, Below wr.heap.size wr W → Calls Try.prog 20 #[.slice a3 i c3] W fun e w' => ∃ v, e = .returned v ∧ Own w' W.heap.size v BB ∧ Below W.heap.size W w') := Lib.hid fun W hW => by
              rw [hBB]
              exact refBytes_any a3 i c3 M W (HR3.out.later hW) (by omega) HM.out.1 HM.out.2.1
            have HBBl : Hid (BB.length ≤ 1000000) := Lib.hid (by
              rw [hBB]
              have h1 := encs_len (setNums M) (fun z hz => by
                unfold setNums at hz
                rcases List.mem_cons.1 hz with rfl | hz
                · have := HQ.out; omega
                · exact numsGo_le M 0 (by omega) HM.out.2.1 z hz)
              have h2 : (setNums M).length ≤ 401 := by
                unfold setNums
                rw [List.length_cons, numsGo_length, ← HQ.out]
                omega
              omega)
            clear hBB
            go_wp2_with fail
            refine (HBy.out wr (Below.refl _ _)).mono ?_
            rintro e w4 ⟨v4, rfl, ho4, hb4⟩
            obtain ⟨ab, cb, rfl, hrb, _⟩ := ho4.sl
            obtain ⟨nb, hnb⟩ : ∃ nb, nb = BB.length := ⟨_, rfl⟩
            rw [← hnb] at hrb ⊢
            have hnb2 : nb ≤ 1000000 := by rw [hnb]; exact HBBl.out
            have HB4 := Lib.hid hb4
            have HRb := Lib.hid hrb
            clear ho4 hb4 hrb hnb HBy
            go_wp2_with fail
            refine (open_any ab nb cb BB w4 HRb.out hnb2).mono ?_
            rintro e w5 ⟨g, rfl, hgl, hrd, hb5⟩
            have HB5 := Lib.hid hb5
            have HRd5 := Lib.hid hrd
            clear hb5 hrd
            go_wp2_with fail
            refine (read_any w5 g 0 BB 100000 100000 (by omega) (by omega) HRd5.out).mono ?_
            rintro e w6 ⟨v6, rfl, ho6, hrg, hg6⟩
            rw [HRT.out] at ho6 hrg ⊢
            dsimp only at ho6 hrg ⊢
            obtain ⟨a6, c6, hv6, hr6, _, hlo6⟩ := ho6.rd
            rw [← HQ.out] at hv6 hr6
            subst hv6
            have hgs : wr.heap.size ≤ g := by have := HB4.out.size; omega
            have HR6 := Lib.hid hr6
            have HRg := Lib.hid hrg
            have HB6 : Hid (Below wr.heap.size wr w6) := Lib.hid ((HB4.out.trans (HB5.out.mono HB4.out.size)).trans (below_of_grown hg6 hgs (Nat.le_trans HB4.out.size HB5.out.size)))
            have HRdb : Hid (Rd w6 ab nb BB) := Lib.hid (by
              obtain ⟨ag, ng, cg, hgg, _⟩ := HRd5.out
              exact (HRb.out.later HB5.out).beside hgg hg6)
            have HX : Hid ((convert 40 9 (.slice ab nb cb)).run Try.prog w6.drew = .ok (.string (strB BB)) w6.drew) := Lib.hid (conv_rd (HRdb.out.later (Below.refl _ _).drew) cb)
            have HRB := Lib.hid (HRB0.out w6.drew (HB6.out.trans (Below.refl _ _).drew))
            have h56 : w5.heap.size ≤ w6.heap.size := hg6.size
            clear ho6 hr6 hrg hg6 hlo6 HRB0 HRT HRd5 HRb
            go_upto_region 19 with fail
            refine wp_region_held_drew (S := fun W => (convert 40 9 (.slice ab nb cb)).run Try.prog W = .ok (.string (strB BB)) W) (by kernel_rfl) HX.out (fun _ => ?_)
            refine wpAnyH_take (i := 0) (v := ?vq0) rfl (by kernel_rfl) (by kernel_rfl) (by kernel_rfl) (fun _ _ _ h => h) (Or.inl ⟨by rfl, ?hq0⟩) HX.out ?rq0
            case hq0 => (intro W hW; (try dsimp only at hW); go_simp; try with_reducible rfl)
            simp only [Act.put, List.getElem_toArray, List.getElem_cons_succ, List.getElem_cons_zero, List.setIfInBounds_toArray, List.set_cons_zero, List.set_cons_succ]
            refine wpAnyH_take (i := 1) (v := ?vq1) rfl (by kernel_rfl) (by kernel_rfl) (by kernel_rfl) (fun _ _ _ h => h) (Or.inl ⟨by rfl, ?hq1⟩) HX.out ?rq1
            case hq1 => (intro W hW; (try dsimp only at hW); go_simp; try with_reducible rfl)
            simp only [Act.put, List.getElem_toArray, List.getElem_cons_succ, List.getElem_cons_zero, List.setIfInBounds_toArray, List.set_cons_zero, List.set_cons_succ]
            refine wpAnyH_take (i := 2) (v := ?vq2) rfl (by kernel_rfl) (by kernel_rfl) (by kernel_rfl) (fun _ _ _ h => h) (Or.inl ⟨by rfl, ?hq2⟩) HX.out ?rq2
            case hq2 => (intro W hW; (try dsimp only at hW); go_simp; try with_reducible rfl)
            simp only [Act.put, List.getElem_toArray, List.getElem_cons_succ, List.getElem_cons_zero, List.setIfInBounds_toArray, List.set_cons_zero, List.set_cons_succ]
            refine wpAnyH_ready (rs := [3]) (by kernel_rfl) (by simp) ?_
            refine AllReadyH.cons rfl (fun K hK => ?_) AllReadyH.nil
            go_simp
            refine HRB.out.mono ?_
            rintro e w8 ⟨v8, rfl, ho8, hb8⟩
            obtain ⟨a8, c8, rfl, hr8, _⟩ := ho8.sl
            have HR8 := Lib.hid hr8
            have HB8 := Lib.hid hb8
            have HX8 : Hid ((convert 40 9 (.slice ab nb cb)).run Try.prog w8 = .ok (.string (strB BB)) w8) := Lib.hid (conv_rd (HRdb.out.later ((Below.refl _ _).drew.trans HB8.out)) cb)
            obtain ⟨n8, hn8⟩ : ∃ n8, n8 = BB.length := ⟨_, rfl⟩
            rw [← hn8] at HR8 ⊢
            clear ho8 hb8 hr8 hn8
            refine hK.out _ _ HX8.out (fun _ => ?_)
            clear hK K
            refine wpAnyH_strong (S1 := fun W => ((convert 40 9 (.slice ab nb cb)).run Try.prog W = .ok (.string (strB BB)) W) ∧ (convert 40 9 (.slice a8 n8 c8)).run Try.prog W = .ok (.string (strB BB)) W) (fun _ h => h.1) ?_
            have HX9 : Hid (((convert 40 9 (.slice ab nb cb)).run Try.prog w8 = .ok (.string (strB BB)) w8) ∧ (convert 40 9 (.slice a8 n8 c8)).run Try.prog w8 = .ok (.string (strB BB)) w8) := Lib.hid ⟨HX8.out, conv_rd HR8.out c8⟩
            refine wpAnyH_take (i := 4) (v := ?vq4) rfl (by kernel_rfl) (by kernel_rfl) (by kernel_rfl) (fun _ _ _ h => h) (Or.inl ⟨by rfl, ?hq4⟩) HX9.out ?rq4
            case hq4 => (intro W hW; (try dsimp only at hW); go_simp; try with_reducible rfl)
            simp only [Act.put, List.getElem_toArray, List.getElem_cons_succ, List.getElem_cons_zero, List.setIfInBounds_toArray, List.set_cons_zero, List.set_cons_succ]
            refine wpAnyH_take (i := 5) (v := ?vq5) rfl (by kernel_rfl) (by kernel_rfl) (by kernel_rfl) (fun _ _ _ h => h) (Or.inl ⟨by rfl, ?hq5⟩) HX9.out ?rq5
            case hq5 => (intro W hW; (try dsimp only at hW); go_simp; try with_reducible rfl)
            simp only [Act.put, List.getElem_toArray, List.getElem_cons_succ, List.getElem_cons_zero, List.setIfInBounds_toArray, List.set_cons_zero, List.set_cons_succ]
            refine wpAnyH_take (i := 6) (v := ?vq6) rfl (by kernel_rfl) (by kernel_rfl) (by kernel_rfl) (fun _ _ _ h => h) (Or.inl ⟨by rfl, ?hq6⟩) HX9.out ?rq6
            case hq6 => (intro W hW; (try dsimp only at hW); go_simp; try with_reducible rfl)
            simp only [Act.put, List.getElem_toArray, List.getElem_cons_succ, List.getElem_cons_zero, List.setIfInBounds_toArray, List.set_cons_zero, List.set_cons_succ]
            refine wpAnyH_take (i := 7) (v := ?vq7) rfl (by kernel_rfl) (by kernel_rfl) (by kernel_rfl) (fun _ _ _ h => h) (Or.inl ⟨by rfl, ?hq7⟩) HX9.out ?rq7
            case hq7 => (intro W hW; (try dsimp only at hW); go_simp; try with_reducible rfl)
            simp only [Act.put, List.getElem_toArray, List.getElem_cons_succ, List.getElem_cons_zero, List.setIfInBounds_toArray, List.set_cons_zero, List.set_cons_succ]
            refine wpAnyH_take (i := 8) (v := ?vq8) rfl (by kernel_rfl) (by kernel_rfl) (by kernel_rfl) (fun _ _ _ h => h) (Or.inl ⟨by rfl, ?hq8⟩) HX9.out ?rq8
            case hq8 => (intro W hW; (try dsimp only at hW); go_simp; try with_reducible rfl)
            simp only [Act.put, List.getElem_toArray, List.getElem_cons_succ, List.getElem_cons_zero, List.setIfInBounds_toArray, List.set_cons_zero, List.set_cons_succ]
            refine wpAnyH_take (i := 9) (v := ?vq9) rfl (by kernel_rfl) (by kernel_rfl) (by kernel_rfl) (fun _ _ _ h => h) (Or.inl ⟨by rfl, ?hq9⟩) HX9.out ?rq9
            case hq9 => (intro W hW; (try dsimp only at hW); go_simp; try with_reducible rfl)
            simp only [Act.put, List.getElem_toArray, List.getElem_cons_succ, List.getElem_cons_zero, List.setIfInBounds_toArray, List.set_cons_zero, List.set_cons_succ]
            refine wpAnyH_take (i := 10) (v := ?vq10) rfl (by kernel_rfl) (by kernel_rfl) (by kernel_rfl) (fun _ _ _ h => h) (Or.inl ⟨by rfl, ?hq10⟩) HX9.out ?rq10
            case hq10 => (intro W hW; (try dsimp only at hW); go_simp; try with_reducible rfl)
            simp only [Act.put, List.getElem_toArray, List.getElem_cons_succ, List.getElem_cons_zero, List.setIfInBounds_toArray, List.set_cons_zero, List.set_cons_succ]
            refine wpAnyH_take (i := 11) (v := ?vq11) rfl (by kernel_rfl) (by kernel_rfl) (by kernel_rfl) (fun _ _ _ h => h) (Or.inl ⟨by rfl, ?hq11⟩) HX9.out ?rq11
            case hq11 => (intro W hW; (try dsimp only at hW); go_simp; try with_reducible rfl)
            simp only [Act.put, List.getElem_toArray, List.getElem_cons_succ, List.getElem_cons_zero, List.setIfInBounds_toArray, List.set_cons_zero, List.set_cons_succ]
            refine wpAnyH_ready (rs := [12]) (by kernel_rfl) (by simp) ?_
            refine AllReadyH.cons rfl (fun K hK => ?_) AllReadyH.nil
            go_simp
            refine (end_any w8 g 0 [] (HRg.out.below ((Below.refl _ _).drew.trans (HB8.out.mono (by simp; omega)))).rdr).mono ?_
            rintro e w9 ⟨rfl, rfl⟩
            refine hK.out _ _ HX9.out (fun _ => ?_)
            clear hK K
            refine wpAnyH_take (i := 13) (v := ?vq13) rfl (by kernel_rfl) (by kernel_rfl) (by kernel_rfl) (fun _ _ _ h => h) (Or.inl ⟨by rfl, ?hq13⟩) HX9.out ?rq13
            case hq13 => (intro W hW; (try dsimp only at hW); go_simp; try with_reducible rfl)
            simp only [Act.put, List.getElem_toArray, List.getElem_cons_succ, List.getElem_cons_zero, List.setIfInBounds_toArray, List.set_cons_zero, List.set_cons_succ]
            refine wpAnyH_take (i := 14) (v := ?vq14) rfl (by kernel_rfl) (by kernel_rfl) (by kernel_rfl) (fun _ _ _ h => h) (Or.inl ⟨by rfl, ?hq14⟩) HX9.out ?rq14
            case hq14 => (intro W hW; (try dsimp only at hW); go_simp; try with_reducible rfl)
            simp only [Act.put, List.getElem_toArray, List.getElem_cons_succ, List.getElem_cons_zero, List.setIfInBounds_toArray, List.set_cons_zero, List.set_cons_succ]
            refine wpAnyH_take (i := 15) (v := ?vq15) rfl (by kernel_rfl) (by kernel_rfl) (by kernel_rfl) (fun _ _ _ h => h) (Or.inl ⟨by rfl, ?hq15⟩) HX9.out ?rq15
            case hq15 => (intro W hW; (try dsimp only at hW); go_simp; try with_reducible rfl)
            simp only [Act.put, List.getElem_toArray, List.getElem_cons_succ, List.getElem_cons_zero, List.setIfInBounds_toArray, List.set_cons_zero, List.set_cons_succ]
            refine wpAnyH_take (i := 16) (v := ?vq16) rfl (by kernel_rfl) (by kernel_rfl) (by kernel_rfl) (fun _ _ _ h => h) (Or.inl ⟨by rfl, ?hq16⟩) HX9.out ?rq16
            case hq16 => (intro W hW; (try dsimp only at hW); go_simp; try with_reducible rfl)
            simp only [Act.put, List.getElem_toArray, List.getElem_cons_succ, List.getElem_cons_zero, List.setIfInBounds_toArray, List.set_cons_zero, List.set_cons_succ]
            refine wpAnyH_take (i := 17) (v := ?vq17) rfl (by kernel_rfl) (by kernel_rfl) (by kernel_rfl) (fun _ _ _ h => h) (Or.inl ⟨by rfl, ?hq17⟩) HX9.out ?rq17
            case hq17 => (intro W hW; (try dsimp only at hW); go_simp; try with_reducible rfl)
            simp only [Act.put, List.getElem_toArray, List.getElem_cons_succ, List.getElem_cons_zero, List.setIfInBounds_toArray, List.set_cons_zero, List.set_cons_succ]
            refine wpAnyH_take (i := 18) (v := ?vq18) rfl (by kernel_rfl) (by kernel_rfl) (by kernel_rfl) (fun _ _ _ h => h) (Or.inl ⟨by rfl, ?hq18⟩) HX9.out ?rq18
            case hq18 => (intro W hW; (try dsimp only at hW); go_simp; try with_reducible rfl)
            simp only [Act.put, List.getElem_toArray, List.getElem_cons_succ, List.getElem_cons_zero, List.setIfInBounds_toArray, List.set_cons_zero, List.set_cons_succ]
            refine wpAnyH_take (i := 19) (v := ?vq19) rfl (by kernel_rfl) (by kernel_rfl) (by kernel_rfl) (fun _ _ _ h => h) (Or.inl ⟨by rfl, ?hq19⟩) HX9.out ?rq19
            case hq19 => (intro W hW; (try dsimp only at hW); go_simp; try with_reducible rfl)
            simp only [Act.put, List.getElem_toArray, List.getElem_cons_succ, List.getElem_cons_zero, List.setIfInBounds_toArray, List.set_cons_zero, List.set_cons_succ]
            refine wpAnyH_take (i := 20) (v := ?vq20) rfl (by kernel_rfl) (by kernel_rfl) (by kernel_rfl) (fun _ _ _ h => h) (Or.inl ⟨by rfl, ?hq20⟩) HX9.out ?rq20
            case hq20 => (intro W hW; (try dsimp only at hW); go_simp; try with_reducible rfl)
            simp only [Act.put, List.getElem_toArray, List.getElem_cons_succ, List.getElem_cons_zero, List.setIfInBounds_toArray, List.set_cons_zero, List.set_cons_succ]
            refine wpAnyH_take (i := 21) (v := ?vq21) rfl (by kernel_rfl) (by kernel_rfl) (by kernel_rfl) (fun _ _ _ h => h) (Or.inl ⟨by rfl, ?hq21⟩) HX9.out ?rq21
            case hq21 => (intro W hW; (try dsimp only at hW); go_simp; try with_reducible rfl)
            simp only [Act.put, List.getElem_toArray, List.getElem_cons_succ, List.getElem_cons_zero, List.setIfInBounds_toArray, List.set_cons_zero, List.set_cons_succ]
            refine wpAnyH_done (by kernel_rfl) ?_ _
            have HB9 : Hid (Below w6.heap.size w6 w8) := Lib.hid ((Below.refl _ _).drew.trans HB8.out)
            have HS9 := Lib.hid ((HRM3.out.later HB6.out).later HB9.out)
            have HT9 := Lib.hid (HR6.out.later HB9.out)
            have HBW : Hid (Below w.heap.size w w8) := Lib.hid ((HB3.out.trans (HB6.out.mono HB3.out.size)).trans (HB9.out.mono (Nat.le_trans HB3.out.size HB6.out.size)))
            clear HX HX8 HX9 HRB HR8 HB8 HRdb HRg HB6 HB3 HB5 HB4 HR6 HRM3 HR3 HB9
            go_wp2
            go_loopg [94] i (fun k s wq => ∃ t : Nat, k = i - t ∧ t ≤ i ∧ s = .int .i64 (t : Int) ∧ Hid (Below w8.heap.size w8 wq))
            case atStart => exact ⟨0, rfl, Nat.zero_le _, rfl, Lib.hid (Below.refl _ _)⟩
            case round =>
              obtain ⟨t, hk, ht, rfl, HBt⟩ := hrel
              have HK := Lib.hid hk
              clear hk
              by_cases hlt : t < i
              · obtain ⟨b1, o1, r1, he1, hre1, _, f0, f1⟩ := HS9.out.at_ HBt.out hlt
                obtain ⟨b2, o2, r2, he2, hre2, _, g0, g1⟩ := HT9.out.at_ HBt.out hlt
                have hrr : r2 = r1 := by rw [hre1, hre2]
                subst hrr
                subst he1
                subst he2
                obtain ⟨x, y⟩ := r2
                simp only at f0 f1 g0 g1
                have hne : ∀ W : World, (binOp .neq 37 (.agg #[.int .i64 x, .int .i64 y]) (.agg #[.int .i64 x, .int .i64 y])).run Try.prog W = .ok (.bool false) W := fun W => by
                  rw [neq_run]; simp
                clear hre1 hre2
                go_wp2_with fail
                go_quiet (fail)
                go_wp2
                go_roundg (i - (t + 1))
                case measure => have := HK.out; omega
                case rel => exact ⟨t + 1, rfl, by omega, by go_num, Lib.hid (HBt.out.trans ⟨rfl, rfl, rfl, Nat.le_refl _, fun _ _ => rfl⟩)⟩
              · go_wp2
                go_ret
                exact ⟨rfl, HBW.out.trans (HBt.out.mono HBW.out.size)⟩
  · have hn' : (100 : Int) < (n : Int) := by omega
    clear hn
    go_enter Try.func4, Try.ntmps4
    go_wp2_with fail
    refine (lives_any w).mono ?_
    rintro e w1 ⟨rfl, hb1⟩
    have HB1 := Lib.hid hb1
    clear hb1
    go_wp2_with fail
    refine (lives_any w1).mono ?_
    rintro e w2 ⟨rfl, hb2⟩
    have HB2 := Lib.hid hb2
    clear hb2
    go_wp2
    go_ret
    exact ⟨rfl, HB1.out.trans (HB2.out.mono HB1.out.size)⟩

end Go.Proofs.Ytfmaapojlbheaaa
