/- The contracts of the statement's own runs, and of the document's Blocks, over any world. -/
import Derived.Test.YtlmieegemckodaaIRuns
import Derived.Test.YtlmieegemckodaaISetOf
import Derived.Test.YtlmieegemckodaaILike
import Derived.Deep.DeepCutAuto
namespace Go.Proofs.Ytlmieegemckodaa
open Go.RowKit
set_option linter.unusedSimpArgs false

set_option maxHeartbeats 1000000 in
set_option maxRecDepth 100000 in
theorem lawRuns_any (a : Option Addr) (n c : Nat) (L : List Rn) (w : World) (h : RdR w a n L) (hn : n ≤ 1000) :
    Calls Try.prog 19 #[.slice a n c] w fun e w' => ∃ v, e = .returned v ∧ OwnR w' w.heap.size 94 v L ∧ Below w.heap.size w w' := by
  obtain ⟨i0, hi0, hz0, hz1, hz2⟩ := info_parts info_ref0
  have HR := Lib.hid h
  clear h
  go_enter Try.func19, Try.ntmps19
  go_wp2
  go_loopg [3, 8] n (fun k s i wr => ∃ (j : Nat) (sv : Value), sv = s ∧ k = n - j ∧ j ≤ n ∧ i = .int .i64 (j : Int) ∧ Hid (OwnR wr w.heap.size 94 sv (L.take j)) ∧ Hid (Below w.heap.size w wr))
  case atStart => exact ⟨0, _, rfl, rfl, Nat.zero_le _, rfl, Lib.hid (by simpa using OwnR.nil _ _ _), Lib.hid (Below.refl _ _)⟩
  case round =>
    obtain ⟨j, sv, rfl, hk, hj, rfl, HO, HB⟩ := hrel
    have HK := Lib.hid hk
    clear hk
    by_cases hlt : j < n
    · obtain ⟨b, o, r, rfl, hre, hbl, e0, e1⟩ := HR.out.at_ HB.out hlt
      have hjl : j < L.length := by have := HR.out.1; omega
      have hst := takeR_succ hjl hre
      obtain ⟨x, y⟩ := r
      simp only at e0 e1
      have HST : Hid (L.take (j + 1) = L.take j ++ [⟨x, y⟩]) := Lib.hid hst
      obtain ⟨A, hA⟩ : ∃ A, A = L.take j := ⟨_, rfl⟩
      rw [← hA] at HO HST
      have hAl : A.length ≤ 1000 := by rw [hA, List.length_take]; omega
      have hbr : w.heap.size ≤ wr.heap.size := HB.out.size
      clear hst hre hjl hA
      go_wp2_with (at_builtin; have _t := hlt; refine wpList_append_own_at _ rfl (.tmp 12) (.tmp 18) 49 rfl w.heap.size 94 i0 _ 2 16 Try.underlying49 hi0 hz0 hz1 hz2 rfl (by omega) sv A.length (cR A) rfl (HO.out.kept ((Below.alloc0 _ _).alloc (by simp) _)) ⟨wr.heap.size + 1, 0, none⟩ 1 1 (cR [⟨x, y⟩]) rfl ?hlen (World.news_of_block (cs := #[.int .i64 x, .int .i64 y]) (t := 94) (fr := (0, 0)) (heap_alloc2 wr _ _)) ?one ?h63 ?hby ?hbase ?next)
      case hlen => rfl
      case one => exact cR_one _
      case h63 => unfold maxLen; omega
      case hby => omega
      case hbase => simp; omega
      case next =>
        intro v' w' hown hg _ _
        have HO3 : Hid (OwnR w' w.heap.size 94 v' (A ++ [⟨x, y⟩])) := Lib.hid (OwnR.of_append rfl hown)
        have HB3 : Hid (Below w.heap.size w w') := Lib.hid (((HB.out.alloc hbr _).alloc (by simp; omega) _).grown hg (by simp; omega) (fun k hk => (World.ownsRow.lt HO.out k hk).1))
        clear hown hg
        go_wp2
        go_roundg (n - (j + 1))
        case measure => have := HK.out; omega
        case rel => exact ⟨j + 1, v', rfl, rfl, by omega, by go_num, Lib.hid (by rw [HST.out]; exact HO3.out), HB3⟩
    · obtain rfl : j = n := by omega
      have h1 := HO.out
      rw [List.take_of_length_le (by have := HR.out.1; omega)] at h1
      have HR2 := Lib.hid h1
      clear h1
      go_wp2
      go_ret
      exact ⟨_, rfl, HR2.out, HB.out⟩

theorem run_mk256 (w : World) : (Instr.makeSlice 97 (.int .i64 256) (.int .i64 256)).run Try.prog w = .ok (.slice (some ⟨w.heap.size, 0, none⟩) 256 256) (w.alloc (.cells (bcells 256 fun _ => false) 4)) := by
  obtain ⟨i0, hi0, hz0, hz1, hz2⟩ := info_parts info_bool
  have h := run_make (P := Try.prog) w 97 4 i0 _ Try.underlying97 hi0 hz0 .i64 .i64 256 256 (by omega) (by omega) (by rw [hz2]; omega) (by omega)
  have e : madeCells #[Value.bool false] 256 = bcells 256 fun _ => false := by kernel_rfl
  simpa [hz1, Value.cells, e] using h

/-- Whether a text is empty. -/
theorem strB_neq (l : List Nat) : ((strB l).toList == ([] : List UInt8)) = !decide (l ≠ []) := by
  by_cases h : l = []
  · subst h
    have : (strB []).toList = [] := by rw [ByteArray.toList_eq]; rfl
    simp [this]
  · have := strB_ne h
    simp [h, this]

/-- The truths up to i are those of Q, the others false. -/
def upB (Q : Nat → Bool) (i : Nat) : Nat → Bool := fun j => decide (j < i) && Q j

theorem upB_succ (Q : Nat → Bool) (i : Nat) : ∀ j, j < 256 → updB (upB Q i) i (Q i) j = upB Q (i + 1) j := by
  intro j _
  unfold updB upB
  by_cases h : j = i
  · subst h; simp
  · rw [if_neg h]
    by_cases h2 : j < i
    · simp [h2, show j < i + 1 by omega]
    · simp [h2, show ¬ j < i + 1 by omega]

set_option maxHeartbeats 1000000 in
set_option maxRecDepth 100000 in
theorem refBlocks_any (w : World) (F : List (List Nat)) (hF : okF F) :
    Calls Try.prog 21 #[.agg (cS F).toArray] w fun e w' => ∃ v M, e = .returned v ∧ OwnR w' w.heap.size 94 v M ∧ SetF F M ∧ Below w.heap.size w w' := by
  have HF := Lib.hid hF
  obtain ⟨g3, hg3⟩ : ∃ g3, g3 = w.heap.size := ⟨_, rfl⟩
  clear hF
  go_enter Try.func21, Try.ntmps21
  go_upto_region 1 with fail
  change Code.wp _ _ _ _ (w.alloc (arrObj F))
  obtain ⟨w2, h2⟩ : ∃ w2, w2 = w.alloc (arrObj F) := ⟨_, rfl⟩
  rw [← h2, ← hg3]
  have HB2 : Hid (Below g3 w w2) := Lib.hid (by rw [h2, hg3]; exact Below.alloc0 _ _)
  have HS2 : Hid (w2.heap.size = g3 + 1) := Lib.hid (by rw [h2, hg3]; simp)
  have HA2 : Hid (w2.heap[g3]? = some (arrObj F)) := Lib.hid (by rw [h2, hg3]; exact heap_alloc_last _ _)
  have HG := Lib.hid hg3
  have hmk := run_mk256 w2
  have hs2 := HS2.out
  rw [hs2] at hmk
  clear h2 hg3 hs2
  obtain ⟨w4, h4⟩ : ∃ w4, w4 = w2.alloc (.cells (bcells 256 fun _ => false) 4) := ⟨_, rfl⟩
  rw [← h4] at hmk
  have HBl4 : Hid (Bl w4 (g3 + 1) 256 (upB (hasF F) 0)) := Lib.hid (by
    have := bl_new w2 256 (fun _ => false)
    rw [← h4, HS2.out] at this
    exact this.same fun j _ => by simp [upB])
  have HA4 : Hid (w4.heap[g3]? = some (arrObj F)) := Lib.hid (by rw [h4]; exact ((Below.alloc0 w2 _).block g3 (by rw [HS2.out]; omega)).trans HA2.out)
  have HB4 : Hid (Below g3 w w4) := Lib.hid (HB2.out.trans (by rw [h4]; exact (Below.alloc0 w2 _).mono (by rw [HS2.out]; omega)))
  have HS4 : Hid (w4.heap.size = g3 + 2) := Lib.hid (by rw [h4]; simp [HS2.out])
  clear h4
  go_wp2
  go_loopg [4] 256 (fun gk i wr => ∃ k : Nat, gk = 256 - k ∧ k ≤ 256 ∧ i = .int .i64 (k : Int) ∧ Hid (Bl wr (g3 + 1) 256 (upB (hasF F) k)) ∧ Hid (wr.heap[g3]? = some (arrObj F)) ∧ Hid (Below g3 w wr) ∧ Hid (wr.heap.size = g3 + 2))
  case atStart => exact ⟨0, rfl, by omega, rfl, HBl4, HA4, HB4, HS4⟩
  case round =>
    obtain ⟨k, hgk, hk, rfl, HBl, HA, HB, HS⟩ := hrel
    have HGK := Lib.hid hgk
    clear hgk
    by_cases hlt : k < 256
    · have hlt' : (k : Int) < 256 := by omega
      have hc := arr_cell (w := wr) (j := k) HA.out (by rw [HF.out.1]; exact hlt)
      have hq := HBl.out.at_ hlt
      have hfr := HBl.out.frozen k
      obtain ⟨l, hl⟩ : ∃ l, l = F.getD k [] := ⟨_, rfl⟩
      rw [← hl] at hc
      have hne := strB_neq l
      have hQ : (decide (l ≠ [])) = hasF F k := by rw [hl]; rfl
      rw [hQ] at hne
      obtain ⟨Q, hQ2⟩ : ∃ Q, Q = hasF F k := ⟨_, rfl⟩
      rw [← hQ2] at hne
      generalize strB l = sl at hc hne
      have HBl3 : Hid (Bl (wr.setCell ⟨g3 + 1, k, none⟩ (.bool Q)) (g3 + 1) 256 (upB (hasF F) (k + 1))) := Lib.hid ((HBl.out.set k Q).same (by rw [hQ2]; exact upB_succ _ _))
      have HA3 : Hid ((wr.setCell ⟨g3 + 1, k, none⟩ (.bool Q)).heap[g3]? = some (arrObj F)) := Lib.hid ((Below.heap_setCell wr _ _ g3 (by simp)).trans HA.out)
      have HB3 : Hid (Below g3 w (wr.setCell ⟨g3 + 1, k, none⟩ (.bool Q))) := Lib.hid (HB.out.trans (below_set (by simp) _ _))
      have HS3 : Hid ((wr.setCell ⟨g3 + 1, k, none⟩ (.bool Q)).heap.size = g3 + 2) := Lib.hid (by simp [HS.out])
      clear hl hQ hQ2
      go_wp2
      go_roundg (256 - (k + 1))
      case measure => have := HGK.out; omega
      case rel => exact ⟨k + 1, rfl, by omega, by go_num, HBl3, HA3, HB3, HS3⟩
    · obtain rfl : k = 256 := by omega
      have HBl5 : Hid (Bl wr (g3 + 1) 256 (hasF F)) := Lib.hid (HBl.out.same fun j hj => by simp [upB, hj])
      go_wp2_with fail
      refine (refRuns256_any _ _ _ HBl5.out).mono ?_
      rintro e w6 ⟨v, M, rfl, ho, hu, hb⟩
      have HO := Lib.hid (ho.mono (base' := w.heap.size) (by rw [HS.out, HG.out]; omega))
      have HU := Lib.hid (SetF.of_up HF.out.1 hu)
      have HB6 := Lib.hid (HB.out.trans (hb.mono (by rw [HS.out]; omega)))
      clear ho hu hb
      go_wp2
      go_ret
      exact ⟨_, M, rfl, HO.out, HU.out, by rw [← HG.out]; exact HB6.out⟩

end Go.Proofs.Ytlmieegemckodaa
