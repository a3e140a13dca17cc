/- The contract of an image's Digest, over any world. -/
import Derived.Test.YtlmieegemckodaaIBytes
import Derived.Test.YtlmieegemckodaaDOfAll
import Derived.Test.YtlmieegemckodaaIRead
namespace Go.Proofs.Ytlmieegemckodaa
open Go.RowKit Go.Shelf
set_option linter.unusedSimpArgs false

theorem bytesF_len {F : List (List Nat)} {M : List Rn} (hF : okF F) (h : SetF F M) : (bytesF F M).length ≤ 10762 := by
  have h1 := setNums_len h hF.1
  have h2 := flat_len hF (numsR M)
  have h3 := numsR_lt h hF.1
  unfold bytesF
  rw [List.length_append]
  omega

theorem tEnc_bytes_len {F : List (List Nat)} {M : List Rn} (hF : okF F) (h : SetF F M) : (tEnc (bytesF F M)).length ≤ 3000000 := by
  have h1 := bytesF_len hF h
  have h2 := vEnc_len10 (n := (bytesF F M).length) (by omega)
  unfold tEnc
  rw [List.length_append]
  omega

theorem imgDigest_any (w : World) (g b q : Nat) (F : List (List Nat)) (h : Img w g b q F) (hF : okF F) :
    Calls Try.prog 24 #[.pointer (some ⟨g, 0, none⟩)] w fun e w' => ∃ M, SetF F M ∧ e = .returned (.agg #[.int .u64 ((tEnc (bytesF F M)).length : Int), .int .u64 ((dSum (tEnc (bytesF F M)) : Nat) : Int)]) ∧ Below w.heap.size w w' := by
  have HA := Lib.hid (imgBytes_any (w.alloc (.cells #[.int .u64 0, .int .u64 0] 58)) g b q F (h.later (Below.alloc0 _ _)))
  clear h
  go_enter Try.func24, Try.ntmps24
  go_wp2_with fail
  refine HA.out.mono ?_
  rintro e w2 ⟨v, M, rfl, hsf, ho, hb⟩
  obtain ⟨X, hX⟩ : ∃ X, X = tEnc (bytesF F M) := ⟨_, rfl⟩
  rw [← hX] at ho
  obtain ⟨xa, xc, rfl, hrx, _⟩ := ho.sl
  have hl : X.length ≤ 3000000 := by
    rw [hX]
    exact tEnc_bytes_len hF hsf
  obtain ⟨g2, hg2⟩ : ∃ g2, g2 = w.heap.size := ⟨_, rfl⟩
  obtain ⟨xl, hxl⟩ : ∃ xl, xl = X.length := ⟨_, rfl⟩
  rw [← hxl] at hrx hl ⊢
  have HD := Lib.hid (dgOf_any xa xl xc X w2 hrx hl)
  obtain ⟨S, hS⟩ : ∃ S, S = dSum X := ⟨_, rfl⟩
  rw [← hS] at HD
  have hblk : w2.heap[g2]? = some (.cells #[.int .u64 0, .int .u64 0] 58 (0, 0)) := by rw [hg2]; exact (hb.block _ (by simp)).trans (heap_alloc_last _ _)
  have hlt : g2 < w2.heap.size := (Array.getElem?_eq_some_iff.1 hblk).1
  have HE : Hid (tEnc (bytesF F M) = X ∧ X.length = xl ∧ dSum X = S ∧ SetF F M) := Lib.hid ⟨hX.symm, hxl.symm, hS.symm, hsf⟩
  have HB2 : Hid (Below g2 w w2) := Lib.hid (by rw [hg2]; exact (Below.alloc0 _ _).trans (hb.mono (by simp)))
  have HG := Lib.hid hg2
  rw [← hg2]
  clear hsf ho hb hX hrx hl hxl hS hg2
  go_wp2_with fail
  refine HD.out.mono ?_
  rintro e w3 ⟨rfl, hw3⟩
  have hb3 : w3.heap[g2]? = some (.cells #[.int .u64 0, .int .u64 0] 58 (0, 0)) := by rw [hw3]; exact (Below.heap_alloc _ _ _ hlt).trans hblk
  have c0 : w3.cell? ⟨g2, 0, none⟩ = some (.int .u64 0) := by rw [cell_of_row w3 g2 0 _ _ _ hb3]; rfl
  have c1 : w3.cell? ⟨g2, 1, none⟩ = some (.int .u64 0) := by rw [cell_of_row w3 g2 1 _ _ _ hb3]; rfl
  have f0 : w3.frozen? ⟨g2, 0, none⟩ = false := by simp [World.frozen?, hb3]
  have f1 : w3.frozen? ⟨g2, 1, none⟩ = false := by simp [World.frozen?, hb3]
  have HB3 : Hid (Below g2 w w3) := Lib.hid (by rw [hw3]; exact HB2.out.trans ((Below.alloc0 _ _).mono (by omega)))
  have HC3 := Lib.hid hb3
  clear hw3 hb3 hblk
  go_wp2
  have e4 : (w3.setCell ⟨g2, 0, none⟩ (.int .u64 (xl : Int))).setCell ⟨g2, 1, none⟩ (.int .u64 (S : Int)) = put w3 g2 (.cells #[.int .u64 (xl : Int), .int .u64 (S : Int)] 58 (0, 0)) := by
    rw [set_put _ HC3.out, set_put _ (put_same HC3.out), put_put]
    rfl
  rw [e4]
  obtain ⟨h1, h2, h3, h4⟩ := HE.out
  refine bodyPost_ret (v := .agg #[.int .u64 (xl : Int), .int .u64 (S : Int)]) ?_ rfl ⟨M, h4, ?_, ?_⟩
  · rw [results_cell1 (p := 2) (ty := 58) rfl]
    show ((asAddr (.pointer (some ⟨g2, 0, none⟩))).run Try.prog _).andThen _ = _
    simp only [asAddr, Sem.run_pure, Result.andThen]
    exact run_loadVar_row _ g2 _ 58 _ _ _ (put_same HC3.out) Try.underlying58 rfl (by kernel_rfl)
  · rw [h1, h2, h3]
  · rw [← HG.out]
    exact HB3.out.trans (put_below _ (Nat.le_refl _))

end Go.Proofs.Ytlmieegemckodaa

/- The bytes of an image are read as that image: plainly. -/
namespace Go.Proofs.Ytlmieegemckodaa
open Go.RowKit

theorem rdSet_putR {m : Nat} (hm : m ≤ 1099511627776) {M : List Rn} (rest : List Nat) (hM : Pos M) (hl : M.length ≤ m) (hb : ∀ r ∈ M, r.t ≤ m) : rdSet 0 ((setNums M).flatMap vEnc ++ rest) m = (0, M, 0, rest) := by
  unfold setNums
  rw [List.flatMap_cons, List.append_assoc, rdSet_ok (rNum_put' M.length _ m (by omega) hl)]
  have := rdRuns_put m hm rest M 0 [] hb (by have h : Canon (-1) M := hM; simpa using h) (by simp)
  simpa using this

theorem flat32 {F : List (List Nat)} (hF : okF F) (pre : List Int) (h : ∀ x ∈ pre, fAt F x ≠ []) : (pre.flatMap (fAt F)).length = 32 * pre.length := by
  induction pre with
  | nil => rfl
  | cons x r ih =>
    rw [List.flatMap_cons, List.length_append, ih fun y hy => h y (by simp [hy]), List.length_cons]
    rcases hF.at_ x with h0 | h0
    · exact absurd h0 (h x (by simp))
    · rw [h0.1]; omega

theorem fill_back {F : List (List Nat)} (hF : okF F) : ∀ (pre : List Int) (G : List (List Nat)), G.length = 256 → (∀ x ∈ pre, fAt F x ≠ []) → pre.Nodup →
    (fillN pre (pre.flatMap (fAt F)) G).length = 256 ∧ ∀ i : Int, fAt (fillN pre (pre.flatMap (fAt F)) G) i = if i ∈ pre then fAt F i else fAt G i
  | [], G, hG, _, _ => ⟨hG, fun i => by simp [fillN]⟩
  | x :: r, G, hG, h, hn => by
    have hx := fAt_in hF.1 (h x (by simp))
    have hB : okB (fAt F x) := by
      rcases hF.at_ x with h0 | h0
      · exact absurd h0 (h x (by simp))
      · exact h0
    have e1 : ((x :: r).flatMap (fAt F)).take 32 = fAt F x := by
      rw [List.flatMap_cons, List.take_append_of_le_length (by rw [hB.1]; omega), List.take_of_length_le (by rw [hB.1]; omega)]
    have e2 : ((x :: r).flatMap (fAt F)).drop 32 = r.flatMap (fAt F) := by
      rw [List.flatMap_cons, List.drop_append_of_le_length (by rw [hB.1]; omega), List.drop_of_length_le (by rw [hB.1]; omega), List.nil_append]
    rw [fillN, e1, e2]
    obtain ⟨k1, k2⟩ := fill_back hF r (G.set x.toNat (fAt F x)) (by rw [List.length_set]; exact hG) (fun y hy => h y (by simp [hy])) (List.nodup_cons.1 hn).2
    refine ⟨k1, fun i => ?_⟩
    rw [k2 i, fAt_set G x.toNat _ (by omega) i, show ((x.toNat : Nat) : Int) = x by omega]
    by_cases h1 : i ∈ r
    · rw [if_pos h1, if_pos (by simp [h1])]
    · rw [if_neg h1]
      by_cases h2 : i = x
      · rw [if_pos h2, if_pos (by simp [h2]), h2]
      · rw [if_neg h2, if_neg (by simp [h1, h2])]

theorem encs2_len (L : List Nat) (h : ∀ y ∈ L, y < 16384) : (L.flatMap vEnc).length ≤ 2 * L.length := by
  induction L with
  | nil => simp
  | cons x r ih =>
    have h1 := vEnc_len 1 x (h x (by simp))
    have h2 := ih fun y hy => h y (by simp [hy])
    rw [List.flatMap_cons, List.length_append, List.length_cons]
    omega

theorem bytesF_len9 {F : List (List Nat)} {M : List Rn} (hF : okF F) (h : SetF F M) : (bytesF F M).length ≤ 9216 := by
  have h1 := h.len hF.1
  have h2 := encs2_len (setNums M) (by
    intro y hy
    simp only [setNums, List.mem_cons] at hy
    rcases hy with rfl | hy
    · omega
    · have := numsGo_le M 0 (by omega) (h.ends hF.1) y hy
      omega)
  have h4 : (setNums M).length = 1 + 2 * M.length := by simp [setNums, numsGo_length]; omega
  have h5 := flat_len hF (numsR M)
  have h6 := numsR_lt h hF.1
  unfold bytesF
  rw [List.length_append]
  omega

theorem rByt_put (B : List Nat) (hB : B.length ≤ 9216) : rByt 0 (tEnc B) 9216 = (B, 0, []) := by
  have h1 := rNum_put' B.length B 9216 (by omega) hB
  unfold rByt tEnc
  rw [h1]
  simp

/-- An image's own bytes are read as it. -/
theorem imgRd_put {F : List (List Nat)} {M : List Rn} (hF : okF F) (h : SetF F M) : imgRd (tEnc (bytesF F M)) = (0, F) := by
  have hn : ∀ x ∈ numsR M, fAt F x ≠ [] := fun x hx => (h.mem x).1 (mem_numsR.1 hx)
  have hd : (numsR M).Nodup := (numsR_sorted (h.pos hF.1)).imp (fun {a b} hab => by omega)
  have hs : rdSet 0 (bytesF F M) 256 = (0, M, 0, (numsR M).flatMap (fAt F)) := rdSet_putR (by omega) _ (h.pos hF.1) (by have := h.len hF.1; omega) (fun r hr => by have := h.ends hF.1 r hr; omega)
  rw [imgRd_ok (rByt_put _ (bytesF_len9 hF h)) hs (flat32 hF _ hn)]
  obtain ⟨k1, k2⟩ := fill_back hF (numsR M) holes List.length_replicate hn hd
  rw [F_ext k1 hF.1 fun i => ?_]
  rw [k2 i, fAt_holes]
  by_cases h1 : i ∈ numsR M
  · rw [if_pos h1]
  · rw [if_neg h1]
    apply Classical.byContradiction
    intro h2
    exact h1 (mem_numsR.2 ((h.mem i).2 fun e => h2 e.symm))

end Go.Proofs.Ytlmieegemckodaa
