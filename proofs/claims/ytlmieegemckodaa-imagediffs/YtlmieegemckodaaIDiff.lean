/- The contract of image's Diff, over any world. -/
import Derived.Test.YtlmieegemckodaaIDel
namespace Go.Proofs.Ytlmieegemckodaa
open Go.RowKit
set_option linter.unusedSimpArgs false

/-- The numbers that are blocks in G and holes in F. -/
def goneF (F G : List (List Nat)) : List (List Nat) := (List.range 256).map fun k => if F.getD k [] = [] then G.getD k [] else []

theorem goneF_len (F G : List (List Nat)) : (goneF F G).length = 256 := by simp [goneF]

theorem fAt_goneF {F G : List (List Nat)} (hF : F.length = 256) (hG : G.length = 256) (x : Int) : fAt (goneF F G) x = if fAt F x = [] then fAt G x else [] := by
  by_cases h : 0 ≤ x ∧ x < 256
  · obtain ⟨k, rfl⟩ : ∃ k : Nat, x = (k : Int) := ⟨x.toNat, by omega⟩
    simp only [fAt_nat]
    have hk : k < 256 := by omega
    by_cases hq : F.getD k [] = []
    · rw [if_pos hq]
      simp only [List.getD] at hq
      simp [goneF, List.getD, hk, hq]
    · rw [if_neg hq]
      simp only [List.getD] at hq
      simp [goneF, List.getD, hk, hq]
  · rw [fAt_out (goneF_len F G) (by omega), fAt_out hF (by omega), fAt_out hG (by omega)]
    simp

theorem rds_one {w : World} {a : Option Addr} {n c : Nat} {M : List Rn} (h : RdR w a n M) (hb : Below w.heap.size w (w.alloc (.cells #[.slice a n c] 52))) : RdS (w.alloc (.cells #[.slice a n c] 52)) (some ⟨w.heap.size, 0, none⟩) 1 [M] := by
  refine ⟨rfl, fun _ => ⟨_, _, rfl, fun j hj => ⟨a, n, c, ?_, ?_⟩⟩⟩
  · obtain rfl : j = 0 := by omega
    change (w.alloc _).cell? ⟨w.heap.size, 0, none⟩ = _
    rw [World.cell?_alloc_new]
    rfl
  · obtain rfl : j = 0 := by omega
    exact h.later hb

set_option maxHeartbeats 2000000 in
set_option maxRecDepth 100000 in
theorem diff_any (w : World) (g b n g' b' n' : Nat) (F G : List (List Nat)) (h1 : Img w g b n F) (h2 : Img w g' b' n' G) (hn : n < 100000) :
    Calls Try.prog 25 #[.pointer (some ⟨g, 0, none⟩), .pointer (some ⟨g', 0, none⟩)] w fun e w' => ∃ v u M N, e = .returned (.tuple #[v, u]) ∧ OwnR w' w.heap.size 95 v M ∧ SetF (diffF F G) M ∧ OwnR w' w.heap.size 95 u N ∧ SetF (goneF F G) N ∧ Below w.heap.size w w' := by
  have H1 := Lib.hid h1
  have H2 := Lib.hid h2
  have HOk := Lib.hid (And.intro h1.ok h2.ok)
  have HA := Lib.hid (all_any w g' b' n' G h2)
  clear h1 h2
  obtain ⟨g6, hg6⟩ : ∃ g6, g6 = w.heap.size := ⟨_, rfl⟩
  have HG6 := Lib.hid hg6
  go_enter Try.func25, Try.ntmps25
  go_wp2_with fail
  refine HA.out.mono ?_
  rintro e w2 ⟨rfl, hw2⟩
  have hw2 := hw2.symm
  subst hw2
  go_wp2_with fail
  obtain ⟨w3, hw3⟩ : ∃ w3, w3 = w.alloc (.cells #[.map (some b')] 74) := ⟨_, rfl⟩
  rw [← hw3, ← hg6]
  clear hg6
  have HX3 : Hid (w3.heap[g6]? = some (.cells #[.map (some b')] 74 (0, 0))) := Lib.hid (by
    rw [hw3, HG6.out]
    exact heap_alloc_last _ _)
  have HB3 : Hid (Below w.heap.size w w3) := Lib.hid (by rw [hw3]; exact Below.alloc0 _ _)
  clear hw3
  have HC := Lib.hid (imgClone_any w3 g b n F (H1.out.later HB3.out) hn)
  refine HC.out.mono ?_
  rintro e w4 ⟨gc, bc, rfl, hgc, hbc, him, hb4⟩
  have HI4 := Lib.hid him
  have HB4 := Lib.hid (And.intro hb4 (And.intro hgc hbc))
  have hcell := him.cell
  clear him hb4 hgc hbc
  have HL6 : Hid (g6 < w3.heap.size) := Lib.hid (lt_of_block HX3.out)
  have HX4 : Hid (w4.heap[g6]? = some (.cells #[.map (some b')] 74 (0, 0))) := Lib.hid ((HB4.out.1.block g6 HL6.out).trans HX3.out)
  have HM4 : Hid (Mp w4 b' n' G) := Lib.hid ((H2.out.map.later HB3.out).later HB4.out.1)
  have HD := Lib.hid (delete_any w4 bc n g6 b' n' F G HOk.out.1 HOk.out.2 HI4.out.map HX4.out HM4.out (by
    have := HB4.out.2.2; have := (H2.out.map.later HB3.out).lt; omega) (by have := HB4.out.2.2; have := HL6.out; omega))
  go_wp2_with fail
  refine HD.out.mono ?_
  rintro e w5 ⟨rfl, hm5, hs5⟩
  have HM5 := Lib.hid hm5
  have HB5 : Hid (Below w3.heap.size w3 w5) := Lib.hid (by
    have hb := HB4.out.1
    refine ⟨hs5.os.trans hb.os, hs5.tape.trans hb.tape, hs5.output.trans hb.output, Nat.le_trans hb.size hs5.size, fun k hk => ?_⟩
    exact (hs5.block k (Nat.lt_of_lt_of_le hk hb.size) (by have := HB4.out.2.2; simp; omega)).trans (hb.block k hk))
  clear hm5 hs5 hcell
  have HBw5 : Hid (Below w.heap.size w w5) := Lib.hid (HB3.out.trans (HB5.out.mono HB3.out.size))
  have HI5 := Lib.hid (And.intro (H1.out.later HBw5.out) (H2.out.later HBw5.out))
  go_wp2_with fail
  refine (setOf_any w5 bc n (diffF F G) (diffF_ok HOk.out.1) HM5.out).mono ?_
  rintro e w6 ⟨v6, M, rfl, ho6, hM6, hb6⟩
  have HO6 := Lib.hid ho6
  have HM6 := Lib.hid hM6
  have HB6 := Lib.hid hb6
  clear ho6 hM6 hb6
  go_wp2_with fail
  refine (blocks_any w6 g' b' n' G (HI5.out.2.later HB6.out)).mono ?_
  rintro e w7 ⟨v7, N1, rfl, ho7, hN1, hb7⟩
  have HO7 := Lib.hid ho7
  have HN1 := Lib.hid hN1
  have HB7 := Lib.hid hb7
  clear ho7 hN1 hb7
  go_wp2_with fail
  refine (blocks_any w7 g b n F ((HI5.out.1.later HB6.out).later HB7.out)).mono ?_
  rintro e w8 ⟨v8, N2, rfl, ho8, hN2, hb8⟩
  have HO8 := Lib.hid ho8
  have HN2 := Lib.hid hN2
  have HB8 := Lib.hid hb8
  clear ho8 hN2 hb8
  obtain ⟨a7, c7, hv7, hr7, hc7, hl7⟩ := (HO7.out.kept HB8.out).rd
  obtain ⟨a8, c8, hv8, hr8, hc8, hl8⟩ := HO8.out.rd
  subst hv7
  subst hv8
  have HR7 := Lib.hid hr7
  have HR8 := Lib.hid hr8
  clear hr7 hc7 hl7 hr8 hc8 hl8
  have HLen := Lib.hid (And.intro (HN1.out.len HOk.out.2.1) (HN2.out.len HOk.out.1.1))
  have hb9 : Below w8.heap.size w8 (w8.alloc (.cells #[.slice a8 N2.length c8] 52)) := Below.alloc0 _ _
  have HB9 := Lib.hid hb9
  have HS9 := Lib.hid (rds_one HR8.out hb9)
  clear hb9
  go_wp2_with fail
  refine (minus_any a7 N1.length c7 N1 _ 1 1 [N2] _ (HR7.out.later HB9.out) HS9.out (by have := HLen.out; omega) (by omega) (by intro N hN; simp at hN; subst hN; have := HLen.out; omega) (HN1.out.ok HOk.out.2.1) (by intro N hN; simp at hN; subst hN; exact HN2.out.ok HOk.out.1.1) HN1.out.set).mono ?_
  rintro e w10 ⟨v10, K, rfl, ho10, hK, hKm, hb10⟩
  have HK : Hid (SetF (goneF F G) K) := Lib.hid ⟨hK, fun z => by
    rw [hKm z, HN1.out.mem, fAt_goneF HOk.out.1.1 HOk.out.2.1]
    have : (∃ N ∈ [N2], inR N z) ↔ fAt F z ≠ [] := by simp [HN2.out.mem]
    rw [this]
    by_cases h : fAt F z = [] <;> simp [h]⟩
  have HO10 := Lib.hid ho10
  have HB10 := Lib.hid hb10
  clear ho10 hK hKm hb10
  go_wp2
  go_ret2
  have hb78 := (HB7.out.trans (HB8.out.mono HB7.out.size))
  have hb79 := hb78.trans (HB9.out.mono hb78.size)
  have hb710 := hb79.trans (HB10.out.mono hb79.size)
  have hsz : w.heap.size ≤ w6.heap.size := Nat.le_trans HBw5.out.size HB6.out.size
  refine ⟨_, _, M, K, rfl, (HO6.out.kept hb710).mono HBw5.out.size, HM6.out, HO10.out.mono (Nat.le_trans hsz hb79.size), HK.out, ?_⟩
  exact (HBw5.out.trans (HB6.out.mono HBw5.out.size)).trans (hb710.mono hsz)

end Go.Proofs.Ytlmieegemckodaa
