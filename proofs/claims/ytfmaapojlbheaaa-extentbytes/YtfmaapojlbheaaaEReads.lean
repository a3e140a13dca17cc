/- ExtentReads, walked: over any world. -/
import Derived.Test.YtfmaapojlbheaaaELives
import Derived.Test.YtfmaapojlbheaaaERefRead
namespace Go.Proofs.Ytfmaapojlbheaaa
open Go.RowKit

theorem below_of_grown {w w' : World} {g B : Nat} (h : w.grownBy w' (some g)) (hg : B ≤ g) (hB : B ≤ w.heap.size) : Below B w w' :=
  ⟨h.os, h.tape, h.output, h.size, fun k hk => h.block k (by omega) (by intro e; injection e with e; omega)⟩

theorem RdR.beside {w w' : World} {a : Option Addr} {n g : Nat} {L : List Rn} (h : RdR w a n L) (hg : w.grownBy w' (some g)) (hne : ∀ b o, a = some ⟨b, o, none⟩ → 0 < n → b ≠ g) : RdR w' a n L := by
  refine ⟨h.1, fun hn => ?_⟩
  obtain ⟨b, o, rfl, hc⟩ := h.2 hn
  have hb := hne b o rfl hn
  exact ⟨b, o, rfl, fun j hj => ⟨hg.cell (hc j hj).1 (by simpa using hb), hg.cell (hc j hj).2 (by simpa using hb)⟩⟩

theorem rNum_left (E : Nat) (l : List Nat) (most : Nat) : (rNum E l most).2.2.length ≤ l.length := by
  unfold rNum
  split
  · exact Nat.le_refl _
  · split
    · exact Nat.le_refl _
    · split
      · exact Nat.le_refl _
      · simp

theorem rdRuns_len (m : Nat) : ∀ (k last : Nat) (acc : List Rn) (l : List Nat), (∀ x ∈ l, x < 256) → (rdRuns m k last acc l).2.1.length ≤ acc.length + l.length := by
  intro k
  induction k with
  | zero => intro last acc l _; simp [rdRuns]
  | succ k ih =>
    intro last acc l hb
    obtain ⟨⟨x, E1, l1⟩, h1⟩ : ∃ p, rNum 0 l (m - last) = p := ⟨_, rfl⟩
    obtain ⟨⟨y, E2, l2⟩, h2⟩ : ∃ p, rNum E1 l1 (m - (last + x)) = p := ⟨_, rfl⟩
    by_cases hE : E2 = 0
    · subst hE
      by_cases hf : y = 0 ∨ (0 < acc.length ∧ x = 0)
      · rw [rdRuns_form h1 h2 hf]; simp
      · rw [rdRuns_ok h1 h2 hf]
        have hE1 : E1 = 0 := by
          rcases Nat.eq_zero_or_pos E1 with h | h
          · exact h
          · have := rNum_err0 (E := E1) (l := l1) (most := m - (last + x)) (by omega)
            rw [h2] at this
            simp only at this
            omega
        have hb1 : ∀ z ∈ l1, z < 256 := by have := rNum_bytes (E := 0) (most := m - last) hb; rw [h1] at this; exact this
        have hb2 : ∀ z ∈ l2, z < 256 := by have := rNum_bytes (E := E1) (most := m - (last + x)) hb1; rw [h2] at this; exact this
        have g1 : l1.length < l.length := by have := rNum_lt (l := l) (most := m - last) hb; rw [h1] at this; exact this hE1
        have g2 : l2.length ≤ l1.length := by have := rNum_left E1 l1 (m - (last + x)); rw [h2] at this; exact this
        have := ih (last + x + y) (acc ++ [⟨((last + x : Nat) : Int), ((last + x + y : Nat) : Int)⟩]) l2 hb2
        simp only [List.length_append, List.length_cons, List.length_nil] at this
        omega
    · rw [rdRuns_err h1 h2 hE]; simp

theorem rdSet_len (E : Nat) (l : List Nat) (m : Nat) (hb : ∀ x ∈ l, x < 256) : (rdSet E l m).2.1.length ≤ l.length := by
  unfold rdSet
  split
  · simp
  · have h1 := rdRuns_len m (rNum E l m).1 0 [] (rNum E l m).2.2 (rNum_bytes hb)
    have h2 := rNum_left E l m
    simp only [List.length_nil] at h1
    omega

set_option maxHeartbeats 4000000 in
set_option maxRecDepth 100000 in
theorem extentReads_walk (a : Option Addr) (n c : Nat) (l : List Nat) (k : Int) (w : World) (h : Rd w a n l) (hc : n ≤ c) :
    Calls Try.prog 5 #[.slice a n c, .int .i64 k] w fun e w' => e = .returned (.bool true) ∧ Below w.heap.size w w' := by
  have HR := Lib.hid h
  clear h
  by_cases hn : n ≤ 1000
  · have hn' : decide ((1000 : Int) < (n : Int)) = false := by simp; omega
    obtain ⟨K, hK⟩ : ∃ K, K = Int.tmod k 100000 := ⟨_, rfl⟩
    have hK1 : -100000 < K ∧ K < 100000 := by
      rw [hK]
      have h1 := Int.tmod_lt_of_pos k (b := 100000) (by omega)
      have h2 := Int.lt_tmod_of_pos k (b := 100000) (by omega)
      omega
    obtain ⟨m, hm⟩ : ∃ m : Nat, max K 0 = (m : Int) := ⟨(max K 0).toNat, by omega⟩
    have hm2 : m ≤ 1099511627776 := by omega
    have HM := Lib.hid (And.intro hm hm2)
    have HK1 := Lib.hid hK1
    have HK := Lib.hid hK
    clear hm hm2 hK1 hK
    go_enter Try.func5, Try.ntmps5
    go_wp2_with fail
    refine (lives_any w).mono ?_
    rintro e w1 ⟨rfl, hb1⟩
    have HB1 := Lib.hid hb1
    clear hb1
    go_wp2_with fail
    refine (open_any a n c l w1 (HR.out.later HB1.out) (by omega)).mono ?_
    rintro e w2 ⟨g, rfl, hgl, hrd, hb2⟩
    have HB2 := Lib.hid hb2
    have HRd := Lib.hid hrd
    have hgl' : w.heap.size ≤ g := by have := HB1.out.size; omega
    clear hb2 hrd
    go_wp2_with fail
    rw [← HK.out]
    refine (read_any w2 g 0 l K m HM.out.1 HM.out.2 HRd.out).mono ?_
    rintro e w3 ⟨v, rfl, ho, _, hg3⟩
    obtain ⟨⟨R1, L, R3⟩, hR⟩ : ∃ R, R = rdSet 0 l m := ⟨_, rfl⟩
    rw [← hR] at ho ⊢
    dsimp only at ho ⊢
    obtain ⟨a1, c1, rfl, hr, _, hlo⟩ := ho.rd
    have HRs := Lib.hid hR
    have HR3 := Lib.hid hr
    have HLo := Lib.hid hlo
    have HB3 : Hid (Below w.heap.size w w3) := Lib.hid ((HB1.out.trans (HB2.out.mono HB1.out.size)).trans (below_of_grown hg3 hgl' (Nat.le_trans HB1.out.size HB2.out.size)))
    obtain ⟨q, hq⟩ : ∃ q, q = L.length := ⟨_, rfl⟩
    rw [← hq] at HR3 ⊢
    have HQ := Lib.hid hq
    have hqn : q ≤ 1000 := by
      have h1 := rdSet_len 0 l m HR.out.2.1
      rw [← hR] at h1
      simp only at h1
      have h2 := HR.out.1
      omega
    clear ho hR hr hlo hg3 hq
    go_wp2_with fail
    have hr4 : Rdr (w3.alloc (.cells #[.slice a n c, .int .i64 0] 54)) 54 w3.heap.size 0 l :=
      ⟨a, n, c, heap_alloc_new w3 _, (HR.out.later HB3.out).later (Below.alloc0 _ _), hc, by omega⟩
    obtain ⟨w4, hw4⟩ : ∃ w4, w4 = w3.alloc (.cells #[.slice a n c, .int .i64 0] 54) := ⟨_, rfl⟩
    have HB4 : Hid (Below w3.heap.size w3 w4) := Lib.hid (by rw [hw4]; exact Below.alloc0 _ _)
    rw [← hw4] at hr4 ⊢
    clear hw4
    have HRR := Lib.hid (refRead_any w4 w3.heap.size l K m HM.out.1 HM.out.2 (by have := HK1.out; omega) hr4)
    clear hr4
    refine HRR.out.mono ?_
    rintro e w5 ⟨v, rfl, ho, hg5⟩
    rw [← HRs.out] at ho ⊢
    dsimp only at ho ⊢
    obtain ⟨a2, c2, rfl, hr2, _, hlo2⟩ := ho.rd
    clear hlo2
    rw [← HQ.out] at hr2 ⊢
    have HR5 : Hid (RdR w5 a2 q L) := Lib.hid hr2
    have HS5 : Hid (RdR w5 a1 q L) := Lib.hid ((HR3.out.later HB4.out).beside hg5 (fun b o e _ => by have := (HLo.out b o e).2.1; omega))
    have HB5 : Hid (Below w.heap.size w w5) := Lib.hid ((HB3.out.trans (HB4.out.mono HB3.out.size)).trans (below_of_grown hg5 HB3.out.size (Nat.le_trans HB3.out.size HB4.out.size)))
    clear ho hr2 hg5 HRR HR3 HLo HB3 HB4 HRs HRd HB1 HB2 HM HK1 HK
    go_wp2
    go_loopg [49] q (fun kk i wr => ∃ j : Nat, kk = q - j ∧ j ≤ q ∧ i = .int .i64 (j : Int) ∧ Hid (Below w5.heap.size w5 wr))
    case atStart => exact ⟨0, rfl, Nat.zero_le _, rfl, Lib.hid (Below.refl _ _)⟩
    case round =>
      obtain ⟨j, hkk, hj, rfl, HBr⟩ := hrel
      have HKK := Lib.hid hkk
      clear hkk
      by_cases hlt : j < q
      · obtain ⟨b1, o1, r1, rfl, hre1, _, e0, e1⟩ := HS5.out.at_ HBr.out hlt
        obtain ⟨b2, o2, r2, rfl, hre2, hbl2, d0, d1⟩ := HR5.out.at_ HBr.out hlt
        have hrr : r2 = r1 := by rw [hre1, hre2]
        subst hrr
        obtain ⟨x, y⟩ := r2
        simp only at e0 e1 d0 d1
        clear hre1 hre2
        go_upto_region 11 with fail
        obtain ⟨w6, hw6⟩ : ∃ w6, w6 = wr.alloc (.cells #[.int .i64 x, .int .i64 y] 37) := ⟨_, rfl⟩
        rw [← hw6]
        have hb6 : Below wr.heap.size wr w6 := by rw [hw6]; exact Below.alloc0 _ _
        have hbx : BoxR w6 wr.heap.size ⟨x, y⟩ := by rw [hw6]; exact BoxR.new wr x y 37
        obtain ⟨f0, f1⟩ := hbx
        simp only at f0 f1
        have d0' : w6.cell? ⟨b2, o2 + j * 2, none⟩ = some (.int .i64 x) := (hb6.cell (World.block_lt_of_cell? wr _ d0)).trans d0
        have d1' : w6.cell? ⟨b2, o2 + j * 2 + 1, none⟩ = some (.int .i64 y) := (hb6.cell (World.block_lt_of_cell? wr _ d1)).trans d1
        have HB6 : Hid (Below w5.heap.size w5 w6) := Lib.hid (HBr.out.trans (hb6.mono HBr.out.size))
        clear hw6 hb6 e0 e1 d0 d1
        have t1 : (x != x) = false := by simp
        have t2 : (y != y) = false := by simp
        go_quiet (fail)
        go_wp2
        go_roundg (q - (j + 1))
        case measure => have := HKK.out; omega
        case rel => exact ⟨j + 1, rfl, by omega, by go_num, Lib.hid (HB6.out.trans ⟨rfl, rfl, rfl, Nat.le_refl _, fun _ _ => rfl⟩)⟩
      · go_wp2
        go_ret
        exact ⟨rfl, HB5.out.trans (HBr.out.mono HB5.out.size)⟩
  · have hn' : (1000 : Int) < (n : Int) := by omega
    clear hn
    go_enter Try.func5, Try.ntmps5
    go_wp2_with fail
    refine (lives_any w).mono ?_
    rintro e w1 ⟨rfl, hb1⟩
    have HB1 := Lib.hid hb1
    clear hb1
    go_wp2_with fail
    refine (lives_any w1).mono ?_
    rintro e w2 ⟨rfl, hb2⟩
    have HB2 := Lib.hid hb2
    clear hb2
    go_wp2
    go_ret
    exact ⟨rfl, HB1.out.trans (HB2.out.mono HB1.out.size)⟩

end Go.Proofs.Ytfmaapojlbheaaa
