/- PowerActs, run: any calls, one behind the other. -/
import Derived.Test.YtplboipmepmgkaaPowLives
import Derived.Deep.DeepCutAuto
namespace Go.Proofs.Ytplboipmepmgkaa
open Go.RowKit

/-- The slice '.slice a n _' reads as the calls L: a kind, and two numbers. -/
def RdA (w : World) (a : Option Addr) (n : Nat) (L : List (Nat × Int × Int)) : Prop :=
  L.length = n ∧ (∀ x ∈ L, x.1 < 256 ∧ x.2.1 < 9223372036854775808) ∧ (0 < n → ∃ b o, a = some ⟨b, o, none⟩ ∧ ∀ j, j < n → w.cell? ⟨b, o + j * 3, none⟩ = some (.int .u8 (((L.getD j (0, 0, 0)).1 : Nat) : Int)) ∧ w.cell? ⟨b, o + j * 3 + 1, none⟩ = some (.int .i64 (L.getD j (0, 0, 0)).2.1) ∧ w.cell? ⟨b, o + j * 3 + 2, none⟩ = some (.int .i64 (L.getD j (0, 0, 0)).2.2))

theorem RdA.later {w w' : World} {a : Option Addr} {n : Nat} {L : List (Nat × Int × Int)} (h : RdA w a n L) (hb : Below w.heap.size w w') : RdA w' a n L := by
  refine ⟨h.1, h.2.1, fun hn => ?_⟩
  obtain ⟨b, o, rfl, hc⟩ := h.2.2 hn
  refine ⟨b, o, rfl, fun j hj => ?_⟩
  have hlt : b < w.heap.size := World.block_lt_of_cell? w _ (hc j hj).1
  exact ⟨(hb.cell (p := ⟨b, o + j * 3, none⟩) hlt).trans (hc j hj).1, (hb.cell (p := ⟨b, o + j * 3 + 1, none⟩) hlt).trans (hc j hj).2.1, (hb.cell (p := ⟨b, o + j * 3 + 2, none⟩) hlt).trans (hc j hj).2.2⟩

/-- The plan as the law keeps it. -/
def Pw.planN (s : Pw) : Int := match s.plan with | some (k, _) => (k : Int) | none => -1

/-- The torn bytes as the law keeps them: they count while there is a plan. -/
def Pw.tornIs (s : Pw) (t : Int) : Prop := ∀ k t', s.plan = some (k, t') → t' = t

theorem planN_planned (s : Pw) (a t : Int) : (s.planned a t).planN = max a (-1) := by
  by_cases h : 0 ≤ a
  · rw [planned_yes _ _ h]; simp only [Pw.planN]; omega
  · rw [planned_no _ _ (by omega)]; simp only [Pw.planN]; omega

theorem torn_planned (s : Pw) (a t : Int) : (s.planned a t).tornIs t := by
  intro k t' e
  by_cases h : 0 ≤ a
  · rw [planned_yes _ _ h] at e; simp at e; exact e.2.symm
  · rw [planned_no _ _ (by omega)] at e; cases e

theorem Pw.ok.planned {s : Pw} (h : s.ok) {a : Int} (t : Int) (ha : a < 9223372036854775808) : (s.planned a t).ok := by
  refine ⟨fun k t' e => ?_, h.2⟩
  by_cases h0 : 0 ≤ a
  · rw [planned_yes _ _ h0] at e; simp at e; omega
  · rw [planned_no _ _ (by omega)] at e; cases e

theorem planned_on (s : Pw) (a t : Int) : (s.planned a t).on = s.on := rfl
theorem planned_count (s : Pw) (a t : Int) : (s.planned a t).count = s.count := rfl
theorem up_on (s : Pw) : s.up.on = true := rfl
theorem up_count (s : Pw) : s.up.count = s.count := rfl

set_option maxHeartbeats 2000000 in
set_option maxRecDepth 100000 in
theorem powerActs_walk (w : World) (a : Option Addr) (n c : Nat) (L : List (Nat × Int × Int)) (h : RdA w a n L) (hn : n ≤ 200) :
    Calls Try.prog 3 #[.slice a n c] w fun e w' => e = .returned (.bool true) ∧ Below w.heap.size w w' := by
  have HR := Lib.hid h
  clear h
  have hL := Lib.hid (lives_any w)
  obtain ⟨w1, h1⟩ : ∃ w1, w1 = w.alloc (powObj ⟨false, none, 2⟩) := ⟨_, rfl⟩
  have hs1 : w1.heap.size = w.heap.size + 1 := by rw [h1]; simp
  have HB1 : Hid (Below w.heap.size w w1) := by rw [h1]; exact Lib.hid ((Below.refl _ _).alloc (Nat.le_refl _) _)
  rw [← h1] at hL
  have hN := Lib.hid (new_any w1)
  obtain ⟨w2, h2⟩ : ∃ w2, w2 = w1.alloc (powObj ⟨true, none, 0⟩) := ⟨_, rfl⟩
  obtain ⟨g, hg⟩ : ∃ g, g = w1.heap.size := ⟨_, rfl⟩
  have HP2 : Hid (Pow w2 g ⟨true, none, 0⟩) := by rw [h2, hg]; exact Lib.hid (pow_new w1 _)
  have HB2 : Hid (Below w.heap.size w w2) := by rw [h2]; exact Lib.hid (HB1.out.alloc HB1.out.size _)
  have HG : Hid (w.heap.size < g) := Lib.hid (by omega)
  rw [← h2, ← hg] at hN
  clear h1 h2 hg hs1
  go_enter Try.func3, Try.ntmps3
  go_wp2_with fail
  refine hL.out.mono ?_
  rintro e w' ⟨rfl, rfl⟩
  go_wp2_with fail
  refine hN.out.mono ?_
  rintro e w' ⟨rfl, rfl⟩
  clear hL hN HB1
  go_wp2
  go_loopg [4, 5, 6, 7, 25] n (fun k on plan torn cnt i wr => ∃ (j : Nat) (s : Pw) (t : Int), k = n - j ∧ j ≤ n ∧ i = .int .i64 (j : Int) ∧ on = .bool s.on ∧ plan = .int .i64 s.planN ∧ torn = .int .i64 t ∧ cnt = .int .i64 (s.count : Int) ∧ Hid (Pow wr g s ∧ s.tornIs t ∧ s.ok ∧ s.count ≤ j ∧ Below w.heap.size w wr))
  case atStart => exact ⟨0, ⟨true, none, 0⟩, 0, rfl, Nat.zero_le _, rfl, rfl, rfl, rfl, rfl, Lib.hid ⟨HP2.out, (by intro k t' e; cases e), ok_small (.inl rfl) (by decide), Nat.le_refl _, HB2.out⟩⟩
  case round =>
    obtain ⟨j, s, t, hk, hj, rfl, rfl, rfl, rfl, rfl, HI⟩ := hrel
    have HK := Lib.hid hk
    clear hk
    by_cases hlt : j < n
    · obtain ⟨b, o, rfl, hc⟩ := (HR.out.later HI.out.2.2.2.2).2.2 (by omega)
      obtain ⟨e0, e1, e2⟩ := hc j hlt
      obtain ⟨K, hK⟩ : ∃ K, K = (L.getD j (0, 0, 0)).1 := ⟨_, rfl⟩
      obtain ⟨N, hN⟩ : ∃ N, N = (L.getD j (0, 0, 0)).2.1 := ⟨_, rfl⟩
      obtain ⟨T, hT⟩ : ∃ T, T = (L.getD j (0, 0, 0)).2.2 := ⟨_, rfl⟩
      rw [← hK] at e0
      rw [← hN] at e1
      rw [← hT] at e2
      have hb : K < 256 ∧ N < 9223372036854775808 := by
        have hjl : j < L.length := by rw [HR.out.1]; exact hlt
        have := HR.out.2.1 (L.getD j (0, 0, 0)) (by simp [List.getD, hjl])
        rw [hK, hN]; exact this
      have HNB := Lib.hid hb.2
      have hK256 := hb.1
      clear hc hK hN hT hb
      have hcase : (K : Int) % 3 = 1 ∨ (K : Int) % 3 = 2 ∨ (K : Int) % 3 = 0 := by omega
      obtain ⟨W1, hW1⟩ : ∃ W1, W1 = wr.alloc (.cells #[.int .u8 (K : Int), .int .i64 N, .int .i64 T] 27) := ⟨_, rfl⟩
      have HW1 := Lib.hid hW1
      obtain ⟨q, hq⟩ : ∃ q, q = wr.heap.size := ⟨_, rfl⟩
      have HQ := Lib.hid hq
      have q1 : W1.cell? ⟨q, 1, none⟩ = some (.int .i64 N) := by rw [hW1, hq]; simp [go_sem]
      have q2 : W1.cell? ⟨q, 2, none⟩ = some (.int .i64 T) := by rw [hW1, hq]; simp [go_sem]
      have HP1 : Hid (Pow W1 g s) := by rw [hW1]; exact Lib.hid (HI.out.1.kept (World.grownBy_alloc wr _ none) (by simp))
      have HQG : Hid (q ≠ g) := Lib.hid (by have := HI.out.1.lt; omega)
      have HB1 : Hid (Below w.heap.size w W1) := by rw [hW1]; exact Lib.hid (HI.out.2.2.2.2.alloc HI.out.2.2.2.2.size _)
      clear hW1 hq
      rcases hcase with hk | hk | hk
      · clear hK256
        have HC := plan_any W1 g s N T HP1.out
        obtain ⟨W2, hW2⟩ : ∃ W2, W2 = put W1 g (powObj (s.planned N T)) := ⟨_, rfl⟩
        rw [← hW2] at HC
        have HCC := Lib.hid HC
        have HP2 : Pow W2 g (s.planned N T) := by rw [hW2]; exact HP1.out.put _
        have p1 : W2.cell? ⟨q, 1, none⟩ = some (.int .i64 N) := by rw [hW2]; exact (World.cell?_of_block (w := W1) (put_other HQG.out)).trans q1
        have p2 : W2.cell? ⟨q, 2, none⟩ = some (.int .i64 T) := by rw [hW2]; exact (World.cell?_of_block (w := W1) (put_other HQG.out)).trans q2
        have HB2 : Hid (Below w.heap.size w W2) := by rw [hW2]; exact Lib.hid (HB1.out.trans (put_below _ (Nat.le_of_lt HG.out)))
        clear HC hW2 
        go_wp2_with fail
        rw [← HW1.out, ← HQ.out]
        refine HCC.out.mono ?_
        rintro e w' ⟨rfl, rfl⟩
        go_upto_region 29 with fail
        have HP2' := Lib.hid HP2
        clear HP2 e0 e1 e2 q1 q2
        go_region
        obtain ⟨W3, hW3⟩ : ∃ W3, W3 = w'.drew := ⟨_, rfl⟩
        rw [← hW3]
        have HP3 : Hid (Pow W3 g (s.planned N T)) := by rw [hW3]; exact HP2'
        have HB3 : Hid (Below w.heap.size w W3) := by rw [hW3]; exact Lib.hid HB2.out.drew
        clear hW3 p1 p2
        go_wp2_with fail
        refine (on_any W3 g _ HP3.out).mono ?_
        rintro e w3 ⟨rfl, rfl⟩
        rw [planned_on]
        go_wp2_with fail
        refine (count_any w3 g _ HP3.out).mono ?_
        rintro e w4 ⟨rfl, rfl⟩
        rw [planned_count]
        go_wp2
        go_roundg (n - (j + 1))
        case measure => have := HK.out; omega
        case rel => exact ⟨j + 1, s.planned N T, T, rfl, by omega, by go_num, rfl, by rw [planN_planned], rfl, rfl, Lib.hid ⟨HP3.out, torn_planned s N T, HI.out.2.2.1.planned T HNB.out, Nat.le_succ_of_le HI.out.2.2.2.1, HB3.out⟩⟩
      · clear hK256
        have HC := up_any W1 g s HP1.out
        obtain ⟨W2, hW2⟩ : ∃ W2, W2 = put W1 g (powObj s.up) := ⟨_, rfl⟩
        rw [← hW2] at HC
        have HCC := Lib.hid HC
        have HP2 : Hid (Pow W2 g s.up) := by rw [hW2]; exact Lib.hid (HP1.out.put _)
        have HB2 : Hid (Below w.heap.size w W2) := by rw [hW2]; exact Lib.hid (HB1.out.trans (put_below _ (Nat.le_of_lt HG.out)))
        clear HC hW2
        go_wp2_with fail
        rw [← HW1.out]
        refine HCC.out.mono ?_
        rintro e w' ⟨rfl, rfl⟩
        clear e0 e1 e2 q1 q2
        go_wp2_with fail
        refine (on_any _ g _ HP2.out).mono ?_
        rintro e w3 ⟨rfl, rfl⟩
        rw [up_on]
        go_wp2_with fail
        refine (count_any _ g _ HP2.out).mono ?_
        rintro e w4 ⟨rfl, rfl⟩
        rw [up_count]
        go_wp2
        go_roundg (n - (j + 1))
        case measure => have := HK.out; omega
        case rel => exact ⟨j + 1, s.up, t, rfl, by omega, by go_num, rfl, rfl, rfl, rfl, Lib.hid ⟨HP2.out, (by intro k t' e; cases e), ⟨(by intro k t' e; cases e), HI.out.2.2.1.2⟩, Nat.le_succ_of_le HI.out.2.2.2.1, HB2.out⟩⟩
      · clear hK256
        have HCW := write_any W1 g s N HP1.out HI.out.2.2.1
        have hC : s.count ≤ j := HI.out.2.2.2.1
        have HT := Lib.hid HI.out.2.1
        have HOK := Lib.hid HI.out.2.2.1
        clear HI
        obtain ⟨so, sp, sc⟩ := s
        simp only at hC
        by_cases hN0 : N < 0
        · have HC := HCW
          rw [write_arg _ hN0] at HC
          clear HCW
          obtain ⟨W2, hW2⟩ : ∃ W2, W2 = put W1 g (powObj ⟨so, sp, sc⟩) := ⟨_, rfl⟩
          rw [← hW2] at HC
          have HCC := Lib.hid HC
          have HP2 : Hid (Pow W2 g ⟨so, sp, sc⟩) := by rw [hW2]; exact Lib.hid (HP1.out.put _)
          have p1 : W2.cell? ⟨q, 1, none⟩ = some (.int .i64 N) := by rw [hW2]; exact (World.cell?_of_block (w := W1) (put_other HQG.out)).trans q1
          have HB2 : Hid (Below w.heap.size w W2) := by rw [hW2]; exact Lib.hid (HB1.out.trans (put_below _ (Nat.le_of_lt HG.out)))
          clear HC hW2
          go_wp2_with fail
          rw [← HW1.out, ← HQ.out]
          refine HCC.out.mono ?_
          rintro e w' ⟨rfl, rfl⟩
          clear e0 e1 e2 q1 q2
          go_wp2_with fail
          refine (on_any _ g _ HP2.out).mono ?_
          rintro e w3 ⟨rfl, rfl⟩
          go_wp2_with fail
          refine (count_any _ g _ HP2.out).mono ?_
          rintro e w4 ⟨rfl, rfl⟩
          go_wp2
          go_roundg (n - (j + 1))
          case measure => have := HK.out; omega
          case rel => exact ⟨j + 1, ⟨so, sp, sc⟩, t, rfl, by omega, by go_num, rfl, rfl, rfl, rfl, Lib.hid ⟨HP2.out, HT.out, HOK.out, Nat.le_succ_of_le hC, HB2.out⟩⟩
        · have hN1 : 0 ≤ N := by omega
          by_cases ho : so = false
          · subst ho
            have HC := HCW
            rw [write_off hN0 rfl] at HC
            clear HCW hN0
            obtain ⟨W2, hW2⟩ : ∃ W2, W2 = put W1 g (powObj ⟨false, sp, sc⟩) := ⟨_, rfl⟩
            rw [← hW2] at HC
            have HCC := Lib.hid HC
            have HP2 : Hid (Pow W2 g ⟨false, sp, sc⟩) := by rw [hW2]; exact Lib.hid (HP1.out.put _)
            have p1 : W2.cell? ⟨q, 1, none⟩ = some (.int .i64 N) := by rw [hW2]; exact (World.cell?_of_block (w := W1) (put_other HQG.out)).trans q1
            have HB2 : Hid (Below w.heap.size w W2) := by rw [hW2]; exact Lib.hid (HB1.out.trans (put_below _ (Nat.le_of_lt HG.out)))
            clear HC hW2
            go_wp2_with fail
            rw [← HW1.out, ← HQ.out]
            refine HCC.out.mono ?_
            rintro e w' ⟨rfl, rfl⟩
            clear e0 e1 e2 q1 q2
            go_wp2_with fail
            refine (on_any _ g _ HP2.out).mono ?_
            rintro e w3 ⟨rfl, rfl⟩
            go_wp2_with fail
            refine (count_any _ g _ HP2.out).mono ?_
            rintro e w4 ⟨rfl, rfl⟩
            go_wp2
            go_roundg (n - (j + 1))
            case measure => have := HK.out; omega
            case rel => exact ⟨j + 1, ⟨false, sp, sc⟩, t, rfl, by omega, by go_num, rfl, rfl, rfl, rfl, Lib.hid ⟨HP2.out, HT.out, HOK.out, Nat.le_succ_of_le hC, HB2.out⟩⟩
          · have ho' : so = true := by simpa using ho
            subst ho'
            clear ho
            match sp, HT, HOK with
            | none, HT, HOK =>
              have hpn : (Pw.mk true none sc).planN = -1 := rfl
              have HC := HCW
              rw [write_on hN0 rfl] at HC
              clear HCW hN0
              obtain ⟨W2, hW2⟩ : ∃ W2, W2 = put W1 g (powObj ⟨true, none, sc + 1⟩) := ⟨_, rfl⟩
              rw [← hW2] at HC
              have HCC := Lib.hid HC
              have HP2 : Hid (Pow W2 g ⟨true, none, sc + 1⟩) := by rw [hW2]; exact Lib.hid (HP1.out.put _)
              have p1 : W2.cell? ⟨q, 1, none⟩ = some (.int .i64 N) := by rw [hW2]; exact (World.cell?_of_block (w := W1) (put_other HQG.out)).trans q1
              have HB2 : Hid (Below w.heap.size w W2) := by rw [hW2]; exact Lib.hid (HB1.out.trans (put_below _ (Nat.le_of_lt HG.out)))
              clear HC hW2
              go_wp2_with fail
              rw [← HW1.out, ← HQ.out]
              refine HCC.out.mono ?_
              rintro e w' ⟨rfl, rfl⟩
              clear e0 e1 e2 q1 q2
              go_wp2_with fail
              refine (on_any _ g _ HP2.out).mono ?_
              rintro e w3 ⟨rfl, rfl⟩
              go_wp2_with fail
              refine (count_any _ g _ HP2.out).mono ?_
              rintro e w4 ⟨rfl, rfl⟩
              go_wp2
              go_roundg (n - (j + 1))
              case measure => have := HK.out; omega
              case rel => exact ⟨j + 1, ⟨true, none, sc + 1⟩, t, rfl, by omega, by go_num, rfl, rfl, rfl, by go_num, Lib.hid ⟨HP2.out, (by intro k t' e; cases e), ⟨(by intro k t' e; cases e), by simp only; omega⟩, Nat.succ_le_succ hC, HB2.out⟩⟩
            | some (0, t0), HT, HOK =>
              have ht : t0 = t := HT.out 0 t0 rfl
              subst ht
              have hpn : (Pw.mk true (some (0, t0)) sc).planN = 0 := rfl
              have HC := HCW
              rw [write_fall hN0 rfl] at HC
              clear HCW hN0
              obtain ⟨W2, hW2⟩ : ∃ W2, W2 = put W1 g (powObj ⟨false, none, sc + 1⟩) := ⟨_, rfl⟩
              rw [← hW2] at HC
              have HCC := Lib.hid HC
              have HP2 : Hid (Pow W2 g ⟨false, none, sc + 1⟩) := by rw [hW2]; exact Lib.hid (HP1.out.put _)
              have p1 : W2.cell? ⟨q, 1, none⟩ = some (.int .i64 N) := by rw [hW2]; exact (World.cell?_of_block (w := W1) (put_other HQG.out)).trans q1
              have HB2 : Hid (Below w.heap.size w W2) := by rw [hW2]; exact Lib.hid (HB1.out.trans (put_below _ (Nat.le_of_lt HG.out)))
              clear HC hW2
              go_wp2_with fail
              rw [← HW1.out, ← HQ.out]
              refine HCC.out.mono ?_
              rintro e w' ⟨rfl, rfl⟩
              clear e0 e1 e2 q1 q2
              go_wp2_with fail
              refine (on_any _ g _ HP2.out).mono ?_
              rintro e w3 ⟨rfl, rfl⟩
              go_wp2_with fail
              refine (count_any _ g _ HP2.out).mono ?_
              rintro e w4 ⟨rfl, rfl⟩
              go_wp2
              go_roundg (n - (j + 1))
              case measure => have := HK.out; omega
              case rel => exact ⟨j + 1, ⟨false, none, sc + 1⟩, t0, rfl, by omega, by go_num, rfl, rfl, rfl, by go_num, Lib.hid ⟨HP2.out, (by intro k t' e; cases e), ⟨(by intro k t' e; cases e), by simp only; omega⟩, Nat.succ_le_succ hC, HB2.out⟩⟩
            | some (k + 1, t0), HT, HOK =>
              have ht : t0 = t := HT.out (k + 1) t0 rfl
              subst ht
              have hk63 := HOK.out.1 (k + 1) t0 rfl
              have HC := HCW
              rw [write_less hN0 rfl] at HC
              obtain ⟨M, hM⟩ : ∃ M : Nat, M = k + 1 := ⟨_, rfl⟩
              have hpn : (Pw.mk true (some (k + 1, t0)) sc).planN = (M : Int) := by rw [hM]; rfl
              have hz : ((M : Int) == 0) = false := by simp; omega
              have hw2 : IntKind.i64.wrap ((M : Int) - 1) = (k : Int) := by
                rw [IntKind.wrap_i64] <;> omega
              have hmx : max (k : Int) (-1) = (k : Int) := by omega
              have HOK2 : Hid (k < 9223372036854775808) := Lib.hid (by omega)
              clear HCW hN0 hM hk63
              obtain ⟨W2, hW2⟩ : ∃ W2, W2 = put W1 g (powObj ⟨true, some (k, t0), sc + 1⟩) := ⟨_, rfl⟩
              rw [← hW2] at HC
              have HCC := Lib.hid HC
              have HP2 : Hid (Pow W2 g ⟨true, some (k, t0), sc + 1⟩) := by rw [hW2]; exact Lib.hid (HP1.out.put _)
              have p1 : W2.cell? ⟨q, 1, none⟩ = some (.int .i64 N) := by rw [hW2]; exact (World.cell?_of_block (w := W1) (put_other HQG.out)).trans q1
              have HB2 : Hid (Below w.heap.size w W2) := by rw [hW2]; exact Lib.hid (HB1.out.trans (put_below _ (Nat.le_of_lt HG.out)))
              clear HC hW2
              go_wp2_with fail
              rw [← HW1.out, ← HQ.out]
              refine HCC.out.mono ?_
              rintro e w' ⟨rfl, rfl⟩
              clear e0 e1 e2 q1 q2
              go_wp2_with fail
              refine (on_any _ g _ HP2.out).mono ?_
              rintro e w3 ⟨rfl, rfl⟩
              go_wp2_with fail
              refine (count_any _ g _ HP2.out).mono ?_
              rintro e w4 ⟨rfl, rfl⟩
              go_wp2
              go_roundg (n - (j + 1))
              case measure => have := HK.out; omega
              case rel => exact ⟨j + 1, ⟨true, some (k, t0), sc + 1⟩, t0, rfl, by omega, by go_num, rfl, rfl, rfl, by go_num, Lib.hid ⟨HP2.out, (by intro k t' e; simp at e; exact e.2.symm), ⟨(by intro k t' e; simp at e; have := HOK2.out; omega), by simp only; omega⟩, Nat.succ_le_succ hC, HB2.out⟩⟩
    · have : n = j := by omega
      subst this
      go_wp2
      go_ret
      exact ⟨rfl, HI.out.2.2.2.2⟩
end Go.Proofs.Ytplboipmepmgkaa
