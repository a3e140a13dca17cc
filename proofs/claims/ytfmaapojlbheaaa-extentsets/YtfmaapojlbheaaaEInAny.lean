/- The contract of the statement's own in, over any world. -/
import Derived.Test.YtfmaapojlbheaaaEIn
import Derived.Deep.DeepCutAuto
namespace Go.Proofs.Ytfmaapojlbheaaa
open Go.RowKit

/-- Which of the numbers from -300 on are in some runs. -/
def inP (L : List Rn) (j : Nat) : Bool := inB L ((j : Int) - 300)

theorem below_set {B g i : Nat} (h : B ≤ g) (W : World) (v : Value) : Below B W (W.setCell ⟨g, i, none⟩ v) := (Below.refl _ _).setCell (p := ⟨g, i, none⟩) h v

set_option maxHeartbeats 2000000 in
set_option maxRecDepth 100000 in
theorem in_any (a : Option Addr) (n c : Nat) (L : List Rn) (w : World) (h : RdR w a n L) (hn : n ≤ 100) :
    Calls Try.prog 8 #[.slice a n c] w fun e w' => ∃ g, e = .returned (.slice (some ⟨g, 0, none⟩) 601 601) ∧ w.heap.size ≤ g ∧ Bl w' g 601 (inP L) ∧ Below w.heap.size w w' := by
  have HR := Lib.hid h
  clear h
  have hmk := fun W => run_mkB W
  go_enter Try.func8, Try.ntmps8
  go_wp2
  have HBl0 := Lib.hid (bl_new w 601 fun _ => false)
  have HB0 := Lib.hid (Below.alloc0 w (.cells (bcells 601 fun _ => false) 4))
  obtain ⟨w0, hw0⟩ : ∃ w0, w0 = w.alloc (.cells (bcells 601 fun _ => false) 4) := ⟨_, rfl⟩
  rw [← hw0] at HBl0 HB0 ⊢
  obtain ⟨g, hg⟩ : ∃ g, g = w.heap.size := ⟨_, rfl⟩
  rw [← hg] at HBl0 ⊢
  have HG := Lib.hid (show w.heap.size ≤ g by omega)
  clear hw0 hg hmk
  go_loopg [10] 601 (fun k i wr => ∃ j : Nat, k = 601 - j ∧ j ≤ 601 ∧ i = .int .i64 (j : Int) ∧ Hid (Bl wr g 601 fun t => if t < j then inP L t else false) ∧ Hid (Below w.heap.size w wr))
  case atStart => exact ⟨0, rfl, Nat.zero_le _, rfl, Lib.hid (HBl0.out.same fun j _ => by simp), HB0⟩
  case round =>
    obtain ⟨j, hk, hj, rfl, HBl, HB⟩ := hrel
    have HK := Lib.hid hk
    clear hk HBl0 HB0
    by_cases hlt : j < 601
    · go_wp2
      go_loopg [15] n (fun k i wq => ∃ t : Nat, k = n - t ∧ t ≤ n ∧ i = .int .i64 (t : Int) ∧ Hid (Bl wq g 601 fun s => if s < j then inP L s else if s = j then inB (L.take t) ((j : Int) - 300) else false) ∧ Hid (Below w.heap.size w wq))
      case atStart => exact ⟨0, rfl, Nat.zero_le _, rfl, Lib.hid (HBl.out.same fun s _ => by
        by_cases h1 : s < j
        · simp [h1]
        · by_cases h2 : s = j
          · subst h2; simp [inB]
          · simp [h1, h2]), HB⟩
      case round =>
        obtain ⟨t, hk, ht, rfl, HBt, HBe⟩ := hrel
        have HK2 := Lib.hid hk
        clear hk HBl HB
        by_cases hlt2 : t < n
        · obtain ⟨b, o, r, rfl, hre, hbl, e0, e1⟩ := HR.out.at_ HBe.out hlt2
          have htl : t < L.length := by have := HR.out.1; omega
          have hst := takeR_succ htl hre
          obtain ⟨x, y⟩ := r
          simp only at e0 e1
          obtain ⟨P0, hP0⟩ : ∃ P0, P0 = inB (L.take t) ((j : Int) - 300) := ⟨_, rfl⟩
          have HST : Hid (inB (L.take (t + 1)) ((j : Int) - 300) = (P0 || (decide (x ≤ (j : Int) - 300) && decide ((j : Int) - 300 < y)))) := Lib.hid (by rw [hst, inB_snoc, hP0])
          have hco := HBt.out.at_ hlt
          simp only [Nat.lt_irrefl, if_false, if_true, ← hP0] at hco
          have hfr := HBt.out.frozen j
          have hgl : g < wr.heap.size := lt_of_block HBt.out
          have hgb : w.heap.size ≤ g := HG.out
          have hbr : w.heap.size ≤ wr.heap.size := HBe.out.size
          have HEnd : Hid (∀ P1 : Bool, P1 = (P0 || (decide (x ≤ (j : Int) - 300) && decide ((j : Int) - 300 < y))) → Bl ((wr.setCell ⟨g, j, none⟩ (.bool P1)).alloc (.cells #[.int .i64 x, .int .i64 y] 37)) g 601 (fun s => if s < j then inP L s else if s = j then inB (L.take (t + 1)) ((j : Int) - 300) else false) ∧ Below w.heap.size w ((wr.setCell ⟨g, j, none⟩ (.bool P1)).alloc (.cells #[.int .i64 x, .int .i64 y] 37))) := Lib.hid (by
            intro P1 hP1
            have hb1 : Below w.heap.size w (wr.setCell ⟨g, j, none⟩ (.bool P1)) := HBe.out.trans (below_set hgb _ _)
            refine ⟨((HBt.out.set j P1).later (Below.alloc0 _ _)).same fun s _ => ?_, hb1.alloc hb1.size _⟩
            by_cases h1 : s = j
            · subst h1
              simp only [updB, if_true, Nat.lt_irrefl, if_false]
              rw [HST.out, hP1]
            · simp [updB, h1])
          have hc2 : (wr.alloc (.cells #[.int .i64 x, .int .i64 y] 37)).cell? ⟨g, j, none⟩ = some (.bool P0) := Lib.cell?_alloc_some _ hco
          clear hst hre htl hP0 HBt
          cases P0 with
          | true =>
            have h1 := HEnd.out true (by simp)
            have H1 := Lib.hid h1
            clear h1 HEnd
            go_wp2
            go_roundg (n - (t + 1))
            case measure => have := HK2.out; omega
            case rel => exact ⟨t + 1, rfl, by omega, by go_num, Lib.hid H1.out.1, Lib.hid H1.out.2⟩
          | false =>
            by_cases hx : x ≤ (j : Int) - 300
            · by_cases hy : (j : Int) - 300 < y
              · have h1 := HEnd.out true (by simp [hx, hy])
                have H1 := Lib.hid h1
                clear h1 HEnd
                go_wp2
                go_roundg (n - (t + 1))
                case measure => have := HK2.out; omega
                case rel => exact ⟨t + 1, rfl, by omega, by go_num, Lib.hid H1.out.1, Lib.hid H1.out.2⟩
              · have hy' : decide ((j : Int) - 300 < y) = false := by simp; omega
                have h1 := HEnd.out false (by simp [hy])
                have H1 := Lib.hid h1
                clear h1 HEnd hy
                go_wp2
                go_roundg (n - (t + 1))
                case measure => have := HK2.out; omega
                case rel => exact ⟨t + 1, rfl, by omega, by go_num, Lib.hid H1.out.1, Lib.hid H1.out.2⟩
            · have hx' : decide (x ≤ (j : Int) - 300) = false := by simp; omega
              have h1 := HEnd.out false (by simp [hx])
              have H1 := Lib.hid h1
              clear h1 HEnd hx
              go_wp2
              go_roundg (n - (t + 1))
              case measure => have := HK2.out; omega
              case rel => exact ⟨t + 1, rfl, by omega, by go_num, Lib.hid H1.out.1, Lib.hid H1.out.2⟩
        · obtain rfl : t = n := by omega
          have h1 := HBt.out
          rw [List.take_of_length_le (by have := HR.out.1; omega)] at h1
          have H1 : Hid (Bl wr g 601 fun s => if s < j + 1 then inP L s else false) := Lib.hid (h1.same fun s _ => by
            by_cases h2 : s < j
            · rw [if_pos h2, if_pos (by omega)]
            · by_cases h3 : s = j
              · subst h3; rw [if_neg h2, if_pos rfl, if_pos (by omega)]; rfl
              · rw [if_neg h2, if_neg h3, if_neg (by omega)])
          clear h1 HBt
          go_wp2
          go_roundg (601 - (j + 1))
          case measure => have := HK.out; omega
          case rel => exact ⟨j + 1, rfl, by omega, by go_num, H1, HBe⟩
    · obtain rfl : j = 601 := by omega
      have H1 := Lib.hid (HBl.out.same (Q' := inP L) fun s hs => by rw [if_pos hs])
      clear HBl
      go_wp2
      go_ret
      exact ⟨g, rfl, HG.out, H1.out, HB.out⟩

end Go.Proofs.Ytfmaapojlbheaaa
