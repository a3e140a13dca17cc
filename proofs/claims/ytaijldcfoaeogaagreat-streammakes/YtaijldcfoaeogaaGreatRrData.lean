/- The document's own Right, of a Data record; over any world. -/
import Derived.Test.YtaijldcfoaeogaaGreatGRrRowToRrHead
namespace Go.Proofs.YtaijldcfoaeogaaGreat
open Go.RowKit
set_option maxRecDepth 100000
set_option linter.unusedSimpArgs false

theorem data_eq {f t N : Int} {len : Nat} {E : Bool} (hE : E = true) (a : 0 ≤ f) (b : f < 256) (c : 1 ≤ N) (d : N ≤ 4) (e : t ≤ 256) (h1 : 0 ≤ f ∧ f < 256 ∧ 1 ≤ N ∧ N ≤ 4 → N = t - f) :
    ((len : Int) == 32 * N) = (isRunB f t && (decide (t - f ≤ 4) && (decide ((len : Int) = (t - f) * 32) && E))) := by
  have hN := h1 ⟨a, b, c, d⟩
  subst hE
  have q1 : isRunB f t = true := by simp [isRunB]; omega
  have q2 : decide (t - f ≤ 4) = true := decide_eq_true (by omega)
  rw [q1, q2, hN, Int.mul_comm]
  by_cases h : (len : Int) = (t - f) * 32
  · rw [h]; simp
  · rw [decide_eq_false h]; simpa using h

theorem data_no {f t N : Int} {len : Nat} {E : Bool} (h : ¬ (E = true ∧ 0 ≤ f ∧ f < 256 ∧ 1 ≤ N ∧ N ≤ 4 ∧ t ≤ 256)) (h2 : 0 ≤ f ∧ f < 256 ∧ 1 ≤ t - f ∧ t - f ≤ 4 → N = t - f) :
    false = (isRunB f t && (decide (t - f ≤ 4) && (decide ((len : Int) = (t - f) * 32) && E))) := by
  cases E with
  | false => simp
  | true =>
    by_cases h3 : isRunB f t = true
    · simp only [isRunB, Bool.and_eq_true, decide_eq_true_eq] at h3
      have q2 : decide (t - f ≤ 4) = false := decide_eq_false (fun h4 => by
        have := h2 ⟨by omega, by omega, by omega, h4⟩
        exact h ⟨rfl, by omega, by omega, by omega, by omega, by omega⟩)
      rw [q2]; simp
    · have : isRunB f t = false := by simpa using h3
      rw [this]; simp

set_option maxHeartbeats 8000000 in
set_option maxRecDepth 100000 in
theorem right_data (i b f t c : Int) (l : List Nat) (dn ds : Nat) (w : World) (hl : ∀ z ∈ l, z < 256) (ht : -9223372036854775808 ≤ t ∧ t ≤ 9223372036854775807) :
    Calls Tryz.prog 76 #[pcV ⟨2, i, b, f, t, l, c, dn, ds⟩] w fun e w' => e = .returned (.bool (Rec.ok ⟨2, i, b, f, t, l, c, dn, ds⟩)) ∧ Below w.heap.size w w' := by
  obtain ⟨OK, hOK⟩ : ∃ OK, OK = Rec.ok ⟨2, i, b, f, t, l, c, dn, ds⟩ := ⟨_, rfl⟩
  rw [← hOK]
  obtain ⟨E, hE⟩ : ∃ E, E = Rec.eq ⟨2, i, b, f, t, l, c, dn, ds⟩ ⟨2, 0, 0, f, t, l, 0, 0, 0⟩ := ⟨_, rfl⟩
  have hok : OK = (isRunB f t && (decide (t - f ≤ 4) && (decide ((l.length : Int) = (t - f) * 32) && E))) := by rw [hOK, hE]; simp [Rec.ok]
  have HE := Lib.hid hE.symm
  have HOK := Lib.hid hok
  have HL := Lib.hid hl
  clear hOK hE hok hl
  have hsz := strB_size l
  have h2 : 0 ≤ f ∧ f < 256 ∧ 1 ≤ t - f ∧ t - f ≤ 4 → IntKind.i64.wrap (t - f) = t - f := by
    intro h
    rw [IntKind.wrap_i64]
    omega
  have h1 : 0 ≤ f ∧ f < 256 ∧ 1 ≤ IntKind.i64.wrap (t - f) ∧ IntKind.i64.wrap (t - f) ≤ 4 → IntKind.i64.wrap (t - f) = t - f := by
    intro h
    rw [IntKind.wrap_i64] at h ⊢
    omega
  obtain ⟨N, hN⟩ : ∃ N, IntKind.i64.wrap (t - f) = N := ⟨_, rfl⟩
  rw [hN] at h1 h2
  have H1 := Lib.hid h1
  have H2 := Lib.hid h2
  clear h1 h2 ht
  simp only [pcV]
  go_enter Tryz.func76, Tryz.ntmps76
  go_wp2_with (first | (refine wpList_eql_rec rfl (.tmp 60) (.tmp 61) 50 rfl ⟨2, i, b, f, t, l, c, dn, ds⟩ ⟨2, 0, 0, f, t, l, 0, 0, 0⟩ rfl rfl HL.out HL.out E HE.out ?_))
  all_goals
    go_ret
    refine ⟨ret_bool ?_, ((Below.refl _ _).alloc (Nat.le_refl _) _).alloc (by simp) _⟩
    rw [HOK.out]
    first
      | exact data_eq (by assumption) (by assumption) (by assumption) (by assumption) (by assumption) (by assumption) H1.out
      | exact data_no (fun ⟨q0, q1, q2, q3, q4, q5⟩ => by first | contradiction | omega) H2.out

end Go.Proofs.YtaijldcfoaeogaaGreat
