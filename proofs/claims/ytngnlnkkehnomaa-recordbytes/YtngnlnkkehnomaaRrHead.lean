/- The document's own Right, of a Head, of a Hole; over any world. -/
import Derived.Test.YtngnlnkkehnomaaRrEql
namespace Go.Proofs.Ytngnlnkkehnomaa
open Go.RowKit
set_option linter.unusedSimpArgs false

set_option maxHeartbeats 2000000 in
set_option maxRecDepth 100000 in
theorem right_head (i b f t c : Int) (l : List Nat) (dn ds : Nat) (w : World) (hl : ∀ z ∈ l, z < 256) :
    Calls Try.prog 9 #[pcV ⟨1, i, b, f, t, l, c, dn, ds⟩] w fun e w' => e = .returned (.bool (Rec.ok ⟨1, i, b, f, t, l, c, dn, ds⟩)) ∧ Below w.heap.size w w' := by
  obtain ⟨OK, hOK⟩ : ∃ OK, OK = Rec.ok ⟨1, i, b, f, t, l, c, dn, ds⟩ := ⟨_, rfl⟩
  rw [← hOK]
  obtain ⟨E, hE⟩ : ∃ E, E = Rec.eq ⟨1, i, b, f, t, l, c, dn, ds⟩ ⟨1, i, b, 0, 0, [], 0, 0, 0⟩ := ⟨_, rfl⟩
  have hok : OK = (isNum i && (isNum b && E)) := by rw [hOK, hE]; simp [Rec.ok]
  have HE := Lib.hid hE.symm
  have HOK := Lib.hid hok
  have HL := Lib.hid hl
  clear hOK hE hok hl
  simp only [pcV]
  go_enter Try.func9, Try.ntmps9
  go_wp2_with (first | (refine wpList_eql_rec rfl (.tmp 19) (.tmp 20) 33 rfl ⟨1, i, b, f, t, l, c, dn, ds⟩ ⟨1, i, b, 0, 0, [], 0, 0, 0⟩ rfl rfl HL.out (by simp) E HE.out ?_))
  all_goals
    go_ret
    refine ⟨ret_bool ?_, ((Below.refl _ _).alloc (Nat.le_refl _) _).alloc (by simp) _⟩
    rw [HOK.out]
    clear HE HL HOK
    first
      | (simp [isNum, *]; done)
      | (simp [isNum, *]; omega)
      | (simp_all [isNum]; done)
      | (simp_all [isNum]; omega)

set_option maxHeartbeats 2000000 in
set_option maxRecDepth 100000 in
theorem right_hole (i b f t c : Int) (l : List Nat) (dn ds : Nat) (w : World) (hl : ∀ z ∈ l, z < 256) :
    Calls Try.prog 9 #[pcV ⟨3, i, b, f, t, l, c, dn, ds⟩] w fun e w' => e = .returned (.bool (Rec.ok ⟨3, i, b, f, t, l, c, dn, ds⟩)) ∧ Below w.heap.size w w' := by
  obtain ⟨OK, hOK⟩ : ∃ OK, OK = Rec.ok ⟨3, i, b, f, t, l, c, dn, ds⟩ := ⟨_, rfl⟩
  rw [← hOK]
  obtain ⟨E, hE⟩ : ∃ E, E = Rec.eq ⟨3, i, b, f, t, l, c, dn, ds⟩ ⟨3, 0, 0, f, t, [], 0, 0, 0⟩ := ⟨_, rfl⟩
  have hok : OK = (isRunB f t && E) := by rw [hOK, hE]; simp [Rec.ok]
  have HE := Lib.hid hE.symm
  have HOK := Lib.hid hok
  have HL := Lib.hid hl
  clear hOK hE hok hl
  simp only [pcV]
  go_enter Try.func9, Try.ntmps9
  go_wp2_with (first | (refine wpList_eql_rec rfl (.tmp 102) (.tmp 103) 33 rfl ⟨3, i, b, f, t, l, c, dn, ds⟩ ⟨3, 0, 0, f, t, [], 0, 0, 0⟩ rfl rfl HL.out (by simp) E HE.out ?_))
  all_goals
    go_ret
    refine ⟨ret_bool ?_, ((Below.refl _ _).alloc (Nat.le_refl _) _).alloc (by simp) _⟩
    rw [HOK.out]
    clear HE HL HOK
    first
      | (simp [isRunB, *]; done)
      | (simp [isRunB, *]; omega)
      | (simp_all [isRunB]; done)
      | (simp_all [isRunB]; omega)

end Go.Proofs.Ytngnlnkkehnomaa
