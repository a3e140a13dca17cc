/- The document's own Right, of a Tail; over any world. -/
import Derived.Test.YtaijldcfoaeogaaGreatGRrRowToRrHead
namespace Go.Proofs.YtaijldcfoaeogaaGreat
open Go.RowKit
set_option maxRecDepth 100000
set_option linter.unusedSimpArgs false

set_option maxHeartbeats 2000000 in
set_option maxRecDepth 100000 in
theorem right_tail1 (i b f t c : Int) (l : List Nat) (dn ds : Nat) (w : World) (hl : ∀ z ∈ l, z < 256) (h2 : ds < 2305843009213693951) :
    Calls Tryz.prog 76 #[pcV ⟨4, i, b, f, t, l, c, dn, ds⟩] w fun e w' => e = .returned (.bool (Rec.ok ⟨4, i, b, f, t, l, c, dn, ds⟩)) ∧ Below w.heap.size w w' := by
  obtain ⟨OK, hOK⟩ : ∃ OK, OK = Rec.ok ⟨4, i, b, f, t, l, c, dn, ds⟩ := ⟨_, rfl⟩
  rw [← hOK]
  obtain ⟨E, hE⟩ : ∃ E, E = Rec.eq ⟨4, i, b, f, t, l, c, dn, ds⟩ ⟨4, 0, 0, 0, 0, [], c, dn, ds⟩ := ⟨_, rfl⟩
  have hok : OK = (isNum c && (decide (dn ≤ 1099511627776) && E)) := by rw [hOK, hE]; simp [Rec.ok, h2]
  have HE := Lib.hid hE.symm
  have HOK := Lib.hid hok
  have HL := Lib.hid hl
  clear hOK hE hok hl
  have HD : Hid (∃ P : Int, P = 2305843009213693951 ∧ decide ((ds : Int) < P) = true) := Lib.hid ⟨_, rfl, by simp; omega⟩
  clear h2
  simp only [pcV]
  go_enter Tryz.func76, Tryz.ntmps76
  go_wp2_with (first | (refine wpList_eql_rec rfl (.tmp 133) (.tmp 134) 50 rfl ⟨4, i, b, f, t, l, c, dn, ds⟩ ⟨4, 0, 0, 0, 0, [], c, dn, ds⟩ rfl rfl HL.out (by simp) E HE.out ?_) | (refine wpList_lss (.tmp 156) (.const (.int .u64 2305843009213693951)) 48 48 (ds : Int) 2305843009213693951 rfl (by rfl) rfl rfl true (HD.out.elim fun P h => by rw [← h.1]; exact h.2) ?_))
  all_goals
    go_ret
    refine ⟨ret_bool ?_, ((Below.refl _ _).alloc (Nat.le_refl _) _).alloc (by simp) _⟩
    rw [HOK.out]
    clear HE HL HOK
    first
      | (simp [isNum, *]; done)
      | (simp [isNum, *]; omega)
      | (simp_all [isNum]; done)
      | (simp_all [isNum]; omega)

set_option maxHeartbeats 2000000 in
set_option maxRecDepth 100000 in
theorem right_tail2 (i b f t c : Int) (l : List Nat) (dn ds : Nat) (w : World) (hl : ∀ z ∈ l, z < 256) (h2 : ¬ ds < 2305843009213693951) :
    Calls Tryz.prog 76 #[pcV ⟨4, i, b, f, t, l, c, dn, ds⟩] w fun e w' => e = .returned (.bool (Rec.ok ⟨4, i, b, f, t, l, c, dn, ds⟩)) ∧ Below w.heap.size w w' := by
  obtain ⟨OK, hOK⟩ : ∃ OK, OK = Rec.ok ⟨4, i, b, f, t, l, c, dn, ds⟩ := ⟨_, rfl⟩
  rw [← hOK]
  obtain ⟨E, hE⟩ : ∃ E, E = Rec.eq ⟨4, i, b, f, t, l, c, dn, ds⟩ ⟨4, 0, 0, 0, 0, [], c, dn, ds⟩ := ⟨_, rfl⟩
  have hok : OK = (false) := by rw [hOK]; simp [Rec.ok, h2]
  have HE := Lib.hid hE.symm
  have HOK := Lib.hid hok
  have HL := Lib.hid hl
  clear hOK hE hok hl
  have HD : Hid (∃ P : Int, P = 2305843009213693951 ∧ decide ((ds : Int) < P) = false) := Lib.hid ⟨_, rfl, by simp; omega⟩
  clear h2
  simp only [pcV]
  go_enter Tryz.func76, Tryz.ntmps76
  go_wp2_with (first | (refine wpList_eql_rec rfl (.tmp 133) (.tmp 134) 50 rfl ⟨4, i, b, f, t, l, c, dn, ds⟩ ⟨4, 0, 0, 0, 0, [], c, dn, ds⟩ rfl rfl HL.out (by simp) E HE.out ?_) | (refine wpList_lss (.tmp 156) (.const (.int .u64 2305843009213693951)) 48 48 (ds : Int) 2305843009213693951 rfl (by rfl) rfl rfl false (HD.out.elim fun P h => by rw [← h.1]; exact h.2) ?_))
  all_goals
    go_ret
    exact ⟨ret_bool HOK.out.symm, ((Below.refl _ _).alloc (Nat.le_refl _) _).alloc (by simp) _⟩

end Go.Proofs.YtaijldcfoaeogaaGreat
