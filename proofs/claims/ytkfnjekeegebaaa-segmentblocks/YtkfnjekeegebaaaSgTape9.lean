/- The tape of the statements' check: what a block put there, and got, comes to. Plain mathematics. -/
import Derived.Test.YtkfnjekeegebaaaSgTape
namespace Go.Proofs.Ytkfnjekeegebaaa
open Go.RowKit
set_option linter.unusedSimpArgs false

theorem put_900 (l : List Nat) (h1 : 0 < l.length) (h2 : l.length ≤ 200) : ∃ s', Tst.put ⟨true, none, 0⟩ ⟨900, 0, [], [], [], 0⟩ l = (s', ⟨900, 0, [], [], [l], 1⟩, 0) ∧ s'.on = true := by
  have hw : Pw.write ⟨true, none, 0⟩ ((4 + l.length : Nat) : Int) = (⟨true, none, 1⟩, ((4 + l.length : Nat) : Int), 0) := by
    unfold Pw.write
    rw [if_neg (by omega), if_neg (by simp)]
  refine ⟨⟨true, none, 1⟩, ?_, rfl⟩
  unfold Tst.put Tst.write
  rw [if_neg (by omega), if_neg (by omega), if_neg (by simp), if_neg (by simp [Tst.used, usedOf]; omega)]
  rw [hw]
  simp [Tst.cut, Tst.add]

theorem seek_900 (s : Pw) (l : List Nat) (h : s.on = true) : Tst.seek s ⟨900, 0, [], [], [l], 1⟩ 0 = (⟨900, 0, [], [], [l], 0⟩, 0) := by
  simp [Tst.seek, h]

theorem get_900 (s : Pw) (l : List Nat) (h : s.on = true) (h1 : 0 < l.length) : Tst.get s ⟨900, 0, [], [], [l], 0⟩ = (⟨900, 0, [], [], [l], 1⟩, l, 0) := by
  have : l ≠ [] := List.length_pos_iff.1 h1
  simp [Tst.get, h, this]

theorem get_901 (s : Pw) (l : List Nat) (h : s.on = true) : Tst.get s ⟨900, 0, [], [], [l], 1⟩ = (⟨900, 0, [], [], [l], 1⟩, [], 6) := by
  simp [Tst.get, h]

/-- What the document says of a block of mine. -/
theorem docOk_any (x : Sg) : docOk x.kind x.nums x.text = x.ok := by
  rcases x with ⟨⟩ | ⟨⟩ | ⟨l⟩
  · simp [docOk, Sg.kind, Sg.nums, Sg.text, Sg.ok]
  · simp [docOk, Sg.kind, Sg.nums, Sg.text, Sg.ok]
  · by_cases h1 : 1 ≤ l.length <;> by_cases h2 : l.length ≤ 160 <;> simp [docOk, Sg.kind, Sg.nums, Sg.text, Sg.ok, N5.zero, N5.ok, numOk, h1, h2]

/-- A block's bytes that lie from lo on are still there where only blocks ahead of lo changed. -/
theorem SgV.save {w w' : World} {v : Value} {x : Option Sg} {lo : Nat} {X : List Nat} (h : SgV w v x) (hl : SgLo lo v) (hs : Save X w w') (hX : ∀ k ∈ X, k < lo) : SgV w' v x := by
  rcases x with _ | ⟨⟩ | ⟨⟩ | ⟨l⟩
  · exact h
  · exact h
  · exact h
  · obtain ⟨a, n, c, rfl, hr, hc⟩ := h
    refine ⟨a, n, c, rfl, hr.save hs fun b o e hb => ?_, hc⟩
    have h1 := hl _ a n c b o none rfl e
    have h2 := hX b hb
    omega

theorem SgLo.mono {lo lo' : Nat} {v : Value} (h : SgLo lo v) (hl : lo' ≤ lo) : SgLo lo' v := fun T a n c b o f h1 h2 => Nat.le_trans hl (h T a n c b o f h1 h2)

end Go.Proofs.Ytkfnjekeegebaaa
