/- Contracts of the leaves: 'allowed', 'bytes.Clone', 'appendNumber', over any world. -/
import Derived.Test.YtidbdfioadchaaaRows
import Derived.Test.YtidbdfioadchaaaMath
import Derived.WalkKit
import Derived.WalkSpells
import Derived.WalkLawsBesides
import Derived.Below
import Derived.Deep.LoopGhost
import Derived.Deep.AppendLies
import Derived.Maps.AppendAt
import Derived.Laws.BytesArg
import Derived.OwnWalk
import Derived.Lib.Hide
namespace Go.Proofs.Ytidbdfioadchaaa
open Go.RowKit

theorem info5 : (Try.prog.info? 5).map (fun i => (i.zero, i.size, i.bytes)) = some (some (.int .u8 0), 1, 1) := by kernel_rfl
theorem info26 : (Try.prog.info? 26).map (fun i => (i.zero, i.size, i.bytes)) = some (some (.int .u64 0), 1, 8) := by kernel_rfl

theorem ret_bool {a b : Bool} (h : a = b) : Ending.returned (.bool a) = .returned (.bool b) := by rw [h]

set_option maxHeartbeats 400000 in
theorem allowed_any (i c : Nat) (w : World) (hi : i ≤ 9) (hc : c < 256) :
    Calls Try.prog 23 #[.int .i64 (i : Int), .int .u8 (c : Int)] w fun e w' => e = .returned (.bool (!vBad i c)) ∧ w = w' := by
  go_enter Try.func23, Try.ntmps23
  go_wp2
  · have h1 : (i : Int) = 9 := by assumption
    have h2 : 1 < (c : Int) := by assumption
    go_ret
    exact ⟨ret_bool (by have : i = 9 := by omega
                        subst this; simp [vBad]; omega), rfl⟩
  · have h1 : (i : Int) = 9 := by assumption
    have h2 : (c : Int) ≤ 1 := by assumption
    go_ret
    exact ⟨ret_bool (by have : i = 9 := by omega
                        subst this
                        have : c = 0 ∨ c = 1 := by omega
                        rcases this with rfl | rfl <;> rfl), rfl⟩
  · have h1 : i = 0 := by assumption
    subst h1
    go_ret
    exact ⟨ret_bool (by simp [vBad]), rfl⟩
  · have h1 : ¬ (i : Int) = 9 := by assumption
    have h2 : ¬ i = 0 := by assumption
    go_ret
    exact ⟨ret_bool (by
      have e1 : ((i : Int) == 0) = false := by simp; omega
      have e2 : (i == 9) = false := by simp; omega
      have e3 : decide (0 < i) = true := by simp; omega
      rw [e1]; unfold vBad; rw [e2, e3]
      by_cases h : c = 0
      · subst h; rfl
      · have : ((c : Int) != 0) = true := by simp; omega
        rw [this]
        have : (c == 0) = false := by simpa using h
        rw [this]; rfl), rfl⟩

/-! ### Bytes in memory -/
def cB (l : List Nat) : List Value := l.map fun x : Nat => Value.int .u8 (x : Int)
theorem cB_append (a b : List Nat) : cB (a ++ b) = cB a ++ cB b := by simp [cB]
theorem cB_length (a : List Nat) : (cB a).length = a.length := by simp [cB]
theorem cB_one (l : List Nat) : ∀ u ∈ cB l, u.oneCell' = true := by
  intro u hu
  simp only [cB, List.mem_map] at hu
  obtain ⟨x, _, rfl⟩ := hu
  rfl

/-- The slice '.slice a n _' reads as the bytes l. -/
def Rd (w : World) (a : Option Addr) (n : Nat) (l : List Nat) : Prop :=
  l.length = n ∧ (∀ x ∈ l, x < 256) ∧ (0 < n → ∃ b o, a = some ⟨b, o, none⟩ ∧ ∀ j, j < n → w.cell? ⟨b, o + j, none⟩ = some (.int .u8 ((l.getD j 0 : Nat) : Int)))

/-- The value v owns the bytes l, in a block from 'base' on (or it is nil). -/
def Own (w : World) (base : Nat) (v : Value) (l : List Nat) : Prop := (∀ x ∈ l, x < 256) ∧ w.ownsRow base 5 1 v l.length (cB l)

theorem add_plain (b o j : Nat) : (⟨b, o, none⟩ : Addr).add j = ⟨b, o + j, none⟩ := by unfold Addr.add; split <;> simp_all

theorem Rd.below {w w' : World} {a : Option Addr} {n B : Nat} {l : List Nat} (h : Rd w a n l) (hb : Below B w w') (hB : ∀ b o, a = some ⟨b, o, none⟩ → b < w.heap.size → b < B) : Rd w' a n l := by
  refine ⟨h.1, h.2.1, fun hn => ?_⟩
  obtain ⟨b, o, rfl, hc⟩ := h.2.2 hn
  refine ⟨b, o, rfl, fun j hj => ?_⟩
  have hlt : b < w.heap.size := World.block_lt_of_cell? w _ (hc j hj)
  exact (hb.cell (p := ⟨b, o + j, none⟩) (hB b o rfl hlt)).trans (hc j hj)

theorem Rd.later {w w' : World} {a : Option Addr} {n : Nat} {l : List Nat} (h : Rd w a n l) (hb : Below w.heap.size w w') : Rd w' a n l := h.below hb fun _ _ _ h => h

theorem Own.rd {w : World} {base : Nat} {v : Value} {l : List Nat} (h : Own w base v l) : ∃ a c, v = .slice a l.length c ∧ Rd w a l.length l := by
  obtain ⟨hb, h0⟩ := h
  have h1 := h0
  rcases h0.2 with ⟨rfl, hl⟩ | ⟨g, cap, cur, rfl, _⟩
  · have : l = [] := List.eq_nil_of_length_eq_zero hl
    subst this
    exact ⟨none, 0, rfl, rfl, by simp, by simp⟩
  · refine ⟨_, cap, rfl, rfl, hb, fun _ => ⟨g, 0, rfl, fun j hj => ?_⟩⟩
    have := h1.cells (g := g) rfl j (.int .u8 ((l.getD j 0 : Nat) : Int)) (by simp [cB, List.getD, hj])
    rw [← add_plain]; exact this

theorem Own.nil (w : World) (base : Nat) : Own w base (.slice none 0 0) [] := ⟨by simp, World.ownsRow_nil w base 5 1⟩

theorem Own.kept {w w' : World} {base : Nat} {v : Value} {l : List Nat} (h : Own w base v l) (hb : Below w.heap.size w w') : Own w' base v l :=
  ⟨h.1, h.2.kept (row := none) ⟨hb.os, hb.tape, hb.output, hb.size, fun k hk _ => hb.block k hk⟩ (by
    cases hv : v.ownBlock with
    | none => exact .inl rfl
    | some k => exact .inr (by simp))⟩

set_option maxHeartbeats 400000 in
theorem clone_any (a : Option Addr) (n c : Nat) (l : List Nat) (w : World) (h : Rd w a n l) (hn : n ≤ 1000000) :
    Calls Try.prog 21 #[.slice a n c] w fun e w' => ∃ v, e = .returned v ∧ Own w' w.heap.size v l ∧ Below w.heap.size w w' := by
  obtain ⟨i0, hi0, hz0, hz1, hz2⟩ := info_parts info5
  have hnil := fun W => Lib.run_eql_slice_nil (P := Try.prog) W 22 5 a n c 0 0 Try.underlying22
  obtain ⟨hl, hby, hc⟩ := h
  cases a with
  | none =>
    have h0 : n = 0 := by
      rcases Nat.eq_zero_or_pos n with h | h
      · exact h
      · obtain ⟨b, o, h, _⟩ := hc h; cases h
    subst h0
    have : l = [] := List.eq_nil_of_length_eq_zero hl
    subst this
    clear hc hl hby
    go_enter Try.func21, Try.ntmps21
    go_wp2
    go_ret
    exact ⟨_, rfl, Own.nil _ _, Below.refl _ _⟩
  | some ad =>
    have hcells : ∀ j u, (cB l)[j]? = some u → w.cell? (ad.add j) = some u := by
      intro j u hu
      have hj : j < l.length := by
        rcases Nat.lt_or_ge j l.length with h | h
        · exact h
        · rw [List.getElem?_eq_none (by rw [cB_length]; exact h)] at hu; cases hu
      obtain ⟨b, o, he, hc'⟩ := hc (by omega)
      injection he with he
      subst he
      rw [add_plain, hc' j (by omega)]
      rw [← hu]; simp [cB, List.getD, hj]
    have HC := Lib.hid hcells
    have HL := Lib.hid hl
    clear hc hcells hl
    go_enter Try.func21, Try.ntmps21
    go_wp2_with (at_builtin; refine wpList_append_own_at _ rfl (.tmp 5) (.tmp 6) 22 rfl w.heap.size 5 i0 _ 1 1 Try.underlying22 hi0 hz0 hz1 hz2 rfl (by omega) (.slice (some ⟨w.heap.size, 0, none⟩) 0 0) 0 [] rfl ?hown ad n c (cB l) rfl ?hlen ?hcells (cB_one l) ?h63 ?hby ?hbase ?next)
    case hown => exact World.ownsRow_made w #[] 0 (Nat.le_refl _) (by simp [maxLen]) (by simp)
    case hlen => rw [cB_length, HL.out]; omega
    case hcells => exact fun j u hu => (World.cell?_alloc_lt _ _ _ (World.block_lt_of_cell? w _ (HC.out j u hu))).trans (HC.out j u hu)
    case h63 => unfold maxLen; omega
    case hby => omega
    case hbase => simp
    case next =>
      have HN := Lib.hid hnil
      clear hnil
      intro v' w' hown hg hnil' hat
      go_wp2
      go_ret
      refine ⟨v', rfl, ⟨hby, ?_⟩, ?_⟩
      · have := HL.out
        simpa [this] using hown
      · exact ((Below.refl _ _).alloc (Nat.le_refl _) _).grown hg (by simp) (by simp [Value.ownBlock])
end Go.Proofs.Ytidbdfioadchaaa
