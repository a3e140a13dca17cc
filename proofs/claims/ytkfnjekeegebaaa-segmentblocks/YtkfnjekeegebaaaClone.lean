/- The contract of bytes.Clone, over any world. -/
import Derived.Test.YtkfnjekeegebaaaMem
namespace Go.Proofs.Ytkfnjekeegebaaa
open Go.RowKit

set_option maxHeartbeats 400000 in
set_option maxRecDepth 100000 in
theorem clone_any (a : Option Addr) (n c : Nat) (l : List Nat) (w : World) (h : Rd w a n l) (hn : n ≤ 1000000) :
    Calls Try.prog 29 #[.slice a n c] w fun e w' => ∃ v, e = .returned v ∧ Own w' w.heap.size v l ∧ Below w.heap.size w w' := by
  obtain ⟨i0, hi0, hz0, hz1, hz2⟩ := info_parts info5
  have hnil := fun W => Lib.run_eql_slice_nil (P := Try.prog) W 26 5 a n c 0 0 Try.underlying26
  obtain ⟨hl, hby, hc⟩ := h
  cases a with
  | none =>
    have h0 : n = 0 := by
      rcases Nat.eq_zero_or_pos n with h | h
      · exact h
      · obtain ⟨b, o, h, _⟩ := hc h; cases h
    subst h0
    have : l = [] := List.eq_nil_of_length_eq_zero hl
    subst this
    clear hc hl hby
    go_enter Try.func29, Try.ntmps29
    go_wp2
    go_ret
    exact ⟨_, rfl, Own.nil _ _, Below.refl _ _⟩
  | some ad =>
    have hcells : ∀ j u, (cB l)[j]? = some u → w.cell? (ad.add j) = some u := by
      intro j u hu
      have hj : j < l.length := by
        rcases Nat.lt_or_ge j l.length with h | h
        · exact h
        · rw [List.getElem?_eq_none (by rw [cB_length]; exact h)] at hu; cases hu
      obtain ⟨b, o, he, hc'⟩ := hc (by omega)
      injection he with he
      subst he
      rw [add_plain, hc' j (by omega)]
      rw [← hu]; simp [cB, List.getD, hj]
    have HC := Lib.hid hcells
    have HL := Lib.hid hl
    clear hc hcells hl
    go_enter Try.func29, Try.ntmps29
    go_wp2_with (at_builtin; refine wpList_append_own_at _ rfl (.tmp 5) (.tmp 6) 26 rfl w.heap.size 5 i0 _ 1 1 Try.underlying26 hi0 hz0 hz1 hz2 rfl (by omega) (.slice (some ⟨w.heap.size, 0, none⟩) 0 0) 0 [] rfl ?hown ad n c (cB l) rfl ?hlen ?hcells (cB_one l) ?h63 ?hby ?hbase ?next)
    case hown => exact World.ownsRow_made w #[] 0 (Nat.le_refl _) (by simp [maxLen]) (by simp)
    case hlen => rw [cB_length, HL.out]; omega
    case hcells => exact fun j u hu => (World.cell?_alloc_lt _ _ _ (World.block_lt_of_cell? w _ (HC.out j u hu))).trans (HC.out j u hu)
    case h63 => unfold maxLen; omega
    case hby => omega
    case hbase => simp
    case next =>
      have HN := Lib.hid hnil
      clear hnil
      intro v' w' hown hg hnil' hat
      go_wp2
      go_ret
      refine ⟨v', rfl, ⟨hby, ?_⟩, ?_⟩
      · have := HL.out
        simpa [this] using hown
      · exact ((Below.refl _ _).alloc (Nat.le_refl _) _).grown hg (by simp) (by simp [Value.ownBlock])

theorem clone_sl (a : Option Addr) (n c : Nat) (l : List Nat) (w : World) (h : Rd w a n l) (hn : n ≤ 1000000) :
    Calls Try.prog 29 #[.slice a n c] w fun e w' => ∃ a' c', e = .returned (.slice a' n c') ∧ Rd w' a' n l ∧ n ≤ c' ∧ Below w.heap.size w w' := by
  refine (clone_any a n c l w h hn).mono ?_
  rintro e w' ⟨v, rfl, ho, hb⟩
  obtain ⟨a', c', rfl, hr, hc⟩ := ho.sl
  rw [h.1] at hr hc ⊢
  exact ⟨a', c', rfl, hr, hc, hb⟩

end Go.Proofs.Ytkfnjekeegebaaa
