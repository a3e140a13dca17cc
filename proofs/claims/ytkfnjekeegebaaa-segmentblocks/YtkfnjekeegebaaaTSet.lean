/- A map[int]struct{} as a set of numbers: tape's setOf and has. -/
import Derived.Test.YtkfnjekeegebaaaSave
import Derived.Test.YtkfnjekeegebaaaPow
import Derived.Maps.OwnSet
namespace Go.Proofs.Ytkfnjekeegebaaa
open Go.RowKit Go.Maps
set_option linter.unusedSimpArgs false

theorem keyedInt : Keyed Try.prog 3 := int_keyed Try.underlying3
theorem zeroUnit (w : World) : (zeroValue 96).run Try.prog w = .ok (.agg #[]) w := by kernel_rfl

/-- The slice '.slice a n _' reads as the numbers L. -/
def RdI (w : World) (a : Option Addr) (n : Nat) (L : List Int) : Prop :=
  L.length = n ∧ (∀ x ∈ L, (Lit.int .i64 x).wf = true) ∧ (0 < n → ∃ b o, a = some ⟨b, o, none⟩ ∧ ∀ j, j < n → w.cell? ⟨b, o + j, none⟩ = some (.int .i64 (L.getD j 0)))

theorem RdI.below {w w' : World} {a : Option Addr} {n B : Nat} {L : List Int} (h : RdI w a n L) (hb : Below B w w') (hB : ∀ b o, a = some ⟨b, o, none⟩ → b < w.heap.size → b < B) : RdI w' a n L := by
  refine ⟨h.1, h.2.1, fun hn => ?_⟩
  obtain ⟨b, o, rfl, hc⟩ := h.2.2 hn
  refine ⟨b, o, rfl, fun j hj => ?_⟩
  have hlt : b < w.heap.size := World.block_lt_of_cell? w _ (hc j hj)
  exact (hb.cell (p := ⟨b, o + j, none⟩) (hB b o rfl hlt)).trans (hc j hj)

theorem RdI.later {w w' : World} {a : Option Addr} {n : Nat} {L : List Int} (h : RdI w a n L) (hb : Below w.heap.size w w') : RdI w' a n L := h.below hb fun _ _ _ h => h

theorem RdI.save {w w' : World} {X : List Nat} {a : Option Addr} {n : Nat} {L : List Int} (h : RdI w a n L) (hs : Save X w w') (hX : ∀ b o, a = some ⟨b, o, none⟩ → b ∉ X) : RdI w' a n L := by
  refine ⟨h.1, h.2.1, fun hn => ?_⟩
  obtain ⟨b, o, rfl, hc⟩ := h.2.2 hn
  refine ⟨b, o, rfl, fun j hj => ?_⟩
  have hlt : b < w.heap.size := World.block_lt_of_cell? w _ (hc j hj)
  rw [← hc j hj]
  simp only [World.cell?, hs.block b hlt (hX b o rfl)]

/-- The datum of a set. -/
def setD (L : List Int) : DataW Unit := setOf (.agg []) (L.map (Lit.int .i64))

theorem isKey_ints (L : List Int) : ∀ x ∈ L.map (Lit.int .i64), WideAt.IsKeyLit x := by
  intro x hx
  simp only [List.mem_map] at hx
  obtain ⟨a, _, rfl⟩ := hx
  simp [WideAt.IsKeyLit]

theorem has_setD (L : List Int) (z : Int) : Maps.has (setD L) (.int .i64 z) = decide (z ∈ L) := by
  unfold setD
  rw [has_setOf _ _ _ (isKey_ints L)]
  have sk : ∀ a : Int, (Lit.int .i64 a).sameKey (.int .i64 z) = decide (a = z) := fun a => by simp [Lit.sameKey]
  induction L with
  | nil => rfl
  | cons a r ih =>
    rw [List.map_cons, List.any_cons, ih, sk]
    by_cases h : a = z
    · simp [h]
    · simp [h, Ne.symm h]

theorem take_snoc {α : Type} (L : List α) (d : α) {j : Nat} (h : j < L.length) : L.take (j + 1) = L.take j ++ [L.getD j d] := by
  rw [List.take_succ_eq_append_getElem h]
  simp [List.getD, h]

theorem setD_snoc (L : List Int) {j : Nat} (h : j < L.length) : setD (L.take (j + 1)) = (setD (L.take j)).put (.int .i64 (L.getD j 0)) (.agg []) := by
  unfold setD
  rw [take_snoc L 0 h, List.map_append]
  exact setOf_snoc _ _ _

/-- Block b is the set of the numbers L. -/
def SetM (w : World) (b : Nat) (L : List Int) : Prop := ∃ n, w.ownsMap Try.prog 3 (unitElem (H := Unit)) b n (setD L)

theorem SetM.lt {w : World} {b : Nat} {L : List Int} (h : SetM w b L) : b < w.heap.size := h.elim fun _ h => h.lt

theorem SetM.kept {w w' : World} {b : Nat} {L : List Int} (h : SetM w b L) (he : w'.heap[b]? = w.heap[b]?) : SetM w' b L := by
  obtain ⟨n, es, clock, hb, r⟩ := h
  exact ⟨n, es, clock, he.trans hb, r⟩

theorem SetM.map {w : World} {b : Nat} {L : List Int} (h : SetM w b L) : ∃ es clock, w.heap[b]? = some (.map es clock) := by
  obtain ⟨n, es, clock, hb, r⟩ := h
  exact ⟨es, clock, hb⟩

theorem SetM.later {w w' : World} {b : Nat} {L : List Int} (h : SetM w b L) (hb : Below w.heap.size w w') : SetM w' b L := h.kept (hb.block b h.lt)

set_option maxRecDepth 100000 in
theorem setOf_any (w : World) (a : Option Addr) (n c : Nat) (L : List Int) (h : RdI w a n L) (hn : n ≤ 1000000) :
    Calls Try.prog 31 #[.slice a n c] w fun e w' => ∃ b, e = .returned (.map (some b)) ∧ w.heap.size ≤ b ∧ SetM w' b L ∧ Below w.heap.size w w' := by
  have HH := Lib.hid h
  have HL := Lib.hid h.1
  have hmm : ∀ W : World, (Instr.makeMap 76 (some (.int .i64 (n : Int)))).run Try.prog W = .ok (.map (some W.heap.size)) (W.alloc (.map #[] 0)) := fun W => by
    simp [Instr.makeMap, asInt, asIntOf]
  obtain ⟨gm, hgm⟩ : ∃ gm, gm = w.heap.size := ⟨_, rfl⟩
  clear h
  go_enter Try.func31, Try.ntmps31
  go_wp2
  rw [← hgm]
  have HG := Lib.hid hgm
  clear hgm
  go_loopg [11] n (fun gk i wr => ∃ j : Nat, gk = n - j ∧ j ≤ n ∧ i = .int .i64 (j : Int) ∧ Hid (wr.ownsMap Try.prog 3 (unitElem (H := Unit)) gm j (setD (L.take j)) ∧ Below w.heap.size w wr))
  case atStart => exact ⟨0, rfl, Nat.zero_le _, rfl, Lib.hid ⟨by rw [HG.out]; exact World.ownsMap_made _ _ _ _, Below.alloc0 _ _⟩⟩
  case round =>
    obtain ⟨j, hgk, hj, rfl, HI⟩ := hrel
    have HGK := Lib.hid hgk
    clear hgk hmm
    by_cases hlt : j < n
    · obtain ⟨b, o, rfl, hc⟩ := (HH.out.later HI.out.2).2.2 (by omega)
      have hcj := hc j hlt
      have hjl : j < L.length := by rw [HL.out]; exact hlt
      have hwf : (Lit.int .i64 (L.getD j 0)).wf = true := HH.out.2.1 _ (by simp [List.getD, hjl])
      obtain ⟨z, hz⟩ : ∃ z, z = L.getD j 0 := ⟨_, rfl⟩
      rw [← hz] at hcj hwf
      have HZ := Lib.hid (And.intro hz hjl)
      have hkey : keyOf Try.prog 3 (.int .i64 z) = some (.int .i64 z) := keyOf_int_mk Try.underlying3 hwf
      clear hc hz hjl hwf
      go_wp2_with (at_mapUpdate; refine wpList_mapUpdate_own _ rfl _ _ _ 76 rfl 3 96 keyedInt Try.underlying76 (unitElem (H := Unit)) gm j _ rfl HI.out.1 (by unfold maxLen; omega) _ _ _ rfl rfl hkey _ [] unitElem_mk ?_; intro w1 hown1 hgrow1)
      have HO := Lib.hid (And.intro hown1 hgrow1)
      clear hown1 hgrow1
      go_wp2
      go_roundg (n - (j + 1))
      case measure => have := HGK.out; omega
      case rel =>
        refine ⟨j + 1, rfl, by omega, by go_num, Lib.hid ⟨?_, ?_⟩⟩
        · have e := setD_snoc L HZ.out.2
          rw [← HZ.out.1] at e
          rw [e]
          exact HO.out.1
        · exact HI.out.2.grown HO.out.2 HI.out.2.size (fun k hk => by injection hk with hk; have := HG.out; omega)
    · have e : j = n := by omega
      subst e
      go_wp2
      go_ret
      refine ⟨gm, rfl, by rw [HG.out]; exact Nat.le_refl _, ⟨j, ?_⟩, HI.out.2⟩
      have := HI.out.1
      rw [List.take_of_length_le (by rw [HL.out]; exact Nat.le_refl _)] at this
      exact this

theorem has_any (w : World) (b : Nat) (L : List Int) (z : Int) (hz : (Lit.int .i64 z).wf = true) (h : SetM w b L) :
    Calls Try.prog 45 #[.map (some b), .int .i64 z] w fun e w' => e = .returned (.bool (decide (z ∈ L))) ∧ w' = w.alloc (.cells #[] 96) := by
  obtain ⟨n, hown⟩ := h
  have hkey : keyOf Try.prog 3 (.int .i64 z) = some (.int .i64 z) := keyOf_int_mk Try.underlying3 hz
  have hh := has_setD L z
  go_enter Try.func45, Try.ntmps45
  go_wp2_with (at_lookup; refine wpList_lookup_own_unit _ rfl _ _ 76 rfl 3 96 keyedInt Try.underlying76 (zeroUnit _) b n _ rfl hown _ _ rfl hkey ?_; rw [hh])
  go_ret
  exact ⟨rfl, rfl⟩

end Go.Proofs.Ytkfnjekeegebaaa
