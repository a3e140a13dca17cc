/- A record's bytes: the contract of Bytes, over any world. -/
import Derived.Test.YtngnlnkkehnomaaRcData
import Derived.Test.YtngnlnkkehnomaaRcPlain
namespace Go.Proofs.Ytngnlnkkehnomaa
open Go.RowKit
set_option linter.unusedSimpArgs false

/-- A record's cells. -/
theorem rec_cells {w : World} {q : Nat} {v0 v1 v2 v3 v4 v5 v6 v7 v8 : Value} {T : TypeId} (h : w.heap[q]? = some (.cells #[v0, v1, v2, v3, v4, v5, v6, v7, v8] T (0, 0))) :
    w.cell? ⟨q, 0, none⟩ = some v0 ∧ w.cell? ⟨q, 1, none⟩ = some v1 ∧ w.cell? ⟨q, 2, none⟩ = some v2 ∧ w.cell? ⟨q, 3, none⟩ = some v3 ∧ w.cell? ⟨q, 4, none⟩ = some v4 ∧ w.cell? ⟨q, 5, none⟩ = some v5 ∧ w.cell? ⟨q, 6, none⟩ = some v6 ∧ w.cell? ⟨q, 7, none⟩ = some v7 ∧ w.cell? ⟨q, 8, none⟩ = some v8 := by
  refine ⟨?_, ?_, ?_, ?_, ?_, ?_, ?_, ?_, ?_⟩ <;> simp [World.cell?, h]

set_option maxHeartbeats 1000000 in
set_option maxRecDepth 100000 in
theorem rbytes_any (x : Rec) (a : Option Addr) (n cap : Nat) (w : World) (h : Rd w a n x.l) :
    Calls Try.prog 8 #[rcV x a n cap] w fun e w' => Below w.heap.size w w' ∧ ((x.ok = false ∧ e = .returned (.tuple #[.slice none 0 0, .int .i64 1])) ∨ (x.ok = true ∧ ∃ a' c', e = .returned (.tuple #[.slice a' x.bytes.length c', .int .i64 0]) ∧ Own w' w.heap.size (.slice a' x.bytes.length c') x.bytes)) := by
  have HV : Hid (∀ W, Below w.heap.size w W → Calls Try.prog 15 #[rcV x a n cap] W fun e w' => e = .returned (.bool x.ok) ∧ Hid (Below W.heap.size W w')) :=
    Lib.hid fun W hW => valid_any x a n cap W (h.later hW)
  have HP : Hid (x.ok = true → ∀ W, Below w.heap.size w W → Calls Try.prog 18 #[rcV x a n cap] W fun e w' => ∃ v, e = .returned v ∧ Hid (Own w' W.heap.size v x.plain) ∧ Hid (Below W.heap.size W w')) :=
    Lib.hid fun hx W hW => plain_any x a n cap W hx (h.later hW)
  have HL : Hid (x.ok = true → 1 ≤ x.plain.length ∧ x.plain.length ≤ 139) := Lib.hid Rec.plain_len
  obtain ⟨B, hB⟩ : ∃ B, B = x.ok := ⟨_, rfl⟩
  obtain ⟨P, hP⟩ : ∃ P, P = x.plain := ⟨_, rfl⟩
  obtain ⟨Y, hY⟩ : ∃ Y, Y = x.bytes := ⟨_, rfl⟩
  have hYP : Y = tEnc (P ++ sumB (cSum P)) := by rw [hY, hP]; rfl
  rw [← hB] at HV HP HL ⊢
  rw [← hP] at HP HL
  rw [← hY]
  have HY := Lib.hid hYP
  clear hB hP hY hYP h
  obtain ⟨k, i, b, f, t, l, c, dn, ds⟩ := x
  simp only [rcV] at HV HP ⊢
  cases B
  · go_enter Try.func8, Try.ntmps8
    go_wp2_with fail
    refine (HV.out _ (Below.alloc0 _ _)).mono ?_
    rintro e w1 ⟨rfl, hb⟩
    go_wp2
    go_ret2
    exact ⟨(Below.alloc0 _ _).trans (hb.out.mono (by simp)), .inl ⟨trivial, rfl⟩⟩
  · have HP2 := Lib.hid (HP.out rfl)
    have HL2 := Lib.hid (HL.out rfl)
    clear HP HL
    go_enter Try.func8, Try.ntmps8
    go_wp2_with fail
    refine (HV.out _ (Below.alloc0 _ _)).mono ?_
    rintro e w1 ⟨rfl, hb⟩
    have HB : Hid (Below w.heap.size w w1) := Lib.hid ((Below.alloc0 _ _).trans (hb.out.mono (by simp)))
    obtain ⟨c0, c1, c2, c3, c4, c5, c6, c7, c8⟩ := rec_cells ((hb.out.block w.heap.size (by simp)).trans (heap_alloc_new w _))
    clear hb
    go_wp2_with fail
    refine (HP2.out _ HB.out).mono ?_
    rintro e w2 ⟨v2, rfl, ho2, hb2⟩
    have HB2 : Hid (Below w.heap.size w w2) := Lib.hid (HB.out.trans (hb2.out.mono HB.out.size))
    obtain ⟨a2, c2', rfl, hr2, hc2⟩ := ho2.out.sl
    have HR2 := Lib.hid hr2
    clear ho2 hb2 hr2 hc2 c0 c1 c2 c3 c4 c5 c6 c7 c8
    go_wp2_with fail
    refine (seal_any a2 _ c2' P w2 HR2.out (by have := HL2.out; omega)).mono ?_
    rintro e w3 ⟨v3, rfl, ho3, hb3⟩
    have HB3 : Hid (Below w.heap.size w w3) := Lib.hid (HB2.out.trans (hb3.mono HB2.out.size))
    obtain ⟨a3, c3, rfl, hr3, hc3⟩ := ho3.sl
    have HR3 := Lib.hid hr3
    have HLN : Hid ((P ++ sumB (cSum P)).length ≤ 143) := Lib.hid (by have := HL2.out; simp [sumB]; omega)
    obtain ⟨Z, hZ⟩ : ∃ Z, Z = P ++ sumB (cSum P) := ⟨_, rfl⟩
    rw [← hZ] at HR3 HLN HY ⊢
    clear ho3 hb3 hr3 hc3 hZ
    go_wp2_with fail
    refine (bytesPut_any none 0 0 [] _ 1 1 [Z] _ ⟨rfl, by simp, by omega⟩ (rdT_one HR3.out _) (by omega) (by omega) ?h5).mono ?_
    case h5 =>
      intro t ht
      simp only [List.mem_singleton] at ht
      rw [ht]
      have := HLN.out
      omega
    rintro e w4 ⟨v4, rfl, ho4, hb4⟩
    have e1 : [] ++ [Z].flatMap tEnc = Y := by rw [HY.out]; simp
    rw [e1] at ho4
    have ho5 := ho4.mono (base' := w.heap.size) (by have := HB3.out.size; simp; omega)
    obtain ⟨a4, c4, rfl, hr4, hc4⟩ := ho5.sl
    have HO5 := Lib.hid ho5
    have HB5 : Hid (Below w.heap.size w w4) := Lib.hid ((HB3.out.alloc HB3.out.size _).trans (hb4.mono (by have := HB3.out.size; simp; omega)))
    clear ho4 ho5 hb4 hr4 hc4 e1
    go_wp2
    go_ret2
    exact ⟨HB5.out, .inr ⟨trivial, _, _, rfl, HO5.out⟩⟩

end Go.Proofs.Ytngnlnkkehnomaa
