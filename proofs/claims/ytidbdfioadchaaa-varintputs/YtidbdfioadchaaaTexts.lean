/- An append of bytes, nil or not, onto a row of the call's own; the contracts of the document's own Text and of 'varint.Bytes', over any world. -/
import Derived.Test.YtidbdfioadchaaaText
namespace Go.Proofs.Ytidbdfioadchaaa
open Go.RowKit

theorem run_append_rd (w : World) (base : Nat) (v : Value) (l0 : List Nat) (ho : Own w base v l0) (hbase : base ≤ w.heap.size) (A : Option Addr) (n c : Nat) (l : List Nat) (hr : Rd w A n l) (hn : l0.length + n ≤ 3000000) (ty : TypeId) :
    ∃ v' w', (Builtin.append_ #[22, 22] ty #[v, .slice A n c]).run Try.prog w = .ok v' w' ∧ Own w' base v' (l0 ++ l) ∧ Below base w w' := by
  obtain ⟨i0, hi0, hz0, hz1, hz2⟩ := info_parts info5
  rcases A with _ | ad
  · have h0 : n = 0 := by
      rcases Nat.eq_zero_or_pos n with h | h
      · exact h
      · obtain ⟨b, o, h, _⟩ := hr.2.2 h; cases h
    subst h0
    have : l = [] := List.eq_nil_of_length_eq_zero hr.1
    subst this
    refine ⟨v, w, ?_, by simpa using ho, Below.refl _ _⟩
    rcases ho.2.2 with ⟨rfl, _⟩ | ⟨g, cap, cur, rfl, _, _, hnc, _⟩
    · simp [Builtin.append_, run_underlying Try.underlying22, sizeOf, typeInfo, hi0, Builtin.lenOf, Builtin.firstCells]
    · simp [Builtin.append_, run_underlying Try.underlying22, sizeOf, typeInfo, hi0, Builtin.lenOf, Builtin.firstCells, hnc, storeCells]
  · obtain ⟨v', w', hrun, h1, h2, h3, h4⟩ := run_append_own_at (P := Try.prog) w base 22 ty 5 i0 _ 1 1 Try.underlying22 hi0 hz0 hz1 hz2 rfl (by omega) v l0.length (cB l0) ho.2 ad n c (cB l) (by rw [cB_length, hr.1]; omega) (rd_cells hr) (cB_one l) (by unfold maxLen; omega) (by omega) hbase
    refine ⟨v', w', hrun, ⟨?_, ?_⟩, (Below.refl _ _).grown h2 hbase (fun k hk => (ho.2.lt k hk).1)⟩
    · intro y hy
      simp only [List.mem_append] at hy
      rcases hy with hy | hy
      · exact ho.1 y hy
      · exact hr.2.1 y hy
    · rw [cB_append, List.length_append, hr.1]; exact h1

theorem wpList_append_rd {w : World} {ops : Array Oper} {rest : List Oper} {o : Oper} {a : Act} {Q : Exit → Act → World → Prop} (hgd : o.guard = none) (s x : Operand)
    (hop : o.op = .call { callee := .builtin .append, args := #[s, x], argTypes := #[22, 22] }) (v : Value) (hs : a.eval s = v) (A : Option Addr) (n c : Nat) (hx : a.eval x = .slice A n c)
    (base : Nat) (l0 : List Nat) (ho : Own w base v l0) (hbase : base ≤ w.heap.size) (l : List Nat) (hr : Rd w A n l) (hn : l0.length + n ≤ 3000000)
    (h : ∀ v' w', Own w' base v' (l0 ++ l) → Below base w w' → wpList Try.prog ops Q rest (a.put o.dst v') w') :
    wpList Try.prog ops Q (o :: rest) a w := by
  refine wpList_plain hgd fun K hK => ?_
  obtain ⟨v', w', hrun, h1, h2⟩ := run_append_rd w base v l0 ho hbase A n c l hr hn o.type
  unfold Oper.wp execOp
  simp only [hop, resolve, invoke, builtin, Sem.run_bind, Sem.run_pure, Result.andThen_ok, List.map_toArray, List.map_cons, List.map_nil, hs, hx, hrun]
  exact hK _ _ (h v' w' h1 h2)

/-- A text's bytes. -/
def tEnc (t : List Nat) : List Nat := vEnc t.length ++ t

set_option maxHeartbeats 400000 in
theorem refText_any (a : Option Addr) (n c : Nat) (l : List Nat) (w : World) (h : Rd w a n l) (hn : n ≤ 1000000) :
    Calls Try.prog 9 #[.slice a n c] w fun e w' => ∃ v, e = .returned v ∧ Own w' w.heap.size v (tEnc l) ∧ Below w.heap.size w w' := by
  have HR := Lib.hid h
  have HC := Lib.hid (refNum_any n n w rfl (by omega))
  have h10 : (vEnc n).length ≤ 10 := vEnc_len10 (by omega)
  clear h
  go_enter Try.func9, Try.ntmps9
  go_wp2_with fail
  refine HC.out.mono ?_
  rintro e w1 ⟨g, m, c1, rfl, hm, ho, hb⟩
  have HM := Lib.hid hm
  have HO := Lib.hid ho
  have HB := Lib.hid hb
  clear hm ho hb
  go_wp2_with (at_builtin; refine wpList_append_rd rfl (.tmp 6) (.tmp 7) rfl _ rfl a n c rfl w.heap.size (vEnc n) HO.out HB.out.size l (HR.out.later HB.out) (by omega) ?next)
  case next =>
    intro v' w' ho' hb'
    have HO' := Lib.hid ho'
    have HB' := Lib.hid hb'
    clear ho' hb'
    go_wp2
    go_ret
    exact ⟨_, rfl, by unfold tEnc; rw [HR.out.1]; exact HO'.out, HB.out.trans HB'.out⟩

/-- The slice '.slice a n _' reads as the texts T. -/
def RdT (w : World) (a : Option Addr) (n : Nat) (T : List (List Nat)) : Prop :=
  T.length = n ∧ (0 < n → ∃ b o, a = some ⟨b, o, none⟩ ∧ ∀ j, j < n → ∃ aj cj, w.cell? ⟨b, o + j, none⟩ = some (.slice aj (T.getD j []).length cj) ∧ Rd w aj (T.getD j []).length (T.getD j []))

theorem RdT.at_ {w w' : World} {a : Option Addr} {n : Nat} {T : List (List Nat)} (h : RdT w a n T) (hb : Below w.heap.size w w') {j : Nat} (hj : j < n) :
    ∃ b o aj cj, a = some ⟨b, o, none⟩ ∧ w'.cell? ⟨b, o + j, none⟩ = some (.slice aj (T.getD j []).length cj) ∧ Rd w aj (T.getD j []).length (T.getD j []) := by
  obtain ⟨b, o, rfl, hc⟩ := h.2 (by omega)
  obtain ⟨aj, cj, h1, h2⟩ := hc j hj
  have hlt : b < w.heap.size := World.block_lt_of_cell? w _ h1
  exact ⟨b, o, aj, cj, rfl, (hb.cell (p := ⟨b, o + j, none⟩) hlt).trans h1, h2⟩

theorem tEncs_len (T : List (List Nat)) (h : ∀ t ∈ T, t.length ≤ 500) : (T.flatMap tEnc).length ≤ 510 * T.length := by
  induction T with
  | nil => simp
  | cons x r ih =>
    have h0 := h x (by simp)
    have h1 := vEnc_len10 (n := x.length) (by omega)
    have h2 := ih fun y hy => h y (by simp [hy])
    simp only [List.flatMap_cons, List.length_append, List.length_cons, tEnc]
    omega

theorem take_snocT {T : List (List Nat)} {j : Nat} (hj : j < T.length) : T.take (j + 1) = T.take j ++ [T.getD j []] := by
  rw [List.take_succ_eq_append_getElem hj]; simp [List.getD, hj]

set_option maxHeartbeats 400000 in
set_option maxRecDepth 100000 in
theorem bytesPut_any (a : Option Addr) (n c : Nat) (l : List Nat) (ta : Option Addr) (tn tc : Nat) (T : List (List Nat)) (w : World) (h : Rd w a n l) (ht : RdT w ta tn T) (hn : n ≤ 1000000) (hm : tn ≤ 1000) (h5 : ∀ t ∈ T, t.length ≤ 500) :
    Calls Try.prog 11 #[.slice a n c, .slice ta tn tc] w fun e w' => ∃ v, e = .returned v ∧ Own w' w.heap.size v (l ++ T.flatMap tEnc) ∧ Below w.heap.size w w' := by
  have HT := Lib.hid ht
  have HR := Lib.hid h
  have H5 := Lib.hid h5
  clear ht h h5
  go_enter Try.func11, Try.ntmps11
  go_wp2_with fail
  refine (clone_any a n c l _ HR.out hn).mono ?_
  rintro e w1 ⟨v, rfl, ho, hb⟩
  have HO := Lib.hid ho
  have HB := Lib.hid hb
  clear ho hb
  go_wp2
  go_loopg [5, 12] tn (fun k d i wr => ∃ j, k = tn - j ∧ j ≤ tn ∧ i = .int .i64 (j : Int) ∧ Own wr w.heap.size d (l ++ (T.take j).flatMap tEnc) ∧ Below w.heap.size w wr)
  case atStart => exact ⟨0, rfl, Nat.zero_le _, rfl, by simpa using HO.out, HB.out⟩
  case round =>
    obtain ⟨j, hk, hj, rfl, hoj, hbj⟩ := hrel
    have HK := Lib.hid hk
    have HOJ := Lib.hid hoj
    have HBJ := Lib.hid hbj
    clear hk hoj hbj HO HB
    by_cases hlt : j < tn
    · obtain ⟨tb, to, aj, cj, rfl, hcell, hrj⟩ := HT.out.at_ HBJ.out hlt
      have hT := HT.out.1
      obtain ⟨t, hte⟩ : ∃ t, t = T.getD j [] := ⟨_, rfl⟩
      rw [← hte] at hcell hrj
      have ht5 : t.length ≤ 500 := by rw [hte]; exact H5.out _ (by simp [List.getD, show j < T.length by omega])
      have hlen : (l ++ (T.take j).flatMap tEnc).length ≤ 1600000 := by
        have h1 := tEncs_len (T.take j) fun y hy => H5.out y (List.mem_of_mem_take hy)
        have h2 : (T.take j).length ≤ j := List.length_take_le _ _
        have h3 := HR.out.1
        rw [List.length_append]; omega
      obtain ⟨m, hm'⟩ : ∃ m, m = t.length := ⟨_, rfl⟩
      rw [← hm'] at hcell hrj ht5
      have HTE := Lib.hid hte
      have HME := Lib.hid hm'
      have HLen := Lib.hid hlen
      have HTL := Lib.hid hT
      have HRJ := Lib.hid hrj
      have h10 : (vEnc m).length ≤ 10 := vEnc_len10 (by omega)
      clear hte hm' hT hlen hrj
      go_wp2_with fail
      refine (appendNumber_any _ w.heap.size m _ _ HOJ.out HBJ.out.size (by omega) (by have := HLen.out; omega)).mono ?_
      rintro e w2 ⟨v2, rfl, ho2, hb2⟩
      have HO2 := Lib.hid ho2
      have HB2 := Lib.hid hb2
      clear ho2 hb2
      go_wp2_with (at_builtin; refine wpList_append_rd rfl (.tmp 21) (.tmp 22) rfl _ rfl aj m cj rfl w.heap.size _ HO2.out (HBJ.out.trans HB2.out).size t ?hr ?hl ?next)
      case hr => exact HRJ.out.later (HBJ.out.trans HB2.out)
      case hl => have := HLen.out; rw [List.length_append]; omega
      case next =>
        intro v' w' ho' hb'
        have HO' := Lib.hid ho'
        have HB' := Lib.hid hb'
        clear ho' hb'
        go_wp2
        go_roundg (tn - (j + 1))
        case measure => have := HK.out; omega
        case rel => exact ⟨j + 1, rfl, by omega, by go_num, by
          rw [take_snocT (by have := HTL.out; omega), List.flatMap_append, ← HTE.out]
          have := HO'.out
          simpa [tEnc, HME.out] using this, (HBJ.out.trans HB2.out).trans HB'.out⟩
    · obtain rfl : j = tn := by omega
      go_wp2
      go_ret
      exact ⟨_, rfl, by have := HT.out.1; have h := HOJ.out; rw [List.take_of_length_le (by omega)] at h; exact h, HBJ.out⟩
end Go.Proofs.Ytidbdfioadchaaa
