/- The contracts of the document's Text and of its Bytes of an image, over any world. -/
import Derived.Test.YtaijjogjohbheaaGreatILawRuns
import Derived.Test.YtaijjogjohbheaaGreatIBytes
import Derived.Test.YtaijjogjohbheaaGreatRefBAll
import Derived.Lib.AppendStr
namespace Go.Proofs.YtaijjogjohbheaaGreat
open Go.RowKit
set_option maxRecDepth 100000
set_option linter.unusedSimpArgs false

theorem strCells_strB {l : List Nat} (h : ∀ x ∈ l, x < 256) : Lib.strCells (strB l) = cB l := by
  unfold Lib.strCells strB cB
  rw [strOfNums_data]
  simp only [List.map_map]
  refine List.map_congr_left fun x hx => ?_
  have := h x hx
  simp only [Function.comp]
  congr 1
  simp
  omega

/-- Bytes of a string behind a row of the call's own. -/
theorem wpList_append_str {w : World} {ops : Array Oper} {rest : List Oper} {o : Oper} {a : Act} {Q : Exit → Act → World → Prop} (hgd : o.guard = none) (s x : Operand)
    (hop : o.op = .call { callee := .builtin .append, args := #[s, x], argTypes := #[40, 9] }) (v : Value) (hs : a.eval s = v) (l : List Nat) (hlb : ∀ x ∈ l, x < 256) (hx : a.eval x = .string (strB l))
    (base : Nat) (l0 : List Nat) (ho : Own w base v l0) (hbase : base ≤ w.heap.size) (hn : l0.length + l.length ≤ 3000000)
    (h : ∀ v' w', Own w' base v' (l0 ++ l) → Below base w w' → wpList Tryz.prog ops Q rest (a.put o.dst v') w') :
    wpList Tryz.prog ops Q (o :: rest) a w := by
  obtain ⟨i0, hi0, hz0, hz1, hz2⟩ := info_parts info5
  refine Lib.wpList_append_own_string w hgd s x 40 9 hop base 5 i0 Tryz.underlying40 Tryz.underlying9 hi0 hz0 hz1 hz2 v l0.length (cB l0) hs ho.2 (strB l) hx (by rw [strB_size]; unfold maxLen; omega) (by rw [strB_size]; omega) hbase ?_
  intro v' w' h1 h2 _
  rw [strB_size, strCells_strB hlb, ← cB_append, ← List.length_append] at h1
  refine h v' w' ⟨fun y hy => ?_, h1⟩ ((Below.refl base w).grown h2 hbase fun k hk => (World.ownsRow.lt ho.2 k hk).1)
  rcases List.mem_append.1 hy with hy | hy
  · exact ho.1 y hy
  · exact hlb y hy

set_option maxHeartbeats 1000000 in
theorem refText_any (a : Option Addr) (n c : Nat) (l : List Nat) (w : World) (h : Rd w a n l) (hn : n ≤ 1000000) :
    Calls Tryz.prog 84 #[.slice a n c] w fun e w' => ∃ v, e = .returned v ∧ Own w' w.heap.size v (tEnc l) ∧ Below w.heap.size w w' := by
  have HR := Lib.hid h
  have HN := Lib.hid (refNum_any n (n : Int) w rfl (by omega))
  have h10 : (vEnc n).length ≤ 10 := vEnc_len10 (by omega)
  have H10 := Lib.hid h10
  clear h h10
  go_enter Tryz.func84, Tryz.ntmps84
  go_wp2_with fail
  refine HN.out.mono ?_
  rintro e w2 ⟨g, m, c', rfl, hm, ho, hb⟩
  have HO := Lib.hid ho
  have HB := Lib.hid hb
  have HM := Lib.hid hm
  clear ho hb hm
  go_wp2_with (at_builtin; refine wpList_append_rd rfl (.tmp 6) (.tmp 7) rfl _ rfl a n c rfl w.heap.size _ HO.out HB.out.size l (HR.out.later HB.out) (by have := H10.out; omega) ?_; intro v' w' ho2 hb2)
  have HO2 := Lib.hid ho2
  have HB2 := Lib.hid (HB.out.trans hb2)
  clear ho2 hb2
  go_wp2
  go_ret
  refine ⟨_, rfl, ?_, HB2.out⟩
  have := HO2.out
  unfold tEnc
  rw [HR.out.1]
  exact this

/-- The blocks, one behind the other, are those of the numbers. -/
theorem flat_some {α : Type} (f : α → List Nat) (p : α → Bool) (L : List α) (h : ∀ x ∈ L, p x = false → f x = []) : L.flatMap f = (L.filter p).flatMap f := by
  induction L with
  | nil => rfl
  | cons x L ih =>
    rw [List.flatMap_cons, List.filter_cons, ih fun y hy => h y (List.mem_cons_of_mem _ hy)]
    cases hp : p x with
    | true => simp
    | false => simp [h x List.mem_cons_self hp]

theorem numsR_hasF {F : List (List Nat)} {M : List Rn} (hF : F.length = 256) (h : SetF F M) : numsR M = ((List.range 256).filter (hasF F)).map fun k : Nat => (k : Int) := by
  refine sorted_ext (numsR_sorted (h.pos hF)) ?_ fun z => ?_
  · rw [List.pairwise_map]
    refine List.Pairwise.imp (fun {a b} (h : a < b) => ?_) (List.Pairwise.filter _ List.pairwise_lt_range)
    omega
  · rw [mem_numsR, h.mem]
    simp only [List.mem_map, List.mem_filter, List.mem_range]
    constructor
    · intro hz
      have h1 := fAt_in hF hz
      refine ⟨z.toNat, ⟨by omega, ?_⟩, by omega⟩
      have h2 : fAt F ((z.toNat : Nat) : Int) ≠ [] := by rw [show ((z.toNat : Nat) : Int) = z by omega]; exact hz
      rw [fAt_nat] at h2
      exact decide_eq_true h2
    · rintro ⟨k, ⟨_, hk⟩, rfl⟩
      rw [fAt_nat]
      exact of_decide_eq_true hk

theorem flatten_nums {F : List (List Nat)} {M : List Rn} (hF : F.length = 256) (h : SetF F M) : F.flatten = (numsR M).flatMap (fAt F) := by
  rw [numsR_hasF hF h, List.flatMap_map]
  have e : F = (List.range 256).map fun k => F.getD k [] := by
    apply List.ext_getElem
    · simp [hF]
    · intro j h1 h2
      simp [List.getD, h1]
  have e1 : F.flatten = (List.range 256).flatMap fun k => F.getD k [] := by
    conv => lhs; rw [e]
    rw [List.flatMap_def]
  rw [e1, flat_some (fun k => F.getD k []) (hasF F) (List.range 256)]
  · simp only [fAt_nat]
  · intro k _ hk
    have : ¬ F.getD k [] ≠ [] := of_decide_eq_false hk
    exact Classical.not_not.1 this

theorem getD_memF {F : List (List Nat)} {k : Nat} (h : k < F.length) : F.getD k [] ∈ F := by
  have : F.getD k [] = F[k] := by simp [List.getD, h]
  rw [this]
  exact List.getElem_mem h

theorem take_flat {F : List (List Nat)} {k : Nat} (h : k < F.length) : (F.take (k + 1)).flatten = (F.take k).flatten ++ F.getD k [] := by
  rw [List.take_succ_eq_append_getElem h, List.flatten_append]
  simp [List.getD, h]

theorem take_flat_len {F : List (List Nat)} (h : ∀ l ∈ F, l.length ≤ 32) (k : Nat) : (F.take k).flatten.length ≤ 32 * k := by
  induction k with
  | zero => simp
  | succ k ih =>
    by_cases hk : k < F.length
    · rw [take_flat hk, List.length_append]
      have : F.getD k [] ∈ F := getD_memF hk
      have := h _ this
      omega
    · rw [List.take_of_length_le (by omega)] at ih ⊢
      omega

set_option maxHeartbeats 1000000 in
set_option maxRecDepth 100000 in
theorem refBytes9_any (w : World) (F : List (List Nat)) (hF : okF F) :
    Calls Tryz.prog 50 #[.agg (cS F).toArray] w fun e w' => ∃ v M, e = .returned v ∧ SetF F M ∧ Own w' w.heap.size v (tEnc (bytesF F M)) ∧ Below w.heap.size w w' := by
  have HF := Lib.hid hF
  obtain ⟨g3, hg3⟩ : ∃ g3, g3 = w.heap.size := ⟨_, rfl⟩
  have H32 : Hid ((∀ l ∈ F, l.length ≤ 32) ∧ ∀ l ∈ F, ∀ x ∈ l, x < 256) := Lib.hid ⟨fun l hl => by
    rcases hF.2 l hl with rfl | h
    · simp
    · rw [h.1]; omega, fun l hl x hx => by
    rcases hF.2 l hl with rfl | h
    · cases hx
    · exact h.2 x hx⟩
  clear hF
  go_enter Tryz.func50, Tryz.ntmps50
  go_upto_region 1 with fail
  change Code.wp _ _ _ _ (w.alloc (arrObj F))
  obtain ⟨w2, h2⟩ : ∃ w2, w2 = w.alloc (arrObj F) := ⟨_, rfl⟩
  rw [← h2, ← hg3]
  have HB2 : Hid (Below g3 w w2) := Lib.hid (by rw [h2, hg3]; exact Below.alloc0 _ _)
  have HS2 : Hid (w2.heap.size = g3 + 1) := Lib.hid (by rw [h2, hg3]; simp)
  have HA2 : Hid (w2.heap[g3]? = some (arrObj F)) := Lib.hid (by rw [h2, hg3]; exact heap_alloc_last _ _)
  have HG := Lib.hid hg3
  clear h2 hg3
  go_wp2_with (refine wpList_load_img rfl (.tmp 1) rfl g3 F rfl HA2.out HF.out.1 ?_)
  refine (refBlocks_any w2 F HF.out).mono ?_
  rintro e w3 ⟨v3, M, rfl, ho3, hM, hb3⟩
  obtain ⟨a3, c3, hv3, hr3, hc3, _⟩ := ho3.rd
  subst hv3
  have HM := Lib.hid hM
  have HR3 := Lib.hid hr3
  have HB3 := Lib.hid hb3
  have HML := Lib.hid (hM.len HF.out.1)
  clear ho3 hM hb3 hr3 hc3
  go_wp2_with fail
  refine (refBytes_any a3 M.length c3 M w3 HR3.out (by have := HML.out; omega) (HM.out.pos HF.out.1) (HM.out.ok HF.out.1)).mono ?_
  rintro e w4 ⟨v4, rfl, ho4, hb4⟩
  obtain ⟨B0, hB0⟩ : ∃ B0, B0 = (setNums M).flatMap vEnc := ⟨_, rfl⟩
  rw [← hB0] at ho4
  have HB0 := Lib.hid hB0
  have HB0l : Hid (B0.length ≤ 10000) := Lib.hid (by rw [hB0]; have := setNums_len HM.out HF.out.1; omega)
  have HO4 : Hid (Own w4 (g3 + 1) v4 B0) := Lib.hid (ho4.mono (by have := hb4.size; have := HB3.out.size; rw [HS2.out] at this; omega))
  have HB4 : Hid (Below (g3 + 1) w2 w4) := Lib.hid ((HB3.out.mono (by rw [HS2.out]; omega)).trans (hb4.mono (by have := HB3.out.size; rw [HS2.out] at this; omega)))
  clear ho4 hb4 hB0
  go_wp2
  go_loopg [3, 4] 256 (fun gk v i wr => ∃ k : Nat, gk = 256 - k ∧ k ≤ 256 ∧ i = .int .i64 (k : Int) ∧ Hid (Own wr (g3 + 1) v (B0 ++ (F.take k).flatten)) ∧ Hid (Below (g3 + 1) w2 wr))
  case atStart => exact ⟨0, rfl, by omega, rfl, Lib.hid (by simpa using HO4.out), HB4⟩
  case round =>
    obtain ⟨k, hgk, hk, rfl, HO, HB⟩ := hrel
    have HGK := Lib.hid hgk
    clear hgk
    by_cases hlt : k < 256
    · have hlt' : (k : Int) < 256 := by omega
      have hc := arr_cell (w := wr) (j := k) ((HB.out.block g3 (by omega)).trans HA2.out) (by rw [HF.out.1]; exact hlt)
      have hmem : F.getD k [] ∈ F := getD_memF (by rw [HF.out.1]; exact hlt)
      have HT := Lib.hid (take_flat (F := F) (k := k) (by rw [HF.out.1]; exact hlt))
      obtain ⟨l, hl⟩ : ∃ l, l = F.getD k [] := ⟨_, rfl⟩
      rw [← hl] at hc hmem HT
      have HL := Lib.hid (And.intro (H32.out.1 l hmem) (H32.out.2 l hmem))
      obtain ⟨X, hX⟩ : ∃ X, X = (F.take k).flatten := ⟨_, rfl⟩
      rw [← hX] at HT HO
      have HXl : Hid (X.length ≤ 32 * k) := Lib.hid (by rw [hX]; exact take_flat_len H32.out.1 k)
      obtain ⟨sl, hsl⟩ : ∃ sl, sl = strB l := ⟨_, rfl⟩
      rw [← hsl] at hc
      have HSL := Lib.hid hsl
      clear hl hmem hX hsl
      go_wp2_with (at_builtin; refine wpList_append_str rfl (.tmp 12) (.tmp 15) rfl _ rfl l HL.out.2 (by rw [← HSL.out]; rfl) (g3 + 1) (B0 ++ X) HO.out (by have := HB.out.size; rw [HS2.out] at this; exact this) (by have := HB0l.out; have := HXl.out; have := HL.out.1; rw [List.length_append]; omega) ?_; intro v' w' ho' hb')
      have HO5 : Hid (Own w' (g3 + 1) v' (B0 ++ (F.take (k + 1)).flatten)) := Lib.hid (by rw [HT.out, ← List.append_assoc]; exact ho')
      have HB5 := Lib.hid (HB.out.trans hb')
      clear ho' hb'
      go_wp2
      go_roundg (256 - (k + 1))
      case measure => have := HGK.out; omega
      case rel => exact ⟨k + 1, rfl, by omega, by go_num, HO5, HB5⟩
    · obtain rfl : k = 256 := by omega
      have hX : B0 ++ (F.take 256).flatten = bytesF F M := by
        rw [List.take_of_length_le (by rw [HF.out.1]; omega), flatten_nums HF.out.1 HM.out, HB0.out]
        rfl
      have hXl : (B0 ++ (F.take 256).flatten).length ≤ 20000 := by
        have := take_flat_len H32.out.1 256
        have := HB0l.out
        rw [List.length_append]; omega
      have ho := HO.out
      rw [hX] at ho hXl
      obtain ⟨X, hX2⟩ : ∃ X, X = bytesF F M := ⟨_, rfl⟩
      rw [← hX2] at ho hXl
      obtain ⟨a5, c5, hv5, hr5⟩ := ho.rd
      subst hv5
      have HR5 := Lib.hid hr5
      have HX := Lib.hid hX2
      clear hX hX2 ho hr5
      go_wp2_with fail
      refine (refText_any a5 X.length c5 X _ HR5.out (by omega)).mono ?_
      rintro e w6 ⟨v6, rfl, ho6, hb6⟩
      have HO6 := Lib.hid ho6
      have HB6 := Lib.hid hb6
      clear ho6 hb6
      go_wp2
      go_ret
      refine ⟨_, M, rfl, HM.out, ?_, ?_⟩
      · rw [← HX.out]
        exact HO6.out.mono (by have := HB.out.size; rw [HS2.out, HG.out] at this; omega)
      · rw [← HG.out]
        exact (HB2.out.trans (HB.out.mono (by omega))).trans (HB6.out.mono (by have := HB.out.size; rw [HS2.out] at this; omega))

end Go.Proofs.YtaijjogjohbheaaGreat
