/- The contracts of the document's Text and of its Bytes of an image, over any world. -/
import Derived.Test.YtaijjogjohbheaaGreatILawRuns
import Derived.Test.YtaijjogjohbheaaGreatIBytes
import Derived.Test.YtaijjogjohbheaaGreatERefBytes
import Derived.Lib.AppendStr
import Derived.Test.YtaijjogjohbheaaGreatGMModToMCount
import Derived.Test.YtaijjogjohbheaaGreatGReadyToAppS
import Derived.Lib.MinMax
namespace Go.Proofs.YtaijjogjohbheaaGreat
open Go.RowKit
set_option maxRecDepth 100000
set_option linter.unusedSimpArgs false

theorem strCells_strB {l : List Nat} (h : ∀ x ∈ l, x < 256) : Lib.strCells (strB l) = cB l := by
  unfold Lib.strCells strB cB
  rw [strOfNums_data]
  simp only [List.map_map]
  refine List.map_congr_left fun x hx => ?_
  have := h x hx
  simp only [Function.comp]
  congr 1
  simp
  omega

/-- Bytes of a string behind a row of the call's own. -/
theorem wpList_append_str {w : World} {ops : Array Oper} {rest : List Oper} {o : Oper} {a : Act} {Q : Exit → Act → World → Prop} (hgd : o.guard = none) (s x : Operand)
    (hop : o.op = .call { callee := .builtin .append, args := #[s, x], argTypes := #[40, 9] }) (v : Value) (hs : a.eval s = v) (l : List Nat) (hlb : ∀ x ∈ l, x < 256) (hx : a.eval x = .string (strB l))
    (base : Nat) (l0 : List Nat) (ho : Own w base v l0) (hbase : base ≤ w.heap.size) (hn : l0.length + l.length ≤ 3000000)
    (h : ∀ v' w', Own w' base v' (l0 ++ l) → Below base w w' → wpList Tryz.prog ops Q rest (a.put o.dst v') w') :
    wpList Tryz.prog ops Q (o :: rest) a w := by
  obtain ⟨i0, hi0, hz0, hz1, hz2⟩ := info_parts info5
  refine Lib.wpList_append_own_string w hgd s x 40 9 hop base 5 i0 Tryz.underlying40 Tryz.underlying9 hi0 hz0 hz1 hz2 v l0.length (cB l0) hs ho.2 (strB l) hx (by rw [strB_size]; unfold maxLen; omega) (by rw [strB_size]; omega) hbase ?_
  intro v' w' h1 h2 _
  rw [strB_size, strCells_strB hlb, ← cB_append, ← List.length_append] at h1
  refine h v' w' ⟨fun y hy => ?_, h1⟩ ((Below.refl base w).grown h2 hbase fun k hk => (World.ownsRow.lt ho.2 k hk).1)
  rcases List.mem_append.1 hy with hy | hy
  · exact ho.1 y hy
  · exact hlb y hy

set_option maxHeartbeats 1000000 in
theorem refText_any (a : Option Addr) (n c : Nat) (l : List Nat) (w : World) (h : Rd w a n l) (hn : n ≤ 1000000) :
    Calls Tryz.prog 84 #[.slice a n c] w fun e w' => ∃ v, e = .returned v ∧ Own w' w.heap.size v (tEnc l) ∧ Below w.heap.size w w' := by
  have HR := Lib.hid h
  have HN := Lib.hid (refNum_any n (n : Int) w rfl (by omega))
  have h10 : (vEnc n).length ≤ 10 := vEnc_len10 (by omega)
  have H10 := Lib.hid h10
  clear h h10
  go_enter Tryz.func84, Tryz.ntmps84
  go_wp2_with fail
  refine HN.out.mono ?_
  rintro e w2 ⟨g, m, c', rfl, hm, ho, hb⟩
  have HO := Lib.hid ho
  have HB := Lib.hid hb
  have HM := Lib.hid hm
  clear ho hb hm
  go_wp2_with (at_builtin; refine wpList_append_rd rfl (.tmp 6) (.tmp 7) rfl _ rfl a n c rfl w.heap.size _ HO.out HB.out.size l (HR.out.later HB.out) (by have := H10.out; omega) ?_; intro v' w' ho2 hb2)
  have HO2 := Lib.hid ho2
  have HB2 := Lib.hid (HB.out.trans hb2)
  clear ho2 hb2
  go_wp2
  go_ret
  refine ⟨_, rfl, ?_, HB2.out⟩
  have := HO2.out
  unfold tEnc
  rw [HR.out.1]
  exact this

/-- The blocks, one behind the other, are those of the numbers. -/
theorem flat_some {α : Type} (f : α → List Nat) (p : α → Bool) (L : List α) (h : ∀ x ∈ L, p x = false → f x = []) : L.flatMap f = (L.filter p).flatMap f := by
  induction L with
  | nil => rfl
  | cons x L ih =>
    rw [List.flatMap_cons, List.filter_cons, ih fun y hy => h y (List.mem_cons_of_mem _ hy)]
    cases hp : p x with
    | true => simp
    | false => simp [h x List.mem_cons_self hp]

theorem numsR_hasF {F : List (List Nat)} {M : List Rn} (hF : F.length = 256) (h : SetF F M) : numsR M = ((List.range 256).filter (hasF F)).map fun k : Nat => (k : Int) := by
  refine sorted_ext (numsR_sorted (h.pos hF)) ?_ fun z => ?_
  · rw [List.pairwise_map]
    refine List.Pairwise.imp (fun {a b} (h : a < b) => ?_) (List.Pairwise.filter _ List.pairwise_lt_range)
    omega
  · rw [mem_numsR, h.mem]
    simp only [List.mem_map, List.mem_filter, List.mem_range]
    constructor
    · intro hz
      have h1 := fAt_in hF hz
      refine ⟨z.toNat, ⟨by omega, ?_⟩, by omega⟩
      have h2 : fAt F ((z.toNat : Nat) : Int) ≠ [] := by rw [show ((z.toNat : Nat) : Int) = z by omega]; exact hz
      rw [fAt_nat] at h2
      exact decide_eq_true h2
    · rintro ⟨k, ⟨_, hk⟩, rfl⟩
      rw [fAt_nat]
      exact of_decide_eq_true hk

theorem flatten_nums {F : List (List Nat)} {M : List Rn} (hF : F.length = 256) (h : SetF F M) : F.flatten = (numsR M).flatMap (fAt F) := by
  rw [numsR_hasF hF h, List.flatMap_map]
  have e : F = (List.range 256).map fun k => F.getD k [] := by
    apply List.ext_getElem
    · simp [hF]
    · intro j h1 h2
      simp [List.getD, h1]
  have e1 : F.flatten = (List.range 256).flatMap fun k => F.getD k [] := by
    conv => lhs; rw [e]
    rw [List.flatMap_def]
  rw [e1, flat_some (fun k => F.getD k []) (hasF F) (List.range 256)]
  · simp only [fAt_nat]
  · intro k _ hk
    have : ¬ F.getD k [] ≠ [] := of_decide_eq_false hk
    exact Classical.not_not.1 this

theorem getD_memF {F : List (List Nat)} {k : Nat} (h : k < F.length) : F.getD k [] ∈ F := by
  have : F.getD k [] = F[k] := by simp [List.getD, h]
  rw [this]
  exact List.getElem_mem h

theorem take_flat {F : List (List Nat)} {k : Nat} (h : k < F.length) : (F.take (k + 1)).flatten = (F.take k).flatten ++ F.getD k [] := by
  rw [List.take_succ_eq_append_getElem h, List.flatten_append]
  simp [List.getD, h]

theorem take_flat_len {F : List (List Nat)} (h : ∀ l ∈ F, l.length ≤ 32) (k : Nat) : (F.take k).flatten.length ≤ 32 * k := by
  induction k with
  | zero => simp
  | succ k ih =>
    by_cases hk : k < F.length
    · rw [take_flat hk, List.length_append]
      have : F.getD k [] ∈ F := getD_memF hk
      have := h _ this
      omega
    · rw [List.take_of_length_le (by omega)] at ih ⊢
      omega

set_option maxHeartbeats 1000000 in
set_option maxRecDepth 100000 in
theorem refBytes9_any (w : World) (F : List (List Nat)) (hF : okF F) :
    Calls Tryz.prog 50 #[.agg (cS F).toArray] w fun e w' => ∃ v M, e = .returned v ∧ SetF F M ∧ Own w' w.heap.size v (tEnc (bytesF F M)) ∧ Below w.heap.size w w' := by
  have HF := Lib.hid hF
  obtain ⟨g3, hg3⟩ : ∃ g3, g3 = w.heap.size := ⟨_, rfl⟩
  have H32 : Hid ((∀ l ∈ F, l.length ≤ 32) ∧ ∀ l ∈ F, ∀ x ∈ l, x < 256) := Lib.hid ⟨fun l hl => by
    rcases hF.2 l hl with rfl | h
    · simp
    · rw [h.1]; omega, fun l hl x hx => by
    rcases hF.2 l hl with rfl | h
    · cases hx
    · exact h.2 x hx⟩
  clear hF
  go_enter Tryz.func50, Tryz.ntmps50
  go_upto_region 1 with fail
  change Code.wp _ _ _ _ (w.alloc (arrObj F))
  obtain ⟨w2, h2⟩ : ∃ w2, w2 = w.alloc (arrObj F) := ⟨_, rfl⟩
  rw [← h2, ← hg3]
  have HB2 : Hid (Below g3 w w2) := Lib.hid (by rw [h2, hg3]; exact Below.alloc0 _ _)
  have HS2 : Hid (w2.heap.size = g3 + 1) := Lib.hid (by rw [h2, hg3]; simp)
  have HA2 : Hid (w2.heap[g3]? = some (arrObj F)) := Lib.hid (by rw [h2, hg3]; exact heap_alloc_last _ _)
  have HG := Lib.hid hg3
  clear h2 hg3
  go_wp2_with (refine wpList_load_img rfl (.tmp 1) rfl g3 F rfl HA2.out HF.out.1 ?_)
  refine (refBlocks_any w2 F HF.out).mono ?_
  rintro e w3 ⟨v3, M, rfl, ho3, hM, hb3⟩
  obtain ⟨a3, c3, hv3, hr3, hc3, _⟩ := ho3.rd
  subst hv3
  have HM := Lib.hid hM
  have HR3 := Lib.hid hr3
  have HB3 := Lib.hid hb3
  have HML := Lib.hid (hM.len HF.out.1)
  clear ho3 hM hb3 hr3 hc3
  go_wp2_with fail
  refine (refBytes_any a3 M.length c3 M w3 HR3.out (by have := HML.out; omega) (HM.out.pos HF.out.1) (HM.out.ok HF.out.1)).mono ?_
  rintro e w4 ⟨v4, rfl, ho4, hb4⟩
  obtain ⟨B0, hB0⟩ : ∃ B0, B0 = (setNums M).flatMap vEnc := ⟨_, rfl⟩
  rw [← hB0] at ho4
  have HB0 := Lib.hid hB0
  have HB0l : Hid (B0.length ≤ 10000) := Lib.hid (by rw [hB0]; have := setNums_len HM.out HF.out.1; omega)
  have HO4 : Hid (Own w4 (g3 + 1) v4 B0) := Lib.hid (ho4.mono (by have := hb4.size; have := HB3.out.size; rw [HS2.out] at this; omega))
  have HB4 : Hid (Below (g3 + 1) w2 w4) := Lib.hid ((HB3.out.mono (by rw [HS2.out]; omega)).trans (hb4.mono (by have := HB3.out.size; rw [HS2.out] at this; omega)))
  clear ho4 hb4 hB0
  go_wp2
  go_loopg [3, 4] 256 (fun gk v i wr => ∃ k : Nat, gk = 256 - k ∧ k ≤ 256 ∧ i = .int .i64 (k : Int) ∧ Hid (Own wr (g3 + 1) v (B0 ++ (F.take k).flatten)) ∧ Hid (Below (g3 + 1) w2 wr))
  case atStart => exact ⟨0, rfl, by omega, rfl, Lib.hid (by simpa using HO4.out), HB4⟩
  case round =>
    obtain ⟨k, hgk, hk, rfl, HO, HB⟩ := hrel
    have HGK := Lib.hid hgk
    clear hgk
    by_cases hlt : k < 256
    · have hlt' : (k : Int) < 256 := by omega
      have hc := arr_cell (w := wr) (j := k) ((HB.out.block g3 (by omega)).trans HA2.out) (by rw [HF.out.1]; exact hlt)
      have hmem : F.getD k [] ∈ F := getD_memF (by rw [HF.out.1]; exact hlt)
      have HT := Lib.hid (take_flat (F := F) (k := k) (by rw [HF.out.1]; exact hlt))
      obtain ⟨l, hl⟩ : ∃ l, l = F.getD k [] := ⟨_, rfl⟩
      rw [← hl] at hc hmem HT
      have HL := Lib.hid (And.intro (H32.out.1 l hmem) (H32.out.2 l hmem))
      obtain ⟨X, hX⟩ : ∃ X, X = (F.take k).flatten := ⟨_, rfl⟩
      rw [← hX] at HT HO
      have HXl : Hid (X.length ≤ 32 * k) := Lib.hid (by rw [hX]; exact take_flat_len H32.out.1 k)
      obtain ⟨sl, hsl⟩ : ∃ sl, sl = strB l := ⟨_, rfl⟩
      rw [← hsl] at hc
      have HSL := Lib.hid hsl
      clear hl hmem hX hsl
      go_wp2_with (at_builtin; refine wpList_append_str rfl (.tmp 12) (.tmp 15) rfl _ rfl l HL.out.2 (by rw [← HSL.out]; rfl) (g3 + 1) (B0 ++ X) HO.out (by have := HB.out.size; rw [HS2.out] at this; exact this) (by have := HB0l.out; have := HXl.out; have := HL.out.1; rw [List.length_append]; omega) ?_; intro v' w' ho' hb')
      have HO5 : Hid (Own w' (g3 + 1) v' (B0 ++ (F.take (k + 1)).flatten)) := Lib.hid (by rw [HT.out, ← List.append_assoc]; exact ho')
      have HB5 := Lib.hid (HB.out.trans hb')
      clear ho' hb'
      go_wp2
      go_roundg (256 - (k + 1))
      case measure => have := HGK.out; omega
      case rel => exact ⟨k + 1, rfl, by omega, by go_num, HO5, HB5⟩
    · obtain rfl : k = 256 := by omega
      have hX : B0 ++ (F.take 256).flatten = bytesF F M := by
        rw [List.take_of_length_le (by rw [HF.out.1]; omega), flatten_nums HF.out.1 HM.out, HB0.out]
        rfl
      have hXl : (B0 ++ (F.take 256).flatten).length ≤ 20000 := by
        have := take_flat_len H32.out.1 256
        have := HB0l.out
        rw [List.length_append]; omega
      have ho := HO.out
      rw [hX] at ho hXl
      obtain ⟨X, hX2⟩ : ∃ X, X = bytesF F M := ⟨_, rfl⟩
      rw [← hX2] at ho hXl
      obtain ⟨a5, c5, hv5, hr5⟩ := ho.rd
      subst hv5
      have HR5 := Lib.hid hr5
      have HX := Lib.hid hX2
      clear hX hX2 ho hr5
      go_wp2_with fail
      refine (refText_any a5 X.length c5 X _ HR5.out (by omega)).mono ?_
      rintro e w6 ⟨v6, rfl, ho6, hb6⟩
      have HO6 := Lib.hid ho6
      have HB6 := Lib.hid hb6
      clear ho6 hb6
      go_wp2
      go_ret
      refine ⟨_, M, rfl, HM.out, ?_, ?_⟩
      · rw [← HX.out]
        exact HO6.out.mono (by have := HB.out.size; rw [HS2.out, HG.out] at this; omega)
      · rw [← HG.out]
        exact (HB2.out.trans (HB.out.mono (by omega))).trans (HB6.out.mono (by have := HB.out.size; rw [HS2.out] at this; omega))

end Go.Proofs.YtaijjogjohbheaaGreat

/- The document's store's bytes. -/
namespace Go.Proofs.YtaijjogjohbheaaGreat
open Go.RowKit
set_option maxRecDepth 100000
set_option linter.unusedSimpArgs false

theorem rdOf {w W : World} {A : Option Addr} {m c : Nat} {l : List Nat} (h : Own w W.heap.size (.slice A m c) l ∧ m = l.length ∧ Below W.heap.size W w) : Rd w A m l := h.1.asSlice1 h.2.1.symm

theorem rdOf2 {w : World} {base m c : Nat} {A : Option Addr} {l : List Nat} (hm : m = l.length) (h : Own w base (.slice A m c) l) : Rd w A m l := h.asSlice1 hm.symm

theorem rdOf2_lo {w : World} {base m c : Nat} {A : Option Addr} {l : List Nat} (h : Own w base (.slice A m c) l) (_ : 0 < m) (b o : Nat) (e : A = some ⟨b, o, none⟩) : base ≤ b := by
  subst e
  exact (World.ownsRow.lt h.2 b rfl).1

theorem refEnc_any (w : World) (G : List (List Nat)) (hG : okF G) (il : Nat) (hil : il = (iEnc G).length) :
    Calls Tryz.prog 50 #[.agg (cS G).toArray] w fun e w' => ∃ a c, e = .returned (.slice a il c) ∧ Hid (Own w' w.heap.size (.slice a il c) (iEnc G) ∧ Below w.heap.size w w') := by
  subst hil
  refine (refBytes9_any w G hG).mono ?_
  rintro e w' ⟨v, M, rfl, hM, ho, hb⟩
  rw [← iEnc_eq hM] at ho
  obtain ⟨a, c, rfl, _, _⟩ := ho.sl
  exact ⟨a, c, rfl, Lib.hid ⟨ho, hb⟩⟩

theorem numEnc_any (w : World) (x : Nat) (hx : x ≤ 10000) :
    Calls Tryz.prog 51 #[.int .u64 (x : Int)] w fun e w' => ∃ a m c, e = .returned (.slice a m c) ∧ Hid (Own w' w.heap.size (.slice a m c) (vEnc x) ∧ m = (vEnc x).length ∧ Below w.heap.size w w') := by
  refine (refNum_any x (x : Int) w rfl (by omega)).mono ?_
  rintro e w' ⟨g, m, c, rfl, hm, ho, hb⟩
  exact ⟨_, m, c, rfl, Lib.hid ⟨ho, hm, hb⟩⟩

/-- The snapshots of the first of a row. -/
def snU (U : List Mu) : List (Nat × List (List Nat)) := snapsF 0 (U.map fun x => x.map (·.2))

theorem snU_snoc (U : List Mu) (x : Mu) : snU (U ++ [x]) = snU U ++ snapsF U.length [x.map (·.2)] := by
  unfold snU
  rw [List.map_append, snapsF_append, List.length_map, Nat.zero_add]
  rfl

theorem snU_len (U : List Mu) : (snU U).length ≤ U.length := by
  unfold snU
  rw [snapsF_length]
  have := List.countP_le_length (p := fun x : Option (List (List Nat)) => x.isSome) (l := U.map fun x => x.map (·.2))
  simpa using this

theorem Own.asideL {w w' : World} {base : Nat} {v v0 : Value} {l : List Nat} (h : Own w base v l) (hs : ∀ k, k < w.heap.size → v0.ownBlock ≠ some k → w'.heap[k]? = w.heap[k]?) (hne : ∀ g, v.ownBlock = some g → v0.ownBlock ≠ some g) : Own w' base v l := by
  refine ⟨h.1, h.2.1, ?_⟩
  rcases h.2.2 with h1 | ⟨g, cap, cur, hv, hbg, hgo, rest⟩
  · exact .inl h1
  · exact .inr ⟨g, cap, cur, hv, hbg, (hs g (lt_of_block hgo) (hne g (by rw [hv]; rfl))).trans hgo, rest⟩

theorem snapsF_mem (i : Nat) (A : List (Option (List (List Nat)))) : ∀ p ∈ snapsF i A, some p.2 ∈ A := by
  induction A generalizing i with
  | nil => simp [snapsF]
  | cons x A ih =>
    intro p hp
    cases x with
    | none => exact List.mem_cons_of_mem _ (ih (i + 1) p (by simpa [snapsF] using hp))
    | some F =>
      simp only [snapsF, List.mem_cons] at hp
      rcases hp with rfl | hp
      · exact List.mem_cons_self
      · exact List.mem_cons_of_mem _ (ih (i + 1) p hp)

theorem xEnc_lenB {X : List (Nat × List (List Nat))} (h : ∀ p ∈ X, okF p.2 ∧ p.1 ≤ 10000) : (xEnc X).length ≤ 9400 * X.length := by
  induction X with
  | nil => simp [xEnc]
  | cons p X ih =>
    have h1 := ih fun q hq => h q (by simp [hq])
    have h2 := iEnc_len (h p (by simp)).1
    have h3 := vEnc_len 1 p.1 (by have := (h p (by simp)).2; omega)
    rw [xEnc_cons, List.length_append, List.length_append, List.length_cons]
    omega

theorem snU_ok {U : List Mu} (h : ∀ g G, some (g, G) ∈ U → okF G) (hl : U.length ≤ 1000) : ∀ p ∈ snU U, okF p.2 ∧ p.1 ≤ 10000 := by
  intro p hp
  have h1 := snapsF_ids 0 _ p hp
  rw [List.length_map] at h1
  have h2 := snapsF_mem 0 _ p hp
  obtain ⟨x, hx, hxe⟩ := List.mem_map.1 h2
  rcases x with _ | ⟨g, G⟩
  · cases hxe
  · simp only [Option.map_some, Option.some.injEq] at hxe
    subst hxe
    exact ⟨h g _ hx, by omega⟩

set_option maxHeartbeats 4000000 in
theorem mbytes_any (w : World) (V : List Nat) (gm : Nat) (F : List (List Nat)) (A : List (Option (List (List Nat)))) (room : Nat) (h : Mod w V gm F A room) (hA : A.length ≤ 100) :
    Calls Tryz.prog 30 #[.pointer (some ⟨gm, 0, none⟩)] w fun e w' => ∃ v, e = .returned v ∧ Own w' w.heap.size v (sEnc F A.length (snapsF 1 A)) ∧ Below w.heap.size w w' := by
  obtain ⟨a, n, c, U, h1, h2, h3, h4, h5, h6, h7, h8⟩ := h
  have hUl : U.length = n := h4.1
  have hn : n = A.length + 1 := by
    have := congrArg List.length h5
    simp only [List.length_map, List.length_cons] at this
    omega
  have hn2 : n ≤ 101 := by omega
  have HU : Hid (U.length = n ∧ snU U = snapsF 1 A ∧ U.getD 0 none = none) := by
    refine Lib.hid ⟨hUl, by unfold snU; rw [h5]; rfl, ?_⟩
    have := congrArg (fun l => l.getD 0 none) h5
    simp only [List.getD_cons_zero] at this
    rw [getD_map _ _ _ none none rfl] at this
    cases hU : U.getD 0 none with
    | none => rfl
    | some y => rw [hU] at this; cases this
  have H1 := Lib.hid h1
  have H2 := Lib.hid h2
  have H4 := Lib.hid h4
  have H6 := Lib.hid h6
  have HNn := Lib.hid hn
  have hwA : IntKind.u64.wrap (A.length : Int) = (A.length : Int) := by rw [IntKind.wrap_u64]; omega
  have hgm := lt_of_block h1
  obtain ⟨fl, hfl⟩ : ∃ fl, fl = (iEnc F).length := ⟨_, rfl⟩
  have HFl := Lib.hid hfl
  have hfl2 : fl ≤ 9300 := by rw [hfl]; exact iEnc_len h2
  have HR := Lib.hid (refEnc_any w F h2 fl hfl)
  have HGM := Lib.hid hgm
  clear h1 h2 h3 h4 h5 h6 h7 h8 hUl hfl hgm hn
  go_enter Tryz.func30, Tryz.ntmps30
  go_wp2_with (refine wpList_load_mod rfl (.tmp 10) rfl rfl H1.out H2.out.1 ?_)
  refine HR.out.mono ?_
  rintro e w1 ⟨ab, cb, rfl, HB0⟩
  have HM1 : Hid (w1.heap[gm]? = some (modObj F a n c room)) := Lib.hid ((HB0.out.2.block gm HGM.out).trans H1.out)
  have d256 := mod_row HM1.out H2.out.1
  go_wp2
  go_loopg [4, 5, 18] n (fun gk s4 s5 s18 wr => ∃ (j q : Nat) (sv : Value), gk = n - j ∧ j ≤ n ∧ s18 = .int .i64 (j : Int) ∧ sv = s5 ∧ s4 = .int .i64 (q : Int) ∧ q ≤ j ∧ Hid (q = (snU (U.take j)).length) ∧ Hid (Own wr w1.heap.size sv (xEnc (snU (U.take j)))) ∧ Hid (Below w1.heap.size w1 wr))
  case atStart => exact ⟨0, 0, _, rfl, Nat.zero_le _, rfl, rfl, rfl, Nat.le_refl _, Lib.hid (by simp [snU, snapsF]), Lib.hid (by simpa [snU, snapsF, xEnc] using Own.nil _ _), Lib.hid (Below.refl _ _)⟩
  case round =>
    obtain ⟨j, q, sv, hgk, hj, rfl, rfl, rfl, hqj, HQ, HO, HB⟩ := hrel
    have HGK := Lib.hid hgk
    clear hgk
    by_cases hlt : j < n
    · have htk := take_mu (U := U) (j := j) (by rw [HU.out.1]; exact hlt)
      have htl : (U.take j).length = j := by rw [List.length_take, HU.out.1]; omega
      have hsn := snU_snoc (U.take j) (U.getD j none)
      rw [← htk, htl] at hsn
      obtain ⟨b, o, rfl, hc⟩ := H4.out.2 (by omega)
      have hcw := hc j hlt
      have hcj : wr.cell? ⟨b, o + j, none⟩ = some (pQ (U.getD j none)) := by
        have hb : Below w.heap.size w wr := HB0.out.2.trans (HB.out.mono HB0.out.2.size)
        exact (hb.cell (p := ⟨b, o + j, none⟩) (World.block_lt_of_cell? w _ hcw)).trans hcw
      clear hc hcw htk
      cases hU : U.getD j none with
      | none =>
        rw [hU] at hcj hsn
        simp only [pQ, Option.map_none] at hcj
        have e : snU (U.take (j + 1)) = snU (U.take j) := by rw [hsn]; simp [snapsF]
        rw [← e] at HQ HO
        clear hU hsn e htl d256
        by_cases hj0 : j = 0
        · subst hj0
          rw [Nat.add_zero] at hcj
          go_wp2
          go_roundg (n - (0 + 1))
          case measure => have := HGK.out; omega
          case rel => exact ⟨0 + 1, q, sv, rfl, by omega, by go_num, rfl, rfl, by omega, HQ, HO, HB⟩
        · have hj1 : 0 < j := by omega
          go_wp2
          go_roundg (n - (j + 1))
          case measure => have := HGK.out; omega
          case rel => exact ⟨j + 1, q, sv, rfl, by omega, by go_num, rfl, rfl, by omega, HQ, HO, HB⟩
      | some y =>
        obtain ⟨g, G⟩ := y
        have hj1 : 0 < j := by
          rcases Nat.eq_zero_or_pos j with h0 | h0
          · subst h0; rw [HU.out.2.2] at hU; cases hU
          · exact h0
        have hmem : some (g, G) ∈ U := by
          have : U.getD j none = U[j]'(by rw [HU.out.1]; exact hlt) := by simp [List.getD, show j < U.length by rw [HU.out.1]; exact hlt]
          rw [this] at hU
          rw [← hU]
          exact List.getElem_mem _
        obtain ⟨k1, k2, k3⟩ := H6.out g G hmem
        rw [hU] at hcj hsn
        simp only [pQ, Option.map_some] at hcj
        have hsn' : snU (U.take (j + 1)) = snU (U.take j) ++ [(j, G)] := by rw [hsn]; rfl
        have hgl : g < w1.heap.size := Nat.lt_of_lt_of_le (lt_of_block k1) HB0.out.2.size
        have hg1 : w1.heap[g]? = some (arrObj G) := (HB0.out.2.block g (lt_of_block k1)).trans k1
        have HRng : Hid (∀ W, Below w1.heap.size w1 W → W.rangeAt g 0 (cS G)) := by
          refine Lib.hid fun W hW i v hv => ?_
          rw [Nat.zero_add, cell_of_row W g i _ _ _ ((hW.block g hgl).trans hg1), ← hv]
          simp
        have HGl := Lib.hid k2.1
        obtain ⟨il, hil⟩ : ∃ il, il = (iEnc G).length := ⟨_, rfl⟩
        have HIl := Lib.hid hil
        have hil2 : il ≤ 9300 := by rw [hil]; exact iEnc_len k2
        have HImg : Hid (∀ W, _) := Lib.hid fun W => refEnc_any W G k2 il hil
        have HNum : Hid (∀ W, _) := Lib.hid fun W => numEnc_any W j (by omega)
        obtain ⟨R, hR⟩ : ∃ R, R = xEnc (snU (U.take j)) := ⟨_, rfl⟩
        have HX2 : Hid (xEnc (snU (U.take (j + 1))) = R ++ (vEnc j ++ iEnc G)) := Lib.hid (by rw [hsn', xEnc_append, xEnc_one, hR])
        have HQ2 : Hid (q + 1 = (snU (U.take (j + 1))).length) := Lib.hid (by rw [hsn', List.length_append, ← HQ.out]; rfl)
        have HRl : Hid (R.length ≤ 1000000) := by
          refine Lib.hid ?_
          have h1 := snU_len (U.take j)
          have h2 := xEnc_lenB (X := snU (U.take j)) (snU_ok (fun g G hg => (H6.out g G (List.mem_of_mem_take hg)).2.1) (by rw [List.length_take]; omega))
          rw [List.length_take] at h1
          rw [hR]; omega
        have HVl : Hid ((vEnc j).length ≤ 2) := Lib.hid (vEnc_len 1 j (by omega))
        rw [← hR] at HO
        have HSw : Hid (Below w1.heap.size w1 wr.drew) := Lib.hid HB.out.drew
        have HOr : Hid (Own wr.drew w1.heap.size sv R) := Lib.hid (HO.out.kept (Below.refl _ _).drew)
        have HOwn : Hid (∀ k, sv.ownBlock = some k → w1.heap.size ≤ k ∧ k < wr.heap.size) := Lib.hid fun k hk => World.ownsRow.lt HO.out.2 k hk
        have hwj : IntKind.u64.wrap (j : Int) = (j : Int) := by rw [IntKind.wrap_u64]; omega
        have hne := fun W => neq_imgp g W
        clear hU hmem k1 k2 k3 hsn hsn' hgl hg1 hil hR d256 htl
        go_upto_region 9 with fail
        clear hne hcj
        as_aux_lemma =>
          refine wp_region_held_drew (S := fun W => Below w1.heap.size w1 W) (by kernel_rfl) HSw.out (fun _ => ?_)
          refine wpAnyH_take (i := 0) (v := ?vq0) rfl (by kernel_rfl) (by kernel_rfl) (by kernel_rfl) (fun _ _ _ h => h) (Or.inl ⟨by rfl, ?hq0⟩) HSw.out ?rq0
          case hq0 => (intro W hW; go_simp; try with_reducible rfl)
          simp only [Act.put, List.getElem_toArray, List.getElem_cons_succ, List.getElem_cons_zero, List.setIfInBounds_toArray, List.set_cons_zero, List.set_cons_succ]
          refine wpAnyH_take (i := 1) (v := ?vq1) rfl (by kernel_rfl) (by kernel_rfl) (by kernel_rfl) (fun _ _ _ h => h) (Or.inl ⟨by rfl, ?hq1⟩) HSw.out ?rq1
          case hq1 => (intro W hW; go_simp; try with_reducible rfl)
          simp only [Act.put, List.getElem_toArray, List.getElem_cons_succ, List.getElem_cons_zero, List.setIfInBounds_toArray, List.set_cons_zero, List.set_cons_succ]
          refine wpAnyH_take (i := 2) (v := ?vq2) rfl (by kernel_rfl) (by kernel_rfl) (by kernel_rfl) (fun _ _ _ h => h) (Or.inl ⟨by rfl, ?hq2⟩) HSw.out ?rq2
          case hq2 => (intro W hW; go_simp; try with_reducible rfl)
          simp only [Act.put, List.getElem_toArray, List.getElem_cons_succ, List.getElem_cons_zero, List.setIfInBounds_toArray, List.set_cons_zero, List.set_cons_succ]
          refine wpAnyH_take (i := 5) (v := ?vq5) rfl (by kernel_rfl) (by kernel_rfl) (by kernel_rfl) (fun _ _ _ h => h) (Or.inl ⟨by rfl, ?hq5⟩) HSw.out ?rq5
          case hq5 => (intro W hW; go_simp; try with_reducible rfl)
          simp only [Act.put, List.getElem_toArray, List.getElem_cons_succ, List.getElem_cons_zero, List.setIfInBounds_toArray, List.set_cons_zero, List.set_cons_succ]
          refine wpAnyH_take (i := 6) (v := ?vq6) rfl (by kernel_rfl) (by kernel_rfl) (by kernel_rfl) (fun _ _ _ h => h) (Or.inl ⟨by rfl, ?hq6⟩) HSw.out ?rq6
          case hq6 => (intro W hW; go_simp; try with_reducible rfl)
          simp only [Act.put, List.getElem_toArray, List.getElem_cons_succ, List.getElem_cons_zero, List.setIfInBounds_toArray, List.set_cons_zero, List.set_cons_succ]
          refine wpAnyH_take (i := 7) (v := .agg (cS G).toArray) rfl (by kernel_rfl) (by kernel_rfl) (by kernel_rfl) (fun _ _ _ h => h) (yieldsIf_load_mid (by rfl) 37 (.tmp 37) rfl g 0 rfl (cS G) _ (fun W hW => HRng.out W hW) Tryz.underlying37 rfl (size_imgL HGl.out)) HSw.out ?rq7
          simp only [Act.put, List.getElem_toArray, List.getElem_cons_succ, List.getElem_cons_zero, List.setIfInBounds_toArray, List.set_cons_zero, List.set_cons_succ]
          refine wpAnyH_ready (rs := [3]) (by kernel_rfl) (by simp) ?_
          refine AllReadyH.cons rfl (fun K hK => ?_) AllReadyH.nil
          refine ready_call (f := 51) (vs := #[.int .u64 (j : Int)]) (by rfl) (by (go_simp; try with_reducible rfl)) ?_
          refine (HNum.out _).mono ?_
          rintro e t1 ⟨an, mn, cn, rfl, HNt1⟩
          have HSt1 : Hid (Below w1.heap.size w1 t1) := Lib.hid (HSw.out.trans (HNt1.out.2.2.mono HSw.out.size))
          refine ⟨_, rfl, hK.out _ _ HSt1.out (fun _ => ?_)⟩
          clear hK K
          simp only [Act.put, List.getElem_toArray, List.getElem_cons_succ, List.getElem_cons_zero, List.setIfInBounds_toArray, List.set_cons_zero, List.set_cons_succ]
          refine wpAnyH_ready (rs := [4]) (by kernel_rfl) (by simp) ?_
          refine AllReadyH.cons rfl (fun K hK => ?_) AllReadyH.nil
          refine step_append_rdG rfl (.tmp 31) (.tmp 34) rfl sv rfl an mn cn rfl w1.heap.size R (HOr.out.kept HNt1.out.2.2) HSt1.out.size (vEnc j) (rdOf HNt1.out) (by have := HRl.out; have := HVl.out; have := ((rdOf HNt1.out)).1; omega) ?_
          intro v35 t2 ho35 hg35
          have HSt2 : Hid (Below w1.heap.size w1 t2) := Lib.hid (HSt1.out.grown hg35 HSt1.out.size (fun k hk => (HOwn.out k hk).1))
          have HO35 := Lib.hid ho35
          have HG35 := Lib.hid hg35
          refine hK.out _ _ HSt2.out (fun _ => ?_)
          clear hK K ho35 hg35
          simp only [Act.put, List.getElem_toArray, List.getElem_cons_succ, List.getElem_cons_zero, List.setIfInBounds_toArray, List.set_cons_zero, List.set_cons_succ]
          refine wpAnyH_ready (rs := [8]) (by kernel_rfl) (by simp) ?_
          refine AllReadyH.cons rfl (fun K hK => ?_) AllReadyH.nil
          refine ready_call (f := 50) (vs := #[.agg (cS G).toArray]) (by rfl) (by (go_simp; try with_reducible rfl)) ?_
          refine (HImg.out _).mono ?_
          rintro e t3 ⟨ai, ci, rfl, HIt3⟩
          have HSt3 : Hid (Below w1.heap.size w1 t3) := Lib.hid (HSt2.out.trans (HIt3.out.2.mono HSt2.out.size))
          refine ⟨_, rfl, hK.out _ _ HSt3.out (fun _ => ?_)⟩
          clear hK K
          simp only [Act.put, List.getElem_toArray, List.getElem_cons_succ, List.getElem_cons_zero, List.setIfInBounds_toArray, List.set_cons_zero, List.set_cons_succ]
          refine wpAnyH_ready (rs := [9]) (by kernel_rfl) (by simp) ?_
          refine AllReadyH.cons rfl (fun K hK => ?_) AllReadyH.nil
          refine step_append_rdG rfl (.tmp 35) (.tmp 39) rfl v35 rfl ai il ci rfl w1.heap.size (R ++ vEnc j) (HO35.out.kept HIt3.out.2) HSt3.out.size (iEnc G) (rdOf2 HIl.out HIt3.out.1) (by have := HRl.out; have := HVl.out; rw [List.length_append]; omega) ?_
          intro v40 t9 ho40 hg40
          have HS9 : Hid (Below w1.heap.size w1 t9) := Lib.hid (HSt3.out.grown hg40 HSt3.out.size (fun k hk => (World.ownsRow.lt ((HO35.out.kept HIt3.out.2)).2 k hk).1))
          have HO40 := Lib.hid ho40
          refine hK.out _ _ HS9.out (fun _ => ?_)
          clear hK K ho40 hg40
          simp only [Act.put, List.getElem_toArray, List.getElem_cons_succ, List.getElem_cons_zero, List.setIfInBounds_toArray, List.set_cons_zero, List.set_cons_succ]
          refine wpAnyH_take (i := 10) (v := ?vz10) rfl (by kernel_rfl) (by kernel_rfl) (by kernel_rfl) (fun _ _ _ h => h) (Or.inl ⟨by rfl, ?hz10⟩) HS9.out ?rz10
          case hz10 => (intro W hW; go_simp; try with_reducible rfl)
          simp only [Act.put, List.getElem_toArray, List.getElem_cons_succ, List.getElem_cons_zero, List.setIfInBounds_toArray, List.set_cons_zero, List.set_cons_succ]
          refine wpAnyH_done (by kernel_rfl) ?_ _
          go_wp2
          go_roundg (n - (j + 1))
          case measure => have := HGK.out; omega
          case rel => exact ⟨j + 1, q + 1, v40, rfl, by omega, by go_num, rfl, by go_num, by omega, HQ2, Lib.hid (by rw [HX2.out, ← List.append_assoc]; exact HO40.out), HS9⟩
    · obtain rfl : j = n := by omega
      have hq := HQ.out
      have ho := HO.out
      rw [List.take_of_length_le (by rw [HU.out.1]; exact Nat.le_refl _), HU.out.2.1] at hq ho
      obtain ⟨ar, cr, hsv, _, _⟩ := ho.sl
      obtain ⟨xl, hxl0⟩ : ∃ xl, xl = (xEnc (snapsF 1 A)).length := ⟨_, rfl⟩
      rw [← hxl0] at hsv
      have HXl0 := Lib.hid hxl0
      subst hsv
      clear hxl0
      have HX := Lib.hid ho
      have HQ' := Lib.hid hq
      have hxl : Hid ((xEnc (snapsF 1 A)).length ≤ 1000000) := by
        refine Lib.hid ?_
        have h1 := snU_len U
        have h2 := xEnc_lenB (X := snU U) (snU_ok (fun g G hg => (H6.out g G hg).2.1) (by rw [HU.out.1]; omega))
        rw [HU.out.2.1] at h1 h2
        rw [HU.out.1] at h1
        omega
      have HBR : Hid (Own wr w.heap.size (.slice ab fl cb) (iEnc F)) := Lib.hid (HB0.out.1.kept HB.out)
      have HBw : Hid (Below w.heap.size w wr) := Lib.hid (HB0.out.2.trans (HB.out.mono HB0.out.2.size))
      have e256 : wr.cell? ⟨gm, 256, none⟩ = some (.slice a j c) := mod_row ((HB.out.block gm (Nat.lt_of_lt_of_le HGM.out HB0.out.2.size)).trans HM1.out) H2.out.1
      have HN1 : Hid (∀ W, _) := Lib.hid fun W => numEnc_any W A.length (by omega)
      have hq3 : q ≤ 101 := by omega
      have HN2 : Hid (∀ W, _) := Lib.hid fun W => numEnc_any W q (by omega)
      have hwq : IntKind.u64.wrap (q : Int) = (q : Int) := by rw [IntKind.wrap_u64]; omega
      have hmax : max ((j : Int) - 1) 0 = (A.length : Int) := by have := HNn.out; omega
      clear hq ho d256
      go_wp2_with fail
      refine (HN1.out _).mono ?_
      rintro e w2 ⟨a2, m2, c2, rfl, HE2⟩
      have HB2 : Hid (Below w.heap.size w w2) := Lib.hid (HBw.out.trans (HE2.out.2.2.mono HBw.out.size))
      go_wp2_with (at_builtin; refine wpList_append_rdL rfl (.tmp 42) (.tmp 51) rfl _ rfl a2 m2 c2 rfl w.heap.size _ (HBR.out.kept HE2.out.2.2) HB2.out.size _ (rdOf HE2.out) (by have h1 := HFl.out; have h2 := (rdOf HE2.out).1; have h3 := vEnc_len 1 A.length (by omega); omega) ?_; intro v3 w3 ho3 hb3 hs3 hl3)
      have HO3 := Lib.hid ho3
      have HB3 := Lib.hid (HB2.out.trans hb3)
      have HXw : Hid (∀ g, (Value.slice ar xl cr).ownBlock = some g → w1.heap.size ≤ g ∧ g < wr.heap.size) := Lib.hid fun g hg => World.ownsRow.lt HX.out.2 g hg
      have HA0 : Hid (∀ g, (Value.slice ab fl cb).ownBlock = some g → g < w1.heap.size) := Lib.hid fun g hg => (World.ownsRow.lt HB0.out.1.2 g hg).2
      have HX3 := Lib.hid ((HX.out.kept HE2.out.2.2).asideL hs3 (fun g h1 h2 => by have := HA0.out g h2; have := (HXw.out g h1).1; omega))
      have HA3 : Hid (∀ g, v3.ownBlock = some g → g < w1.heap.size ∨ wr.heap.size ≤ g) := Lib.hid fun g hg => by
        rcases hl3 g hg with h1 | h1
        · exact .inl (HA0.out g h1)
        · have := HE2.out.2.2.size; exact .inr (by omega)
      clear ho3 hb3 hs3 hl3
      go_wp2_with fail
      refine (HN2.out _).mono ?_
      rintro e w4 ⟨a4, m4, c4, rfl, HE4⟩
      have HB4 : Hid (Below w.heap.size w w4) := Lib.hid (HB3.out.trans (HE4.out.2.2.mono HB3.out.size))
      go_wp2_with (first
        | (at_builtin; refine wpList_append_rdL rfl (.tmp 53) (.tmp 56) rfl _ rfl a4 m4 c4 rfl w.heap.size _ (HO3.out.kept HE4.out.2.2) HB4.out.size _ (rdOf HE4.out) (by have h1 := HFl.out; have h2 := (rdOf HE4.out).1; have h3 := vEnc_len 1 A.length (by omega); have h4 := vEnc_len 1 q (by omega); rw [List.length_append]; omega) ?_; intro v5 w5 ho5 hb5 hs5 hl5; have HO5 := Lib.hid ho5; have HB5 := Lib.hid (HB4.out.trans hb5); have HX5 := Lib.hid ((HX3.out.kept HE4.out.2.2).asideL hs5 (fun g h1 h2 => by have h3 := HA3.out g h2; have := HXw.out g h1; omega)); clear ho5 hb5 hs5 hl5)
        | (at_builtin; refine wpList_append_rdL rfl (.tmp 58) (.tmp 59) rfl _ rfl ar xl cr rfl w.heap.size _ HO5.out HB5.out.size _ (HX5.out.asSlice1 HXl0.out.symm) (by have h1 := HFl.out; have h3 := vEnc_len 1 A.length (by omega); have h4 := vEnc_len 1 q (by omega); have h5 := hxl.out; have h6 := HXl0.out; simp only [List.length_append]; omega) ?_; intro v6 w6 ho6 hb6 hs6 hl6))
      have HO6 := Lib.hid ho6
      have HB6 := Lib.hid (HB5.out.trans hb6)
      clear ho6 hb6 hs6 hl6
      go_wp2
      go_ret
      refine ⟨_, rfl, ?_, HB6.out⟩
      have e : sEnc F A.length (snapsF 1 A) = (iEnc F ++ vEnc A.length ++ vEnc q) ++ xEnc (snapsF 1 A) := by
        unfold sEnc
        rw [HQ'.out]
        simp [List.append_assoc]
      rw [e]
      exact HO6.out

end Go.Proofs.YtaijjogjohbheaaGreat
