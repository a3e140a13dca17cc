/- What the end of ExtentSets leans on: a loop over All that is left at its first number; sets that are made of three, told. -/
import Derived.Test.YtfmaapojlbheaaaESetsMany
import Derived.Test.YtfmaapojlbheaaaESets
namespace Go.Proofs.Ytfmaapojlbheaaa
open Go.RowKit Go.Shelf

theorem range_first {g : Operand} {ps : Array Tmp} {body : Code} {Q0 : Exit → Act → World → Prop} {a : Act} {w : World} (sa : Option Addr) (sn sc : Nat) (M : List Rn) (hsn : sn ≤ 1000000) (hok : ∀ r ∈ M, r.ok)
    (hg : a.eval g = .func (.func 11) #[.slice sa sn sc] #[]) (hps : ps.size = 1) (w0 : World) (bf : Nat) (hbf : bf < w.heap.size) (hw0 : w0.heap.size ≤ w.heap.size)
    (hG : ∀ W, Below w0.heap.size w0 W → RdR W sa sn M) (hc0 : w.heap[bf]? = some (.cells #[.int .i64 0] 3 (0, 0))) (hb0 : Below w0.heap.size w0 w) (a₁ : Int → Act)
    (hassign : ∀ (l : Nat) (x : Int) (W : World) (K : Act → World → Prop), K (a₁ x) W → Code.skip.wpIn (Fence.wide.inRound l) 1 Try.prog (Exit.then K (fun _ _ _ => False)) { tmps := (ps.zip #[Value.int .i64 x]).foldl (fun t (p, v) => t.setIfInBounds p v) a.tmps, defers := [] } W)
    (hbody : ∀ (l : Nat) (x : Int) (W : World), W.heap[bf]? = some (.cells #[.int .i64 0] 3 (0, 0)) → Below w0.heap.size w0 W → body.wpIn (Fence.wide.inRound l) 1 Try.prog (fun e _ W' => e = .exit 4 ∧ KeepU w.heap.size W W' ∧ W'.heap[bf]? = some (.cells #[.int .i64 1] 3 (0, 0)) ∧ Below w0.heap.size w0 W') (a₁ x) W)
    (hend : ∀ (D : Nat) (W : World), w.heap.size ≤ D → W.heap[bf]? = some (.cells #[.int .i64 ((min (numsR M).length 1 : Nat) : Int)] 3 (0, 0)) → Below w0.heap.size w0 W → W.heap[D]? = some (.deferred (some [])) → Q0 .normal { a with defers := { target := .collected D, args := #[] } :: a.defers } W) :
    (Code.rangeFunc g ps Code.skip body).wpIn Fence.wide 3 Try.prog (Exit.inBlock 4 Q0) a w := by
  refine range_all sa sn sc M hsn hok hg hps
    (fun pre W => pre = [] ∧ W.heap[bf]? = some (.cells #[.int .i64 0] 3 (0, 0)) ∧ Below w0.heap.size w0 W)
    (fun c pre W => c = .exit 4 ∧ pre.length = 1 ∧ W.heap[bf]? = some (.cells #[.int .i64 1] 3 (0, 0)) ∧ Below w0.heap.size w0 W)
    (fun pre W W' h hW => ⟨h.1, (hW.block bf hbf).trans h.2.1, h.2.2.trans (hW.mono hw0)⟩)
    (fun c pre W W' h hW => ⟨h.1, h.2.1, (hW.block bf hbf).trans h.2.2.1, h.2.2.2.trans (hW.mono hw0)⟩)
    (fun pre W h => hG W h.2.2) ⟨rfl, hc0, hb0⟩ a₁ hassign ?_ ?_ ?_
  · rintro l pre x W ⟨rfl, h1, h2⟩ _ _
    refine wpIn_mono (hbody l x W h1 h2) ?_
    rintro e a' W' ⟨rfl, hk, h3, h4⟩
    exact ⟨hk, rfl, rfl, h3, h4⟩
  · rintro D W hD ⟨h1, h2, h3⟩ hd
    have h4 := hend D W hD (by rw [h1]; exact h2) h3 hd
    exact h4
  · rintro D c pre W hD hpre ⟨rfl, h1, h2, h3⟩ hd
    have hl : 1 ≤ (numsR M).length := by rw [← h1]; exact hpre.length_le
    have h4 := hend D W hD (by rw [Nat.min_eq_right hl]; exact h2) h3 hd
    exact wpIn_exit h4

theorem Canon.count {a : Int} {M : List Rn} (h : Canon a M) : M.length ≤ (numsR M).length := by
  induction M generalizing a with
  | nil => simp
  | cons r M ih =>
    have h1 := ih h.2.2
    have h2 := h.2.1
    rw [numsR, List.length_append, List.length_cons]
    have : (segR r.f (r.t - r.f).toNat).length = (r.t - r.f).toNat := by simp [segR]
    omega

theorem Told.short {M : List Rn} {Q : Nat → Bool} (h : Told M Q) : M.length ≤ 601 := by
  have h1 := h.len
  have h2 := cntT_le Q 601
  obtain ⟨a, ha⟩ := h.1
  have := ha.count
  omega

theorem rdS_two {W : World} {bb nb nc cb cc : Nat} {sb sc : Option Addr} {N O : List Rn} (hb : W.heap[bb]? = some (.cells #[.slice sb nb cb, .slice sc nc cc] 27 (0, 0))) (h1 : RdR W sb nb N) (h2 : RdR W sc nc O) : RdS W (some ⟨bb, 0, none⟩) 2 [N, O] := by
  refine ⟨rfl, fun _ => ⟨bb, 0, rfl, fun j hj => ?_⟩⟩
  have : j = 0 ∨ j = 1 := by omega
  rcases this with rfl | rfl
  · exact ⟨sb, nb, cb, by rw [cell_of_row W bb _ _ 27 (0, 0) hb]; rfl, h1⟩
  · exact ⟨sc, nc, cc, by rw [cell_of_row W bb _ _ 27 (0, 0) hb]; rfl, h2⟩

/-- A set that was made, asked whether it is what is told. -/
def Asks (w' : World) (a' : Option Addr) (n' c' g : Nat) : Prop := ∀ W', Below w'.heap.size w' W' → Calls Try.prog 12 #[.slice a' n' c', .slice (some ⟨g, 0, none⟩) 601 601] W' fun e w'' => e = .returned (.bool true) ∧ Below W'.heap.size W' w''

theorem asks_of {w w' : World} {base : Nat} {v : Value} {K : List Rn} {Q : Nat → Bool} {g : Nat} (ho : OwnR w' base 37 v K) (ht : Told K Q) (hg : Bl w g 601 Q) (hb : Below w.heap.size w w') : ∃ a' n' c', v = .slice a' n' c' ∧ Asks w' a' n' c' g := by
  obtain ⟨a', c', hv, hr, _, _⟩ := ho.rd
  exact ⟨a', K.length, c', hv, fun W' hW' => same_any a' K.length c' g K Q W' (hr.later hW') (by have := ht.short; omega) ((hg.later hb).later hW') ht⟩

theorem orC {M N O : List Rn} {P Q U : Nat → Bool} (hA : Told M P) (hB : Told N Q) (hC : Told O U) (sa sb sc : Option Addr) (na nb nc ca cb cc bb g : Nat) (W : World) (h1 : RdR W sa na M) (h2 : RdR W sb nb N) (h3 : RdR W sc nc O) (hbb : W.heap[bb]? = some (.cells #[.slice sb nb cb, .slice sc nc cc] 27 (0, 0))) (hg : Bl W g 601 fun t => P t || Q t || U t) :
    Calls Try.prog 14 #[.slice sa na ca, .slice (some ⟨bb, 0, none⟩) 2 2] W fun e w' => ∃ a' n' c', e = .returned (.slice a' n' c') ∧ Hid (Asks w' a' n' c' g) ∧ Hid (Below W.heap.size W w') := by
  refine (or_any sa na ca M (some ⟨bb, 0, none⟩) 2 2 [N, O] W h1 (rdS_two hbb h2 h3) (by have := hA.short; have := h1.1; omega) (by omega) (fun K hK => by
    simp only [List.mem_cons, List.not_mem_nil, or_false] at hK
    rcases hK with rfl | rfl
    · have := hB.short; omega
    · have := hC.short; omega) hA.ok (fun K hK => by
    simp only [List.mem_cons, List.not_mem_nil, or_false] at hK
    rcases hK with rfl | rfl
    · exact hB.ok
    · exact hC.ok)).mono ?_
  rintro e w' ⟨v, K, rfl, ho, hs, hm, hb⟩
  have ht : Told K (fun t => P t || Q t || U t) := told_join hA hB hC hs (fun a b c => a || b || c) rfl (fun z a b c ha hb hc => by
    rw [hm z]
    simp only [List.mem_cons, List.not_mem_nil, or_false, exists_eq_or_imp, exists_eq_left, Bool.or_eq_true]
    rw [← ha, ← hb, ← hc]
    cases a <;> cases b <;> cases c <;> simp)
  obtain ⟨a', n', c', rfl, h⟩ := asks_of ho ht hg hb
  exact ⟨a', n', c', rfl, Lib.hid h, Lib.hid hb⟩

theorem andC {M N O : List Rn} {P Q U : Nat → Bool} (hA : Told M P) (hB : Told N Q) (hC : Told O U) (sa sb sc : Option Addr) (na nb nc ca cb cc bb g : Nat) (W : World) (h1 : RdR W sa na M) (h2 : RdR W sb nb N) (h3 : RdR W sc nc O) (hbb : W.heap[bb]? = some (.cells #[.slice sb nb cb, .slice sc nc cc] 27 (0, 0))) (hg : Bl W g 601 fun t => P t && Q t && U t) :
    Calls Try.prog 15 #[.slice sa na ca, .slice (some ⟨bb, 0, none⟩) 2 2] W fun e w' => ∃ a' n' c', e = .returned (.slice a' n' c') ∧ Hid (Asks w' a' n' c' g) ∧ Hid (Below W.heap.size W w') := by
  refine (and_any sa na ca M (some ⟨bb, 0, none⟩) 2 2 [N, O] W h1 (rdS_two hbb h2 h3) (by have := hA.short; have := h1.1; omega) (by omega) (fun K hK => by
    simp only [List.mem_cons, List.not_mem_nil, or_false] at hK
    rcases hK with rfl | rfl
    · have := hB.short; omega
    · have := hC.short; omega) hA.ok (fun K hK => by
    simp only [List.mem_cons, List.not_mem_nil, or_false] at hK
    rcases hK with rfl | rfl
    · exact hB.ok
    · exact hC.ok) hA.1 (fun K hK => by
    simp only [List.mem_cons, List.not_mem_nil, or_false] at hK
    rcases hK with rfl | rfl
    · exact hB.1
    · exact hC.1)).mono ?_
  rintro e w' ⟨v, K, rfl, ho, hs, hm, hb⟩
  have ht : Told K (fun t => P t && Q t && U t) := told_join hA hB hC hs (fun a b c => a && b && c) rfl (fun z a b c ha hb hc => by
    rw [hm z]
    simp only [List.mem_cons, List.not_mem_nil, or_false, forall_eq_or_imp, forall_eq, Bool.and_eq_true]
    rw [← ha, ← hb, ← hc]
    cases a <;> cases b <;> cases c <;> simp)
  obtain ⟨a', n', c', rfl, h⟩ := asks_of ho ht hg hb
  exact ⟨a', n', c', rfl, Lib.hid h, Lib.hid hb⟩

theorem minusC {M N O : List Rn} {P Q U : Nat → Bool} (hA : Told M P) (hB : Told N Q) (hC : Told O U) (sa sb sc : Option Addr) (na nb nc ca cb cc bb g : Nat) (W : World) (h1 : RdR W sa na M) (h2 : RdR W sb nb N) (h3 : RdR W sc nc O) (hbb : W.heap[bb]? = some (.cells #[.slice sb nb cb, .slice sc nc cc] 27 (0, 0))) (hg : Bl W g 601 fun t => P t && !Q t && !U t) :
    Calls Try.prog 16 #[.slice sa na ca, .slice (some ⟨bb, 0, none⟩) 2 2] W fun e w' => ∃ a' n' c', e = .returned (.slice a' n' c') ∧ Hid (Asks w' a' n' c' g) ∧ Hid (Below W.heap.size W w') := by
  refine (minus_any sa na ca M (some ⟨bb, 0, none⟩) 2 2 [N, O] W h1 (rdS_two hbb h2 h3) (by have := hA.short; have := h1.1; omega) (by omega) (fun K hK => by
    simp only [List.mem_cons, List.not_mem_nil, or_false] at hK
    rcases hK with rfl | rfl
    · have := hB.short; omega
    · have := hC.short; omega) hA.ok (fun K hK => by
    simp only [List.mem_cons, List.not_mem_nil, or_false] at hK
    rcases hK with rfl | rfl
    · exact hB.ok
    · exact hC.ok) hA.1).mono ?_
  rintro e w' ⟨v, K, rfl, ho, hs, hm, hb⟩
  have ht : Told K (fun t => P t && !Q t && !U t) := told_join hA hB hC hs (fun a b c => a && !b && !c) rfl (fun z a b c ha hb hc => by
    rw [hm z]
    simp only [List.mem_cons, List.not_mem_nil, or_false, exists_eq_or_imp, exists_eq_left, Bool.and_eq_true, Bool.not_eq_true']
    rw [← ha, ← hb, ← hc]
    cases a <;> cases b <;> cases c <;> simp)
  obtain ⟨a', n', c', rfl, h⟩ := asks_of ho ht hg hb
  exact ⟨a', n', c', rfl, Lib.hid h, Lib.hid hb⟩

theorem or0C {M : List Rn} {P : Nat → Bool} (hA : Told M P) (sa : Option Addr) (na ca g : Nat) (W : World) (h1 : RdR W sa na M) (hg : Bl W g 601 P) :
    Calls Try.prog 14 #[.slice sa na ca, .slice none 0 0] W fun e w' => ∃ a' n' c', e = .returned (.slice a' n' c') ∧ Hid (Asks w' a' n' c' g) ∧ Hid (Below W.heap.size W w') := by
  refine (or_any sa na ca M none 0 0 [] W h1 (RdS.nil _ _) (by have := hA.short; have := h1.1; omega) (by omega) (by simp) hA.ok (by simp)).mono ?_
  rintro e w' ⟨v, K, rfl, ho, hs, hm, hb⟩
  have ht : Told K P := ⟨hs, fun z => by rw [hm z, ← hA.2 z]; simp⟩
  obtain ⟨a', n', c', rfl, h⟩ := asks_of ho ht hg hb
  exact ⟨a', n', c', rfl, Lib.hid h, Lib.hid hb⟩

theorem and0C {M : List Rn} {P : Nat → Bool} (hA : Told M P) (sa : Option Addr) (na ca g : Nat) (W : World) (h1 : RdR W sa na M) (hg : Bl W g 601 P) :
    Calls Try.prog 15 #[.slice sa na ca, .slice none 0 0] W fun e w' => ∃ a' n' c', e = .returned (.slice a' n' c') ∧ Hid (Asks w' a' n' c' g) ∧ Hid (Below W.heap.size W w') := by
  refine (and_any sa na ca M none 0 0 [] W h1 (RdS.nil _ _) (by have := hA.short; have := h1.1; omega) (by omega) (by simp) hA.ok (by simp) hA.1 (by simp)).mono ?_
  rintro e w' ⟨v, K, rfl, ho, hs, hm, hb⟩
  have ht : Told K P := ⟨hs, fun z => by rw [hm z, ← hA.2 z]; simp⟩
  obtain ⟨a', n', c', rfl, h⟩ := asks_of ho ht hg hb
  exact ⟨a', n', c', rfl, Lib.hid h, Lib.hid hb⟩

theorem minus0C {M : List Rn} {P : Nat → Bool} (hA : Told M P) (sa : Option Addr) (na ca g : Nat) (W : World) (h1 : RdR W sa na M) (hg : Bl W g 601 P) :
    Calls Try.prog 16 #[.slice sa na ca, .slice none 0 0] W fun e w' => ∃ a' n' c', e = .returned (.slice a' n' c') ∧ Hid (Asks w' a' n' c' g) ∧ Hid (Below W.heap.size W w') := by
  refine (minus_any sa na ca M none 0 0 [] W h1 (RdS.nil _ _) (by have := hA.short; have := h1.1; omega) (by omega) (by simp) hA.ok (by simp) hA.1).mono ?_
  rintro e w' ⟨v, K, rfl, ho, hs, hm, hb⟩
  have ht : Told K P := ⟨hs, fun z => by rw [hm z, ← hA.2 z]; simp⟩
  obtain ⟨a', n', c', rfl, h⟩ := asks_of ho ht hg hb
  exact ⟨a', n', c', rfl, Lib.hid h, Lib.hid hb⟩

end Go.Proofs.Ytfmaapojlbheaaa
