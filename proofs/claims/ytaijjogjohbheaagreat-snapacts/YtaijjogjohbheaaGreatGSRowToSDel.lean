/- Rows of snapshots (a number, an image's pointer) in memory; where a number stands among them: slices.BinarySearchFunc, find. -/
import Derived.Test.YtaijjogjohbheaaGreatGESortToEHas
import Derived.Test.YtaijjogjohbheaaGreatGMemToKeep
import Derived.Deep.RegionHeld3
import Derived.Test.YtaijjogjohbheaaGreatGZerosToINew
import Derived.BigRegion
import Derived.StillTailTactics
import Derived.Laws.CopyOwn
import Derived.Lib.SliceRun
namespace Go.Proofs.YtaijjogjohbheaaGreat
open Go.RowKit
set_option maxRecDepth 100000
set_option linter.unusedSimpArgs false

theorem info_snap : (Tryz.prog.info? 98).map (fun i => (i.zero, i.size, i.bytes)) = some (some (.agg #[.int .i64 0, .pointer none]), 2, 16) := by kernel_rfl

def cY (L : List (Nat × Nat)) : List Value := L.flatMap fun r => [.int .i64 (r.1 : Int), .pointer (some ⟨r.2, 0, none⟩)]

theorem cY_append (A B : List (Nat × Nat)) : cY (A ++ B) = cY A ++ cY B := by simp [cY]

theorem cY_cons (r : Nat × Nat) (L : List (Nat × Nat)) : cY (r :: L) = .int .i64 (r.1 : Int) :: .pointer (some ⟨r.2, 0, none⟩) :: cY L := by simp [cY]

theorem cY_length (L : List (Nat × Nat)) : (cY L).length = L.length * 2 := by
  induction L with
  | nil => rfl
  | cons d r ih => rw [cY_cons, List.length_cons, List.length_cons, List.length_cons, ih]; omega

theorem cY_get (L : List (Nat × Nat)) {j : Nat} (hj : j < L.length) : (cY L)[j * 2]? = some (.int .i64 ((L.getD j default).1 : Int)) ∧ (cY L)[j * 2 + 1]? = some (.pointer (some ⟨(L.getD j default).2, 0, none⟩)) := by
  induction L generalizing j with
  | nil => simp at hj
  | cons d r ih =>
    cases j with
    | zero => rw [cY_cons]; simp
    | succ k =>
      have hk : k < r.length := by simpa using hj
      have h := ih hk
      have e1 : (k + 1) * 2 = k * 2 + 1 + 1 := by omega
      rw [cY_cons, e1]
      simpa using h

theorem cY_one (L : List (Nat × Nat)) : ∀ u ∈ cY L, u.oneCell' = true := by
  intro u hu
  simp only [cY, List.mem_flatMap] at hu
  obtain ⟨x, _, hx⟩ := hu
  simp only [List.mem_cons, List.not_mem_nil, or_false] at hx
  rcases hx with rfl | rfl <;> rfl

/-- The slice '.slice a n _' reads as the snapshots L. -/
def RdY (w : World) (a : Option Addr) (n : Nat) (L : List (Nat × Nat)) : Prop :=
  L.length = n ∧ (0 < n → ∃ b o, a = some ⟨b, o, none⟩ ∧ ∀ j, j < n → w.cell? ⟨b, o + j * 2, none⟩ = some (.int .i64 ((L.getD j default).1 : Int)) ∧ w.cell? ⟨b, o + j * 2 + 1, none⟩ = some (.pointer (some ⟨(L.getD j default).2, 0, none⟩)))

theorem RdY.nil (w : World) (a : Option Addr) : RdY w a 0 [] := ⟨rfl, by omega⟩

theorem RdY.save {w w' : World} {X : List Nat} {a : Option Addr} {n : Nat} {L : List (Nat × Nat)} (h : RdY w a n L) (hs : Save X w w') (hX : 0 < n → ∀ b o, a = some ⟨b, o, none⟩ → b ∉ X) : RdY w' a n L := by
  refine ⟨h.1, fun hn => ?_⟩
  obtain ⟨b, o, rfl, hc⟩ := h.2 hn
  refine ⟨b, o, rfl, fun j hj => ?_⟩
  have hlt : b < w.heap.size := World.block_lt_of_cell? w _ (hc j hj).1
  have e : w'.heap[b]? = w.heap[b]? := hs.block b hlt (hX hn b o rfl)
  have hc' := hc j hj
  simp only [World.cell?] at hc' ⊢
  rw [e]
  exact hc'

theorem RdY.later {w w' : World} {a : Option Addr} {n : Nat} {L : List (Nat × Nat)} (h : RdY w a n L) (hb : Below w.heap.size w w') : RdY w' a n L := h.save (Save.of_below hb []) (by simp)

/-- The snapshot at a place. -/
theorem RdY.at_ {w w' : World} {a : Option Addr} {n : Nat} {L : List (Nat × Nat)} (h : RdY w a n L) (hb : Below w.heap.size w w') {j : Nat} (hj : j < n) :
    ∃ b o r, a = some ⟨b, o, none⟩ ∧ r = L.getD j default ∧ b < w.heap.size ∧ w'.cell? ⟨b, o + j * 2, none⟩ = some (.int .i64 (r.1 : Int)) ∧ w'.cell? ⟨b, o + j * 2 + 1, none⟩ = some (.pointer (some ⟨r.2, 0, none⟩)) := by
  have h0 := h.later hb
  obtain ⟨b, o, rfl, hc⟩ := h.2 (by omega)
  obtain ⟨b', o', he, hc'⟩ := h0.2 (by omega)
  injection he with he
  injection he with h1 h2
  subst h1
  subst h2
  exact ⟨b, o, _, rfl, rfl, World.block_lt_of_cell? w _ (hc j hj).1, (hc' j hj).1, (hc' j hj).2⟩

/-- The value v owns the snapshots L, in a block from 'base' on (or it is nil). -/
def OwnY (w : World) (base : Nat) (v : Value) (L : List (Nat × Nat)) : Prop := w.ownsRow base 98 2 v L.length (cY L)

theorem OwnY.rd {w : World} {base : Nat} {v : Value} {L : List (Nat × Nat)} (h : OwnY w base v L) : ∃ a c, v = .slice a L.length c ∧ RdY w a L.length L ∧ L.length ≤ c ∧ ∀ b o, a = some ⟨b, o, none⟩ → base ≤ b ∧ b < w.heap.size ∧ o = 0 := by
  have h1 := h
  rcases h.2 with ⟨rfl, hl⟩ | ⟨g, cap, cur, rfl, hbg, hgo, hnc, _⟩
  · have : L = [] := List.eq_nil_of_length_eq_zero hl
    subst this
    exact ⟨none, 0, rfl, RdY.nil _ _, Nat.le_refl _, by simp⟩
  · refine ⟨_, cap, rfl, ⟨rfl, fun _ => ⟨g, 0, rfl, fun j hj => ?_⟩⟩, hnc, ?_⟩
    · obtain ⟨k0, k1⟩ := cY_get L hj
      have e0 := h1.cells (g := g) rfl _ _ k0
      have e1 := h1.cells (g := g) rfl _ _ k1
      rw [add_plain] at e0 e1
      exact ⟨e0, by rw [Nat.add_assoc]; exact e1⟩
    · rintro b o e
      injection e with e
      injection e with e1 e2
      subst e1
      exact ⟨hbg, lt_of_block hgo, e2.symm⟩

theorem OwnY.nil (w : World) (base : Nat) : OwnY w base (.slice none 0 0) [] := World.ownsRow_nil w base 98 2

theorem OwnY.kept {w w' : World} {base : Nat} {v : Value} {L : List (Nat × Nat)} (h : OwnY w base v L) (hb : Below w.heap.size w w') : OwnY w' base v L :=
  World.ownsRow.kept h (row := none) ⟨hb.os, hb.tape, hb.output, hb.size, fun k hk _ => hb.block k hk⟩ (by
    cases hv : v.ownBlock with
    | none => exact .inl rfl
    | some k => exact .inr (by simp))

theorem OwnY.mono {w : World} {base base' : Nat} {v : Value} {L : List (Nat × Nat)} (h : OwnY w base v L) (hb : base' ≤ base) : OwnY w base' v L := by
  refine ⟨h.1, ?_⟩
  rcases h.2 with h1 | ⟨g, cap, cur, hv, hbg, rest⟩
  · exact .inl h1
  · exact .inr ⟨g, cap, cur, hv, Nat.le_trans hb hbg, rest⟩

theorem OwnY.of_append {w : World} {base m : Nat} {v : Value} {L M : List (Nat × Nat)} (hm : m = M.length) (h : w.ownsRow base 98 2 v (L.length + m) (cY L ++ cY M)) : OwnY w base v (L ++ M) := by
  unfold OwnY
  rw [cY_append, List.length_append, ← hm]
  exact h

theorem findCmp_any (x : Nat) (g : Nat) (z : Int) (W : World) : Calls Tryz.prog 60 #[.agg #[.int .i64 (x : Int), .pointer (some ⟨g, 0, none⟩)], .int .i64 z] W fun e w' => e = .returned (.int .i64 (cmpI x z)) ∧ w' = W.alloc (.cells #[.int .i64 (x : Int), .pointer (some ⟨g, 0, none⟩)] 98) := by
  have hcon := fun W' => compare_any (x : Int) z W'
  change ∀ W', Calls Tryz.prog 61 _ _ (fun e w' => e = .returned (.int .i64 (cmpI x z)) ∧ w' = _) at hcon
  generalize cmpI x z = r at hcon ⊢
  have HC := Lib.hid hcon
  clear hcon
  go_enter Tryz.func60, Tryz.ntmps60
  go_wp2_with fail
  refine (HC.out _).mono ?_
  rintro e w' ⟨rfl, rfl⟩
  go_wp2
  go_ret
  exact ⟨rfl, rfl⟩

theorem cmpY_neg {x y : Int} (h : x < y) : cmpI x y = -1 := by simp [cmpI, h]
theorem cmpY_zero (x : Int) : cmpI x x = 0 := by simp [cmpI]
theorem cmpY_pos {x y : Int} (h : y < x) : cmpI x y = 1 := by
  unfold cmpI
  rw [if_neg (by omega), if_pos h]

/-- Numbers that rise. -/
def IncY (Y : List (Nat × Nat)) : Prop := ∀ k l, k < l → l < Y.length → (Y.getD k default).1 < (Y.getD l default).1

set_option maxHeartbeats 1000000 in
theorem searchY_any (a : Option Addr) (n c : Nat) (M : List (Nat × Nat)) (x : Int) (w : World) (h : RdY w a n M) (hn : n ≤ 1000000) (hc : IncY M) :
    Calls Tryz.prog 59 #[.slice a n c, .int .i64 x, .func (.func 60) #[] #[]] w fun e w' => ∃ (i : Nat) (fd : Bool), e = .returned (.tuple #[.int .i64 (i : Int), .bool fd]) ∧ i ≤ n ∧ (fd = true → i < n ∧ ((M.getD i default).1 : Int) = x) ∧ (fd = false → ∀ k, k < n → ((M.getD k default).1 : Int) ≠ x) ∧ Below w.heap.size w w' := by
  have eg : ∀ args w, (callFunc 60 args).run Tryz.prog w = .ok (.enter 60 args) w := enters_of Tryz.func60 (by kernel_rfl) rfl
  have HR := Lib.hid h
  have HC := Lib.hid hc
  clear h hc
  go_enter Tryz.func59, Tryz.ntmps59
  go_wp2
  go_loopg [9, 10] n (fun k s9 s10 wr => ∃ i j : Nat, s9 = .int .i64 (i : Int) ∧ s10 = .int .i64 (j : Int) ∧ i ≤ j ∧ j ≤ n ∧ j - i ≤ k ∧ Hid (Below w.heap.size w wr) ∧ Hid ((∀ t, t < i → ((M.getD t default).1 : Int) < x) ∧ ∀ t, j ≤ t → t < n → x ≤ ((M.getD t default).1 : Int)))
  case atStart => exact ⟨0, n, rfl, rfl, Nat.zero_le _, Nat.le_refl _, by omega, Lib.hid (Below.refl _ _), Lib.hid ⟨fun t ht => by omega, fun t h1 h2 => by omega⟩⟩
  case round =>
    obtain ⟨i, j, rfl, rfl, hij, hjn, hg, HB, HI⟩ := hrel
    by_cases hlt : i < j
    · obtain ⟨b, o, r, rfl, hre, hbl, e0, e1⟩ := (HR.out.later HB.out).at_ (Below.refl _ _) (j := (i + j) / 2) (by omega)
      have HRe := Lib.hid hre
      obtain ⟨p, q⟩ := r
      simp only at e0 e1
      clear hre
      have hml : (i + j) / 2 < M.length := by have := HR.out.1; omega
      by_cases hpx : (p : Int) < x
      · go_wp2_with fail
        refine (findCmp_any p q x _).mono ?_
        rintro e w2 ⟨rfl, hw2⟩
        rw [cmpY_neg hpx]
        have HB2 : Hid (Below w.heap.size w w2) := Lib.hid (by rw [hw2]; exact HB.out.alloc HB.out.size _)
        clear hw2
        go_wp2
        go_roundg (j - ((i + j) / 2 + 1))
        case measure => omega
        case rel =>
          refine ⟨(i + j) / 2 + 1, j, by rw [show ((i : Int) + (j : Int)) / 2 + 1 = (((i + j) / 2 + 1 : Nat) : Int) by omega], rfl, by omega, hjn, Nat.le_refl _, HB2, Lib.hid ⟨fun t ht => ?_, HI.out.2⟩⟩
          have h1 : (M.getD ((i + j) / 2) default).1 = p := by rw [← HRe.out]
          rcases Nat.lt_or_ge t ((i + j) / 2) with h2 | h2
          · have h3 := HC.out t _ h2 hml
            omega
          · have : t = (i + j) / 2 := by omega
            subst this
            omega
      · have hge : ∃ z, cmpI p x = z ∧ 0 ≤ z := by
          rcases Int.lt_or_eq_of_le (show x ≤ p by omega) with h | h
          · exact ⟨1, cmpY_pos h, by omega⟩
          · subst h; exact ⟨0, cmpY_zero _, by omega⟩
        obtain ⟨z, hz, hz0⟩ := hge
        have HZ := Lib.hid hz
        clear hz
        go_wp2_with fail
        refine (findCmp_any p q x _).mono ?_
        rintro e w2 ⟨rfl, hw2⟩
        rw [HZ.out]
        have HB2 : Hid (Below w.heap.size w w2) := Lib.hid (by rw [hw2]; exact HB.out.alloc HB.out.size _)
        clear hw2
        go_wp2
        go_roundg ((i + j) / 2 - i)
        case measure => omega
        case rel =>
          refine ⟨i, (i + j) / 2, rfl, by rw [show ((i : Int) + (j : Int)) / 2 = (((i + j) / 2 : Nat) : Int) by omega], by omega, by omega, Nat.le_refl _, HB2, Lib.hid ⟨HI.out.1, fun t ht htn => ?_⟩⟩
          have h1 : (M.getD ((i + j) / 2) default).1 = p := by rw [← HRe.out]
          rcases Nat.lt_or_ge ((i + j) / 2) t with h2 | h2
          · have h3 := HC.out _ t h2 (by have := HR.out.1; omega)
            omega
          · have : t = (i + j) / 2 := by omega
            subst this
            omega
    · obtain rfl : j = i := by omega
      by_cases hjl : j < n
      · obtain ⟨b, o, r, rfl, hre, hbl, e0, e1⟩ := (HR.out.later HB.out).at_ (Below.refl _ _) hjl
        have HRe := Lib.hid hre
        obtain ⟨p, q⟩ := r
        simp only at e0 e1
        clear hre
        by_cases hpx : (p : Int) = x
        · subst hpx
          go_wp2_with fail
          refine (findCmp_any p q p _).mono ?_
          rintro e w2 ⟨rfl, hw2⟩
          rw [cmpY_zero]
          have HB2 : Hid (Below w.heap.size w w2) := Lib.hid (by rw [hw2]; exact HB.out.alloc HB.out.size _)
          clear hw2
          go_wp2
          go_ret2
          exact ⟨j, true, rfl, hjn, fun _ => ⟨hjl, by rw [← HRe.out]⟩, fun h => (by cases h), HB2.out⟩
        · have hge : ∃ z, cmpI p x = z ∧ (z == 0) = false := by
            rcases Int.lt_or_gt_of_ne hpx with h | h
            · exact ⟨-1, cmpY_neg h, rfl⟩
            · exact ⟨1, cmpY_pos h, rfl⟩
          obtain ⟨z, hz, hz0⟩ := hge
          have HZ := Lib.hid hz
          clear hz
          go_wp2_with fail
          refine (findCmp_any p q x _).mono ?_
          rintro e w2 ⟨rfl, hw2⟩
          rw [HZ.out]
          have HB2 : Hid (Below w.heap.size w w2) := Lib.hid (by rw [hw2]; exact HB.out.alloc HB.out.size _)
          clear hw2
          go_wp2
          go_ret2
          refine ⟨j, false, rfl, hjn, fun h => (by cases h), fun _ k hk hkx => ?_, HB2.out⟩
          have h1 : (M.getD j default).1 = p := by rw [← HRe.out]
          rcases Nat.lt_or_ge k j with h2 | h2
          · have := HI.out.1 k h2; omega
          · rcases Nat.lt_or_ge j k with h3 | h3
            · have h4 := HI.out.2 j (Nat.le_refl _) hjl
              have h5 := HC.out j k h3 (by have := HR.out.1; omega)
              omega
            · have : k = j := by omega
              subst this
              omega
      · go_wp2
        go_ret2
        exact ⟨j, false, rfl, hjn, fun h => (by cases h), fun _ k hk hkx => (by have := HI.out.1 k (by omega); omega), HB.out⟩

/-- A state as a value. -/
def stV (gi last : Nat) (a : Option Addr) (n c : Nat) : Value := .agg #[.pointer (some ⟨gi, 0, none⟩), .int .i64 (last : Int), .slice a n c]

theorem find_any (gi last : Nat) (a : Option Addr) (n c : Nat) (M : List (Nat × Nat)) (x : Int) (w : World) (h : RdY w a n M) (hn : n ≤ 1000000) (hc : IncY M) :
    Calls Tryz.prog 39 #[stV gi last a n c, .int .i64 x] w fun e w' => ∃ (i : Nat) (fd : Bool), e = .returned (.tuple #[.int .i64 (i : Int), .bool fd]) ∧ i ≤ n ∧ (fd = true → i < n ∧ ((M.getD i default).1 : Int) = x) ∧ (fd = false → ∀ k, k < n → ((M.getD k default).1 : Int) ≠ x) ∧ Below w.heap.size w w' := by
  have HS : Hid (∀ W, Below w.heap.size w W → _) := Lib.hid fun W (hW : Below w.heap.size w W) => searchY_any a n c M x W (h.later hW) hn hc
  clear h hc
  unfold stV
  go_enter Tryz.func39, Tryz.ntmps39
  go_wp2_with fail
  refine (HS.out _ (Below.alloc0 _ _)).mono ?_
  rintro e w1 ⟨i, fd, rfl, h1, h2, h3, hb⟩
  have HE := Lib.hid (And.intro h1 (And.intro h2 (And.intro h3 hb)))
  clear h1 h2 h3 hb HS
  go_wp2
  go_ret2
  exact ⟨i, fd, rfl, HE.out.1, HE.out.2.1, HE.out.2.2.1, (Below.alloc0 _ _).trans (HE.out.2.2.2.mono (by simp))⟩

end Go.Proofs.YtaijjogjohbheaaGreat

/- Rows of snapshots copied, and one of them taken out: slices.Clone, slices.Delete. -/
namespace Go.Proofs.YtaijjogjohbheaaGreat
open Go.RowKit
set_option maxRecDepth 100000
set_option linter.unusedSimpArgs false

theorem rdY_cells {w : World} {ad : Addr} {n : Nat} {L : List (Nat × Nat)} (h : RdY w (some ad) n L) : ∀ j u, (cY L)[j]? = some u → w.cell? (ad.add j) = some u := by
  intro j u hu
  have hj : j < L.length * 2 := by
    rcases Nat.lt_or_ge j (L.length * 2) with h | h
    · exact h
    · rw [List.getElem?_eq_none (by rw [cY_length]; exact h)] at hu; cases hu
  have hl := h.1
  obtain ⟨b, o, he, hc'⟩ := h.2 (by omega)
  injection he with he
  subst he
  obtain ⟨k0, k1⟩ := cY_get L (j := j / 2) (by omega)
  obtain ⟨c0, c1⟩ := hc' (j / 2) (by omega)
  rw [add_plain]
  rcases Nat.mod_two_eq_zero_or_one j with h2 | h2
  · have e : j = j / 2 * 2 := by omega
    rw [← e] at k0 c0
    rw [c0, ← k0, hu]
  · have e : j = j / 2 * 2 + 1 := by omega
    rw [Nat.add_assoc, ← e] at c1
    rw [← e] at k1
    rw [c1, ← k1, hu]

set_option maxHeartbeats 400000 in
theorem cloneY_any (a : Option Addr) (n c : Nat) (l : List (Nat × Nat)) (w : World) (h : RdY w a n l) (hn : n ≤ 1000) :
    Calls Tryz.prog 38 #[.slice a n c] w fun e w' => ∃ v, e = .returned v ∧ OwnY w' w.heap.size v l ∧ Below w.heap.size w w' := by
  obtain ⟨i0, hi0, hz0, hz1, hz2⟩ := info_parts info_snap
  have hnil := fun W => Lib.run_eql_slice_nil (P := Tryz.prog) W 74 98 a n c 0 0 Tryz.underlying74
  have hl := h.1
  cases a with
  | none =>
    have h0 : n = 0 := by
      rcases Nat.eq_zero_or_pos n with h1 | h1
      · exact h1
      · obtain ⟨b, o, h2, _⟩ := h.2 h1; cases h2
    subst h0
    have : l = [] := List.eq_nil_of_length_eq_zero hl
    subst this
    clear h hl
    go_enter Tryz.func38, Tryz.ntmps38
    go_wp2
    go_ret
    exact ⟨_, rfl, OwnY.nil _ _, Below.refl _ _⟩
  | some ad =>
    have HC := Lib.hid (rdY_cells h)
    have HL := Lib.hid hl
    clear h hl
    go_enter Tryz.func38, Tryz.ntmps38
    go_wp2_with (at_builtin; refine wpList_append_own_at _ rfl (.tmp 5) (.tmp 6) 74 rfl w.heap.size 98 i0 _ 2 16 Tryz.underlying74 hi0 hz0 hz1 hz2 rfl (by omega) (.slice (some ⟨w.heap.size, 0, none⟩) 0 0) 0 [] rfl ?hown ad n c (cY l) rfl ?hlen ?hcells (cY_one l) ?h63 ?hby ?hbase ?next)
    case hown => exact World.ownsRow_made w #[] 0 (Nat.le_refl _) (by simp [maxLen]) (by simp)
    case hlen => rw [cY_length, HL.out]
    case hcells => exact fun j u hu => (World.cell?_alloc_lt _ _ _ (World.block_lt_of_cell? w _ (HC.out j u hu))).trans (HC.out j u hu)
    case h63 => unfold maxLen; omega
    case hby => omega
    case hbase => simp
    case next =>
      have HN := Lib.hid hnil
      clear hnil
      intro v' w' hown hg hnil' hat
      go_wp2
      go_ret
      refine ⟨v', rfl, ?_, ?_⟩
      · have := HL.out
        unfold OwnY
        simpa [this] using hown
      · exact ((Below.refl _ _).alloc (Nat.le_refl _) _).grown hg (by simp) (by simp [Value.ownBlock])

theorem elemY : Tryz.prog.elem 74 = 98 := by kernel_rfl

theorem sliceY_to (a : Option Addr) (n c k : Nat) (q : IntKind) (hk : k ≤ c) (w : World) :
    (Instr.slice 74 (.slice a n c) none (some (.int q (k : Int))) none).run Tryz.prog w = .ok (.slice a k c) w := by
  obtain ⟨i0, hi0, hz0, hz1, hz2⟩ := info_parts info_snap
  rw [run_slice_h w 74 a n c (by kernel_rfl) q k (by omega) (by omega)]
  simp [sizeOf, typeInfo, elemY, hi0, sliced]
  intro _
  cases a <;> simp [Addr.add]

theorem sliceY_all3 (a : Option Addr) (n c i k : Nat) (hi : i ≤ k) (hk : k ≤ n) (hc : n ≤ c) :
    ∃ V, ∀ w, (Instr.slice 74 (.slice a n c) (some (.int .i64 (i : Int))) (some (.int .i64 (k : Int))) (some (.int .i64 (n : Int)))).run Tryz.prog w = .ok V w := by
  obtain ⟨i0, hi0, hz0, hz1, hz2⟩ := info_parts info_snap
  refine ⟨sliced a i k n 2, fun w => ?_⟩
  rw [run_slice_lhm w 74 a n c (by kernel_rfl) .i64 .i64 .i64 i k n (by omega) (by omega) (by omega) (by omega)]
  simp [sizeOf, typeInfo, elemY, hi0, hz1, sliced]

/-- The rest of a row, from k on. -/
theorem sliceY_from (g n c k : Nat) (hk : k ≤ n) (hc : n ≤ c) :
    ∃ A, (k < n → A = some ⟨g, k * 2, none⟩) ∧ ∀ w, (Instr.slice 74 (.slice (some ⟨g, 0, none⟩) n c) (some (.int .i64 (k : Int))) none none).run Tryz.prog w = .ok (.slice A (n - k) (c - k)) w := by
  obtain ⟨i0, hi0, hz0, hz1, hz2⟩ := info_parts info_snap
  refine ⟨if c = k then some ⟨g, 0, none⟩ else some ⟨g, k * 2, none⟩, fun h => by rw [if_neg (by omega)], fun w => ?_⟩
  rw [run_slice_l w 74 (some ⟨g, 0, none⟩) n c (by kernel_rfl) .i64 k (by omega) (by omega)]
  simp [sizeOf, typeInfo, elemY, hi0, hz1, sliced, add_plain]

theorem sliceY_mid (g n c k : Nat) (hk : k < n) (hc : n ≤ c) (w : World) :
    (Instr.slice 74 (.slice (some ⟨g, 0, none⟩) k c) (some (.int .i64 (k : Int))) (some (.int .i64 (n : Int))) none).run Tryz.prog w = .ok (.slice (some ⟨g, k * 2, none⟩) (n - k) (c - k)) w := by
  obtain ⟨i0, hi0, hz0, hz1, hz2⟩ := info_parts info_snap
  rw [run_slice_lh w 74 (some ⟨g, 0, none⟩) k c (by kernel_rfl) .i64 .i64 k n (by omega) (by omega) (by omega)]
  simp [sizeOf, typeInfo, elemY, hi0, hz1, sliced, add_plain]
  omega

theorem zeroY_one (m : Nat) : ∀ u ∈ (Builtin.zeroCells #[Value.int .i64 0, .pointer none] m).toList, u.oneCell' = true := by
  intro u hu
  simp only [Builtin.zeroCells] at hu
  simp at hu
  obtain ⟨i, _, rfl⟩ := hu
  rcases Nat.mod_two_eq_zero_or_one i with h | h <;> simp [h] <;> rfl

theorem setRow_put' {w : World} {g : Nat} {cur cur' : Array Value} {T : TypeId} (hg : w.heap[g]? = some (.cells cur T (0, 0))) : w.setRow g cur' = put w g (.cells cur' T (0, 0)) := by
  have hlt : g < w.heap.size := (Array.getElem?_eq_some_iff.1 hg).1
  have e : ∀ f : Obj → Obj, w.heap.modify g f = w.heap.setIfInBounds g (f (.cells cur T (0, 0))) := by
    intro f
    apply Array.ext_getElem?
    intro i
    rw [Array.getElem?_modify]
    by_cases hi : g = i
    · subst hi; rw [hg]; simp [hlt]
    · rw [if_neg hi, Array.getElem?_setIfInBounds_ne hi]
  simp only [World.setRow, e, put]

theorem clearY (w : World) (ty : TypeId) (g n k d : Nat) (cur : Array Value) (hg : w.heap[g]? = some (.cells cur 98 (0, 0))) (hk : k < n) (hn : n * 2 ≤ cur.size) :
    ∃ cur' : Array Value, (Builtin.clear_ #[74] ty #[.slice (some ⟨g, k * 2, none⟩) (n - k) d]).run Tryz.prog w = .ok (.tuple #[]) (put w g (.cells cur' 98 (0, 0))) ∧ cur'.size = cur.size ∧ cur'.toList.take (k * 2) = cur.toList.take (k * 2) := by
  obtain ⟨i0, hi0, hz0, hz1, hz2⟩ := info_parts info_snap
  have hzs : (Builtin.zeroCells #[Value.int .i64 0, .pointer none] (n - k)).toList.length = (n - k) * 2 := by
    rw [Array.length_toList, size_zeroCells]; rfl
  have hst := run_storeCells_at Tryz.prog g (k * 2) 98 (Builtin.zeroCells #[Value.int .i64 0, .pointer none] (n - k)).toList 0 cur w hg (by rw [hzs]; omega) (zeroY_one _)
  rw [Nat.add_zero] at hst
  obtain ⟨cur', hcur'⟩ : ∃ cur', cur' = (cur.toList.take (k * 2) ++ (Builtin.zeroCells #[Value.int .i64 0, .pointer none] (n - k)).toList ++ cur.toList.drop (k * 2 + (Builtin.zeroCells #[Value.int .i64 0, .pointer none] (n - k)).toList.length)).toArray := ⟨_, rfl⟩
  rw [← hcur', setRow_put' hg] at hst
  refine ⟨cur', ?_, ?_, ?_⟩
  · obtain ⟨m, hm⟩ : ∃ m, n - k = m + 1 := ⟨n - k - 1, by omega⟩
    rw [hm] at hst ⊢
    simp [Builtin.clear_, run_underlying Tryz.underlying74, zeroValue, typeInfo, hi0, hz0, Value.cells, hst]
  · rw [hcur']
    simp only [List.size_toArray, List.length_append, List.length_take, List.length_drop, Array.length_toList, hzs]
    omega
  · rw [hcur']
    have : (cur.toList.take (k * 2)).length = k * 2 := by rw [List.length_take, Array.length_toList]; omega
    rw [List.append_assoc, List.take_append_of_le_length (by omega), List.take_of_length_le (by omega)]

/-- The rest of a row laid one place nearer. -/
theorem moveY (w : World) (ty : TypeId) (g n i c : Nat) (A : Option Addr) (cur : Array Value) (Y : List (Nat × Nat)) (hg : w.heap[g]? = some (.cells cur 98 (0, 0))) (hY : Y.length = n) (ht : cur.toList.take (n * 2) = cY Y) (hi : i < n) (hn : n ≤ c) (hs : cur.size = c * 2)
    (hA : i + 1 < n → A = some ⟨g, (i + 1) * 2, none⟩) :
    ∃ cur' : Array Value, (Builtin.append_ #[74, 74] ty #[.slice (some ⟨g, 0, none⟩) i c, .slice A (n - (i + 1)) (c - (i + 1))]).run Tryz.prog w = .ok (.slice (some ⟨g, 0, none⟩) (n - 1) c) (put w g (.cells cur' 98 (0, 0))) ∧ cur'.size = cur.size ∧ cur'.toList.take ((n - 1) * 2) = cY (Y.eraseIdx i) := by
  obtain ⟨i0, hi0, hz0, hz1, hz2⟩ := info_parts info_snap
  have hcl : cur.toList.length = c * 2 := by rw [Array.length_toList, hs]
  have hti : cur.toList.take (i * 2) = cY (Y.take i) := by
    have : cur.toList.take (i * 2) = (cY Y).take (i * 2) := by rw [← ht, List.take_take, Nat.min_eq_left (by omega)]
    rw [this]
    have e : Y = Y.take i ++ Y.drop i := (List.take_append_drop i Y).symm
    have e2 : cY Y = cY (Y.take i) ++ cY (Y.drop i) := by rw [← cY_append, List.take_append_drop]
    have e3 : (cY (Y.take i)).length = i * 2 := by rw [cY_length, List.length_take]; omega
    rw [e2, List.take_append_of_le_length (by omega), List.take_of_length_le (by omega)]
  rcases Nat.lt_or_ge (i + 1) n with hlt | hge
  · rw [hA hlt]
    have hnews : ∀ j u, (cY (Y.drop (i + 1)))[j]? = some u → w.cell? ((⟨g, (i + 1) * 2, none⟩ : Addr).add j) = some u := by
      intro j u hu
      have hj : j < (n - (i + 1)) * 2 := by
        rcases Nat.lt_or_ge j ((n - (i + 1)) * 2) with h | h
        · exact h
        · rw [List.getElem?_eq_none (by rw [cY_length, List.length_drop]; omega)] at hu; cases hu
      rw [add_plain, cell_of_row w g _ cur 98 (0, 0) hg, ← Array.getElem?_toList]
      have e2 : cY Y = cY (Y.take (i + 1)) ++ cY (Y.drop (i + 1)) := by rw [← cY_append, List.take_append_drop]
      have e3 : (cY (Y.take (i + 1))).length = (i + 1) * 2 := by rw [cY_length, List.length_take]; omega
      have e4 : cur.toList[(i + 1) * 2 + j]? = (cY Y)[(i + 1) * 2 + j]? := by rw [← ht, List.getElem?_take_of_lt (by omega)]
      rw [e4, e2, List.getElem?_append_right (by omega), e3, Nat.add_sub_cancel_left, hu]
    have hrun := run_append_room (P := Tryz.prog) w 74 ty 98 i0 Tryz.underlying74 hi0 g i c cur hg ⟨g, (i + 1) * 2, none⟩ (n - (i + 1)) (c - (i + 1)) (cY (Y.drop (i + 1))) (by rw [cY_length, List.length_drop, hz1, hY]) hnews (cY_one _) (by omega) (by rw [cY_length, List.length_drop, hz1, hs]; omega)
    rw [show i + (n - (i + 1)) = n - 1 by omega, hz1, setRow_put' hg] at hrun
    refine ⟨_, hrun, ?_, ?_⟩
    · simp only [List.size_toArray, List.length_append, List.length_take, List.length_drop, Array.length_toList, cY_length, hs, hY]
      omega
    · rw [hti, List.eraseIdx_eq_take_drop_succ, cY_append, List.take_append_of_le_length (by simp only [List.length_append, cY_length, List.length_take, List.length_drop]; omega)]
      exact List.take_of_length_le (by simp only [List.length_append, cY_length, List.length_take, List.length_drop]; omega)
  · have hin : i + 1 = n := by omega
    have e0 : n - (i + 1) = 0 := by omega
    have e1 : n - 1 = i := by omega
    refine ⟨cur, ?_, rfl, ?_⟩
    · rw [e0, e1, put_self hg]
      have hic : i ≤ c := by omega
      cases A <;> simp [Builtin.append_, run_underlying Tryz.underlying74, sizeOf, typeInfo, hi0, Builtin.lenOf, Builtin.firstCells, hic, storeCells, loadCells, loadCellsFrom]
    · rw [e1, hti, List.eraseIdx_eq_take_drop_succ, List.drop_eq_nil_of_le (by omega), List.append_nil]

/-- An append whose outcome is known. -/
theorem wpList_appendAs {w w' : World} {ops : Array Oper} {rest : List Oper} {o : Oper} {a : Act} {Q : Exit → Act → World → Prop} (hgd : o.guard = none) (s x : Operand) (t t' : TypeId)
    (hop : o.op = .call { callee := .builtin .append, args := #[s, x], argTypes := #[t, t'] }) (vs vx v : Value) (hs : a.eval s = vs) (hx : a.eval x = vx)
    (hrun : ∀ ty, (Builtin.append_ #[t, t'] ty #[vs, vx]).run Tryz.prog w = .ok v w') (h : wpList Tryz.prog ops Q rest (a.put o.dst v) w') : wpList Tryz.prog ops Q (o :: rest) a w := by
  refine wpList_plain hgd fun K hK => ?_
  unfold Oper.wp execOp
  simp only [hop, resolve, invoke, builtin, Sem.run_bind, Sem.run_pure, Result.andThen_ok, List.map_toArray, List.map_cons, List.map_nil, hs, hx, hrun]
  exact hK _ _ h

set_option maxHeartbeats 1000000 in
theorem delY_any (w : World) (base g n c i : Nat) (Y : List (Nat × Nat)) (ho : OwnY w base (.slice (some ⟨g, 0, none⟩) n c) Y) (hY : Y.length = n) (hi : i < n) :
    Calls Tryz.prog 41 #[.slice (some ⟨g, 0, none⟩) n c, .int .i64 (i : Int), .int .i64 ((i + 1 : Nat) : Int)] w fun e w' => e = .returned (.slice (some ⟨g, 0, none⟩) (n - 1) c) ∧ OwnY w' base (.slice (some ⟨g, 0, none⟩) (n - 1) c) (Y.eraseIdx i) ∧ Save [g] w w' := by
  rcases ho.2 with ⟨hv, _⟩ | ⟨g', cap, cur, hv, hbg, hgo, hnc, hcm, hsz, ht⟩
  · cases hv
  injection hv with h1 h2 h3
  injection h1 with h1
  injection h1 with h1
  subst h1
  subst h3
  have hlen : Y.length = n := hY
  rw [hlen] at hnc ht
  obtain ⟨V, hV⟩ := sliceY_all3 (some ⟨g, 0, none⟩) n c i (i + 1) (by omega) (by omega) hnc
  obtain ⟨A, hA, hF⟩ := sliceY_from g n c (i + 1) (by omega) hnc
  have hT := sliceY_to (some ⟨g, 0, none⟩) n c i .i64 (by omega)
  obtain ⟨cur1, hmv, hs1, ht1⟩ : ∃ cur' : Array Value, (∀ ty, (Builtin.append_ #[74, 74] ty #[.slice (some ⟨g, 0, none⟩) i c, .slice A (n - (i + 1)) (c - (i + 1))]).run Tryz.prog w.drew = .ok (.slice (some ⟨g, 0, none⟩) (n - 1) c) (put w.drew g (.cells cur' 98 (0, 0)))) ∧ cur'.size = cur.size ∧ cur'.toList.take ((n - 1) * 2) = cY (Y.eraseIdx i) := by
    obtain ⟨cur', h1, h2, h3⟩ := moveY w.drew 0 g n i c A cur Y hgo hlen ht hi hnc hsz hA
    exact ⟨cur', fun ty => h1, h2, h3⟩
  have hg1 : (put w.drew g (.cells cur1 98 (0, 0))).heap[g]? = some (.cells cur1 98 (0, 0)) := put_same (w := w.drew) hgo
  obtain ⟨w1, hw1⟩ : ∃ w1, w1 = put w.drew g (.cells cur1 98 (0, 0)) := ⟨_, rfl⟩
  rw [← hw1] at hmv hg1
  have HS1 : Hid (Save [g] w w1) := Lib.hid (by rw [hw1]; exact ((Save.refl _ _).drew).put (by simp) _)
  have h4 := sliceY_mid g n c (n - 1) (by omega) hnc
  obtain ⟨cur2, hcl, hs2, ht2⟩ : ∃ cur' : Array Value, (∀ ty, (Builtin.clear_ #[74] ty #[.slice (some ⟨g, (n - 1) * 2, none⟩) (n - (n - 1)) (c - (n - 1))]).run Tryz.prog w1 = .ok (.tuple #[]) (put w1 g (.cells cur' 98 (0, 0)))) ∧ cur'.size = cur1.size ∧ cur'.toList.take ((n - 1) * 2) = cur1.toList.take ((n - 1) * 2) := by
    obtain ⟨cur', h1, h2, h3⟩ := clearY w1 0 g n (n - 1) (c - (n - 1)) cur1 hg1 (by omega) (by rw [hs1, hsz]; omega)
    exact ⟨cur', fun ty => h1, h2, h3⟩
  have HW : Hid (OwnY (put w1 g (.cells cur2 98 (0, 0))) base (.slice (some ⟨g, 0, none⟩) (n - 1) c) (Y.eraseIdx i)) := by
    refine Lib.hid ⟨cY_length _, .inr ⟨g, c, cur2, ?_, hbg, put_same hg1, ?_, hcm, by rw [hs2, hs1, hsz], ?_⟩⟩
    · rw [List.length_eraseIdx, hlen, if_pos hi]
    · rw [List.length_eraseIdx, hlen, if_pos hi]; omega
    · rw [List.length_eraseIdx, hlen, if_pos hi, ht2, ht1]
  have hne : ((i : Int) == ((i + 1 : Nat) : Int)) = false := by simp; omega
  obtain ⟨j, hj⟩ : ∃ j, j = i + 1 := ⟨_, rfl⟩
  obtain ⟨d1, hd1⟩ : ∃ d1, d1 = n - j := ⟨_, rfl⟩
  obtain ⟨d2, hd2⟩ : ∃ d2, d2 = c - j := ⟨_, rfl⟩
  obtain ⟨d3, hd3⟩ : ∃ d3, d3 = n - 1 := ⟨_, rfl⟩
  rw [← hj] at hV hF hmv hne ⊢
  rw [← hd1, ← hd2] at hF hmv
  rw [← hd3] at hmv h4 hcl HW ⊢
  obtain ⟨d4, hd4⟩ : ∃ d4, d4 = n - d3 := ⟨_, rfl⟩
  obtain ⟨d5, hd5⟩ : ∃ d5, d5 = c - d3 := ⟨_, rfl⟩
  rw [← hd4, ← hd5] at h4 hcl
  clear ho hgo hnc hcm hsz ht hA hs1 ht1 hg1 hs2 ht2 hlen hY hi hj hd1 hd2 hd3 hd4 hd5 hbg hw1 h2
  go_enter Tryz.func41, Tryz.ntmps41
  go_upto_region 5 with fail
  have HMV := Lib.hid hmv
  clear hmv
  refine wp_region_still_tail 6 (by kernel_rfl) (by kernel_rfl) ?_
  simp only [List.take_succ_cons, List.take_zero, List.drop_succ_cons, List.drop_zero]
  change wpStill _ _ w.drew _ _ _
  repeat still_step
  refine wpStill_nil ?_
  change wpList _ _ _ _ _ w.drew
  refine wpList_appendAs rfl (.tmp 22) (.tmp 25) 74 74 rfl _ _ _ rfl rfl HMV.out ?_
  go_wp2
  go_ret
  exact ⟨rfl, HW.out, HS1.out.put (by simp) _⟩

end Go.Proofs.YtaijjogjohbheaaGreat
