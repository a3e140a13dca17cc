/- The document's own tape and power, in memory: Used, in, Write, Seek, Skip, Get. -/
import Derived.Test.YtcmbnijjkpfhlaaGTapeGetNew
namespace Go.Proofs.Ytcmbnijjkpfhlaa
open Go.RowKit
set_option linter.unusedSimpArgs false

/-- Writes till power falls; below 0: none. -/
def Pw.till (s : Pw) : Int := match s.plan with | some (k, _) => (k : Int) | none => -1

def mpObj (on : Bool) (p t : Int) : Obj := .cells #[.bool on, .int .i64 p, .int .i64 t] 60 (0, 0)

/-- Block gq is the document's power, in state s. -/
def MP (w : World) (gq : Nat) (s : Pw) : Prop := ∃ t, w.heap[gq]? = some (mpObj s.on s.till t) ∧ ∀ j u, s.plan = some (j, u) → t = u

theorem mpcells {w : World} {gq : Nat} {on : Bool} {p t : Int} (h : w.heap[gq]? = some (mpObj on p t)) :
    w.cell? ⟨gq, 0, none⟩ = some (.bool on) ∧ w.cell? ⟨gq, 1, none⟩ = some (.int .i64 p) ∧ w.cell? ⟨gq, 2, none⟩ = some (.int .i64 t) := by
  refine ⟨?_, ?_, ?_⟩ <;> rw [cell_of_row w gq _ _ 60 (0, 0) h] <;> rfl

theorem mpsoft {w : World} {gq : Nat} {on : Bool} {p t : Int} (h : w.heap[gq]? = some (mpObj on p t)) (i : Nat) : w.frozen? ⟨gq, i, none⟩ = false := by
  simp [World.frozen?, h, mpObj]

theorem mplay0 {w : World} {gq : Nat} {on : Bool} {p t : Int} (h : w.heap[gq]? = some (mpObj on p t)) (x : Bool) : w.setCell ⟨gq, 0, none⟩ (.bool x) = put w gq (mpObj x p t) := set_put _ h
theorem mplay1 {w : World} {gq : Nat} {on : Bool} {p t : Int} (h : w.heap[gq]? = some (mpObj on p t)) (x : Int) : w.setCell ⟨gq, 1, none⟩ (.int .i64 x) = put w gq (mpObj on x t) := set_put _ h
theorem mplay2 {w : World} {gq : Nat} {on : Bool} {p t : Int} (h : w.heap[gq]? = some (mpObj on p t)) (x : Int) : w.setCell ⟨gq, 2, none⟩ (.int .i64 x) = put w gq (mpObj on p x) := set_put _ h

theorem MP.lt {w : World} {gq : Nat} {s : Pw} (h : MP w gq s) : gq < w.heap.size := h.elim fun _ h => lt_of_block h.1

theorem MP.save {w w' : World} {gq : Nat} {s : Pw} {Y : List Nat} (h : MP w gq s) (hs : Save Y w w') (hY : gq ∉ Y) : MP w' gq s := by
  obtain ⟨t, h1, h2⟩ := h
  exact ⟨t, (hs.block gq (lt_of_block h1) hY).trans h1, h2⟩

theorem MP.on {w : World} {gq : Nat} {s : Pw} (h : MP w gq s) : w.cell? ⟨gq, 0, none⟩ = some (.bool s.on) := h.elim fun _ h => (mpcells h.1).1

set_option maxRecDepth 100000 in
theorem mwrite_any (w : World) (gq : Nat) (s : Pw) (m : Nat) (h : MP w gq s) (ho : s.on = true) (hok : s.ok) :
    Calls Try.prog 51 #[.pointer (some ⟨gq, 0, none⟩), .int .i64 (m : Int)] w fun e w' => e = .returned (.tuple #[.int .i64 (s.write (m : Int)).2.1, .bool (decide ((s.write (m : Int)).2.2 ≠ 0))]) ∧ MP w' gq (s.write (m : Int)).1 ∧ Save [gq] w w' := by
  obtain ⟨t, ht, hp⟩ := h
  obtain ⟨on, plan, count⟩ := s
  simp only at ho
  subst ho
  have hm : ¬ ((m : Int) < 0) := by omega
  rcases plan with _ | ⟨_ | k, u⟩
  · rw [write_on hm rfl]
    have ht' : w.heap[gq]? = some (mpObj true (-1) t) := ht
    obtain ⟨c0, c1, c2⟩ := mpcells ht'
    have f := mpsoft ht'
    have HT := Lib.hid ht'
    clear hm ht ht' hp hok
    go_enter Try.func51, Try.ntmps51
    go_wp2
    go_ret2
    refine ⟨rfl, ⟨t, ?_, by simp⟩, ?_⟩
    · rw [mplay1 HT.out]; exact put_same HT.out
    · exact Save.set _ _ _ _
  · rw [write_fall hm rfl]
    have hu : t = u := hp 0 u rfl
    subst hu
    have ht' : w.heap[gq]? = some (mpObj true 0 t) := ht
    obtain ⟨c0, c1, c2⟩ := mpcells ht'
    have f := mpsoft ht'
    have HT := Lib.hid ht'
    clear hm ht ht' hp hok
    go_enter Try.func51, Try.ntmps51
    go_wp2
    go_ret2
    have e1 : w.setCell ⟨gq, 0, none⟩ (.bool false) = put w gq (mpObj false 0 t) := mplay0 HT.out false
    refine ⟨rfl, ⟨t, ?_, by simp⟩, ?_⟩
    · rw [e1, mplay1 (put_same HT.out)]; exact put_same (put_same HT.out)
    · exact (Save.set _ _ _ _).trans (Save.set _ _ _ _)
  · rw [write_less hm rfl]
    have hk := hok.1 (k + 1) u rfl
    have hu : t = u := hp (k + 1) u rfl
    subst hu
    have ht' : w.heap[gq]? = some (mpObj true ((k + 1 : Nat) : Int) t) := ht
    obtain ⟨c0, c1, c2⟩ := mpcells ht'
    have f := mpsoft ht'
    have HT := Lib.hid ht'
    have hw : IntKind.i64.wrap (((k + 1 : Nat) : Int) - 1) = (k : Int) := by rw [IntKind.wrap_i64] <;> omega
    have hz : (((k + 1 : Nat) : Int) == 0) = false := by simp; omega
    have hmx : max (k : Int) (-1) = (k : Int) := by omega
    obtain ⟨K, hK⟩ : ∃ K : Nat, K = k + 1 := ⟨_, rfl⟩
    rw [← hK] at c1 hw hz
    clear hm ht ht' hp hk hok hK
    go_enter Try.func51, Try.ntmps51
    go_wp2
    go_ret2
    refine ⟨rfl, ⟨t, ?_, ?_⟩, ?_⟩
    · have e1 : w.setCell ⟨gq, 1, none⟩ (.int .i64 (k : Int)) = put w gq (mpObj true (k : Int) t) := mplay1 HT.out k
      first
        | (rw [e1]; exact put_same HT.out)
        | (rw [hmx, e1]; exact put_same HT.out)
    · intro j v e
      injection e with e
      injection e with e1 e2
    · exact Save.set _ _ _ _

/-- A piece as it lies in the document's tape. -/
structure MC where
  a : Option Addr
  c : Nat
  l : List Nat

def mcC (p : MC) : List Value := [.slice p.a p.l.length p.c, .bool (p.l.length == 0)]

def cM : List MC → List Value
  | [] => []
  | p :: r => mcC p ++ cM r

theorem cM_append (X Y : List MC) : cM (X ++ Y) = cM X ++ cM Y := by
  induction X with
  | nil => rfl
  | cons p r ih => simp [cM, ih]

theorem cM_length (X : List MC) : (cM X).length = X.length * 2 := by
  induction X with
  | nil => rfl
  | cons p r ih => simp [cM, mcC, ih]; omega

theorem cM_one (X : List MC) : ∀ u ∈ cM X, u.oneCell' = true := by
  induction X with
  | nil => simp [cM]
  | cons p r ih =>
    intro u hu
    simp only [cM, mcC, List.cons_append, List.nil_append, List.mem_cons] at hu
    rcases hu with rfl | rfl | hu
    · rfl
    · rfl
    · exact ih u hu

def MC.none : MC := ⟨.none, 0, []⟩

theorem cM_get (X : List MC) (i : Nat) (h : i < X.length) : (cM X)[i * 2]? = some (.slice (X.getD i MC.none).a (X.getD i MC.none).l.length (X.getD i MC.none).c) ∧ (cM X)[i * 2 + 1]? = some (.bool ((X.getD i MC.none).l.length == 0)) := by
  induction X generalizing i with
  | nil => simp at h
  | cons p r ih =>
    cases i with
    | zero => exact ⟨rfl, rfl⟩
    | succ i =>
      have h' : i < r.length := by simpa using h
      have e1 : (i + 1) * 2 = i * 2 + 2 := by omega
      rw [e1]
      have := ih i h'
      simpa [cM, mcC, List.getD] using this

theorem cM_take (X : List MC) (k : Nat) : (cM X).take (k * 2) = cM (X.take k) := by
  induction X generalizing k with
  | nil => simp [cM]
  | cons p r ih =>
    cases k with
    | zero => simp [cM]
    | succ k =>
      have e1 : (k + 1) * 2 = k * 2 + 2 := by omega
      rw [e1]
      simp [cM, mcC, ih]

def mtObj (room early : Nat) (vW vR v : Value) (pos : Nat) : Obj :=
  .cells #[.int .i64 (room : Int), .int .i64 (early : Int), vW, vR, v, .int .i64 (pos : Int)] 57 (0, 0)

/-- Block gm is the document's tape in state t; all its blocks are in F. -/
structure Mt (w : World) (gm : Nat) (t : Tst) (F : List Nat) (v : Value) (X : List MC) (aW aR : Option Addr) (nW cW nR cR : Nat) : Prop where
  obj : w.heap[gm]? = some (mtObj t.room t.early (.slice aW nW cW) (.slice aR nR cR) v t.pos)
  rw_ : RdI w aW nW t.nw
  rr : RdI w aR nR t.nr
  row : w.ownsRow 0 77 2 v X.length (cM X)
  pcs : ∀ p ∈ X, Rd w p.a p.l.length p.l ∧ p.l.length ≤ p.c ∧ (0 < p.l.length → ∀ b o, p.a = some ⟨b, o, none⟩ → b ∈ F ∧ b ≠ gm)
  lst : X.map MC.l = t.P
  pos_le : t.pos ≤ t.P.length
  fits : usedOf t.P ≤ t.room
  roomle : t.room ≤ 16777216
  ft : gm ∈ F
  fv : ∀ g, v.ownBlock = some g → g ∈ F
  fw : ∀ b o, aW = some ⟨b, o, none⟩ → b ∈ F ∧ b ≠ gm
  fr : ∀ b o, aR = some ⟨b, o, none⟩ → b ∈ F ∧ b ≠ gm
  fl : ∀ k ∈ F, k < w.heap.size

def Mta (w : World) (gm : Nat) (t : Tst) (F : List Nat) : Prop := ∃ v X aW aR nW cW nR cR, Mt w gm t F v X aW aR nW cW nR cR

section
variable {w w' : World} {gm : Nat} {t : Tst} {F : List Nat} {v : Value} {X : List MC} {aW aR : Option Addr} {nW cW nR cR : Nat}

theorem Mt.len (h : Mt w gm t F v X aW aR nW cW nR cR) : X.length = t.P.length := by rw [← h.lst]; simp

theorem Mt.cells (h : Mt w gm t F v X aW aR nW cW nR cR) :
    w.cell? ⟨gm, 0, none⟩ = some (.int .i64 (t.room : Int)) ∧ w.cell? ⟨gm, 2, none⟩ = some (.slice aW nW cW) ∧ w.cell? ⟨gm, 3, none⟩ = some (.slice aR nR cR) ∧ w.cell? ⟨gm, 4, none⟩ = some v ∧ w.cell? ⟨gm, 5, none⟩ = some (.int .i64 (t.pos : Int)) := by
  refine ⟨?_, ?_, ?_, ?_, ?_⟩ <;> rw [cell_of_row w gm _ _ 57 (0, 0) h.obj] <;> rfl

theorem Mt.soft (h : Mt w gm t F v X aW aR nW cW nR cR) (i : Nat) : w.frozen? ⟨gm, i, none⟩ = false := by
  simp [World.frozen?, h.obj, mtObj]

theorem Mt.kept (h : Mt w gm t F v X aW aR nW cW nR cR) (hsz : w.heap.size ≤ w'.heap.size) (hF : ∀ k ∈ F, k < w.heap.size → w'.heap[k]? = w.heap[k]?) : Mt w' gm t F v X aW aR nW cW nR cR := by
  have hI : ∀ a n L, RdI w a n L → (∀ b o, a = some ⟨b, o, none⟩ → b ∈ F ∧ b ≠ gm) → RdI w' a n L := by
    intro a n L h1 h2
    refine ⟨h1.1, h1.2.1, fun hn => ?_⟩
    obtain ⟨b, o, e, hc⟩ := h1.2.2 hn
    refine ⟨b, o, e, fun j hj => ?_⟩
    rw [← hc j hj]
    simp only [World.cell?, hF b (h2 b o e).1 (World.block_lt_of_cell? w _ (hc j hj))]
  refine { h with obj := ?_, rw_ := hI _ _ _ h.rw_ h.fw, rr := hI _ _ _ h.rr h.fr, row := ?_, pcs := ?_, fl := fun k hk => Nat.lt_of_lt_of_le (h.fl k hk) hsz }
  · exact (hF gm h.ft (lt_of_block h.obj)).trans h.obj
  · obtain ⟨h0, h1⟩ := h.row
    refine ⟨h0, h1.imp id ?_⟩
    rintro ⟨g, cap, cur, hv, hb, hg, rest⟩
    exact ⟨g, cap, cur, hv, hb, (hF g (h.fv g (by rw [hv]; rfl)) (lt_of_block hg)).trans hg, rest⟩
  · intro p hp'
    obtain ⟨h1, h2, h3⟩ := h.pcs p hp'
    refine ⟨⟨h1.1, h1.2.1, fun hn => ?_⟩, h2, h3⟩
    obtain ⟨b, o, e, hc⟩ := h1.2.2 hn
    refine ⟨b, o, e, fun j hj => ?_⟩
    rw [← hc j hj]
    simp only [World.cell?, hF b (h3 hn b o e).1 (World.block_lt_of_cell? w _ (hc j hj))]

theorem Mt.save {Y : List Nat} (h : Mt w gm t F v X aW aR nW cW nR cR) (hs : Save Y w w') (hY : ∀ k ∈ F, k ∉ Y) : Mt w' gm t F v X aW aR nW cW nR cR :=
  h.kept hs.size (fun k hk hlt => hs.block k hlt (hY k hk))

theorem Mt.later (h : Mt w gm t F v X aW aR nW cW nR cR) (hb : Below w.heap.size w w') : Mt w' gm t F v X aW aR nW cW nR cR :=
  h.save (Y := []) (Save.of_below hb _) (by simp)

theorem Mta.save {Y : List Nat} (h : Mta w gm t F) (hs : Save Y w w') (hY : ∀ k ∈ F, k ∉ Y) : Mta w' gm t F := by
  obtain ⟨v, X, aW, aR, nW, cW, nR, cR, h⟩ := h
  exact ⟨v, X, aW, aR, nW, cW, nR, cR, h.save hs hY⟩

theorem Mta.later (h : Mta w gm t F) (hb : Below w.heap.size w w') : Mta w' gm t F := h.save (Y := []) (Save.of_below hb _) (by simp)

theorem Mta.fl (h : Mta w gm t F) : ∀ k ∈ F, k < w.heap.size := by
  obtain ⟨v, X, aW, aR, nW, cW, nR, cR, h⟩ := h
  exact h.fl

theorem Mt.pos_small (h : Mt w gm t F v X aW aR nW cW nR cR) : t.P.length ≤ 16777216 := by
  have := usedOf_len t.P
  have := h.fits
  have := h.roomle
  omega

theorem Mt.shape (h : Mt w gm t F v X aW aR nW cW nR cR) :
    ∃ a c, v = .slice a t.P.length c ∧ t.P.length ≤ c ∧ (0 < t.P.length → ∃ g, a = some ⟨g, 0, none⟩) := by
  rcases h.row.2 with ⟨rfl, hl⟩ | ⟨g, cap, cur, rfl, _, hg, hc, hm, hs, ht⟩
  · rw [h.len] at hl
    rw [hl]
    exact ⟨none, 0, rfl, Nat.le_refl _, by omega⟩
  · rw [h.len] at hc ⊢
    exact ⟨_, cap, rfl, hc, fun _ => ⟨g, rfl⟩⟩

/-- A piece's two cells. -/
theorem Mt.piece (h : Mt w gm t F v X aW aR nW cW nR cR) (i : Nat) (hi : i < t.P.length) :
    ∃ g c a m d, v = .slice (some ⟨g, 0, none⟩) t.P.length c ∧ w.cell? ⟨g, i * 2, none⟩ = some (.slice a m d) ∧ w.cell? ⟨g, i * 2 + 1, none⟩ = some (.bool (m == 0)) ∧ Rd w a m (t.P.getD i []) ∧ m ≤ d ∧ (0 < m → ∀ b o, a = some ⟨b, o, none⟩ → b ∈ F ∧ b ≠ gm) := by
  have hX : i < X.length := by rw [h.len]; exact hi
  obtain ⟨e1, e2⟩ := cM_get X i hX
  have hm : X.getD i MC.none ∈ X := by simp [List.getD, hX]
  obtain ⟨h3, h4, h5⟩ := h.pcs _ hm
  have e : t.P.getD i [] = (X.getD i MC.none).l := by
    rw [← h.lst]
    simp [List.getD, hX]
  rcases h.row.2 with ⟨_, hl⟩ | ⟨g, cap, cur, rfl, _, hg, hc, _, hs, ht⟩
  · omega
  · refine ⟨g, cap, _, _, _, by rw [h.len], ?_, ?_, by rw [e]; exact h3, h4, h5⟩
    · rw [cell_of_row w g _ cur 77 (0, 0) hg, ← Array.getElem?_toList, ← e1, ← ht, List.getElem?_take_of_lt (by omega)]
    · rw [cell_of_row w g _ cur 77 (0, 0) hg, ← Array.getElem?_toList, ← e2, ← ht, List.getElem?_take_of_lt (by omega)]

end

theorem min_any (w : World) (a : Option Addr) (n c : Nat) (L : List Int) (z : Int) (h : RdI w a n L) (hn : n ≤ 1000000) :
    Calls Try.prog 52 #[.slice a n c, .int .i64 z] w fun e w' => e = .returned (.bool (decide (z ∈ L))) ∧ w' = w := by
  have HH := Lib.hid h
  clear h
  go_enter Try.func52, Try.ntmps52
  go_wp2
  go_loopg [5] n (fun gk i wr => ∃ j : Nat, gk = n - j ∧ j ≤ n ∧ i = .int .i64 (j : Int) ∧ wr = w ∧ Hid (z ∉ L.take j))
  case atStart => exact ⟨0, rfl, Nat.zero_le _, rfl, rfl, Lib.hid (by simp)⟩
  case round =>
    obtain ⟨j, hgk, hj, rfl, rfl, HI⟩ := hrel
    have HGK := Lib.hid hgk
    clear hgk
    by_cases hlt : j < n
    · obtain ⟨b, o, rfl, hc⟩ := HH.out.2.2 (by omega)
      have hcj := hc j hlt
      have hjl : j < L.length := by rw [HH.out.1]; exact hlt
      obtain ⟨y, hy⟩ : ∃ y, y = L.getD j 0 := ⟨_, rfl⟩
      rw [← hy] at hcj
      have HY := Lib.hid (And.intro hy hjl)
      clear hc hy hjl
      by_cases he : y = z
      · have hb : (y == z) = true := by simp [he]
        have HE := Lib.hid he
        clear he
        go_wp2
        go_ret
        refine ⟨?_, rfl⟩
        have hm : z ∈ L := by
          rw [← HE.out, HY.out.1]
          simp [List.getD, HY.out.2]
        rw [decide_eq_true hm]
        rfl
      · have hb : (y == z) = false := by simp [he]
        have HE := Lib.hid he
        clear he
        go_wp2
        go_roundg (n - (j + 1))
        case measure => have := HGK.out; omega
        case rel =>
          refine ⟨j + 1, rfl, by omega, by go_num, rfl, Lib.hid ?_⟩
          rw [take_snoc L 0 HY.out.2, List.mem_append]
          rintro (h | h)
          · exact HI.out h
          · simp only [List.mem_singleton] at h
            exact HE.out (by rw [HY.out.1, h])
    · have e : j = n := by omega
      subst e
      go_wp2
      go_ret
      refine ⟨?_, rfl⟩
      have hm : z ∉ L := by
        have := HI.out
        rw [List.take_of_length_le (by rw [HH.out.1]; exact Nat.le_refl _)] at this
        exact this
      rw [decide_eq_false hm]
      rfl

theorem mused_any (w : World) (gm : Nat) (t : Tst) (F : List Nat) (h : Mta w gm t F) :
    Calls Try.prog 50 #[.pointer (some ⟨gm, 0, none⟩)] w fun e w' => e = .returned (.int .i64 (t.used : Int)) ∧ w' = w := by
  obtain ⟨v, X, aW, aR, nW, cW, nR, cR, h⟩ := h
  have HH := Lib.hid h
  obtain ⟨c0, _, _, c4, c5⟩ := h.cells
  have hps := h.pos_small
  have hpl := h.pos_le
  obtain ⟨p, hp⟩ : ∃ p, p = t.pos := ⟨_, rfl⟩
  obtain ⟨n, hn⟩ : ∃ n, n = t.P.length := ⟨_, rfl⟩
  have hr := h.roomle
  have hf := h.fits
  rw [← hp] at c5 hpl
  rw [← hn] at hps hpl
  have HN := Lib.hid (And.intro hp (And.intro hn (And.intro hr hf)))
  clear h hp hn hr hf
  go_enter Try.func50, Try.ntmps50
  go_wp2
  go_loopg [3, 4] p (fun gk u i wr => ∃ j : Nat, gk = p - j ∧ j ≤ p ∧ u = .int .i64 ((usedOf (t.P.take j) : Nat) : Int) ∧ i = .int .i64 (j : Int) ∧ wr = w)
  case atStart => exact ⟨0, rfl, Nat.zero_le _, rfl, rfl, rfl⟩
  case round =>
    obtain ⟨j, hgk, hj, rfl, rfl, rfl⟩ := hrel
    have HGK := Lib.hid hgk
    clear hgk
    by_cases hlt : j < p
    · obtain ⟨hp, hn, hr, hf⟩ := HN.out
      obtain ⟨g, c, a, m, d, rfl, k1, k2, k3, _, _⟩ := HH.out.piece j (by omega)
      have hml := k3.1
      have hu1 := usedOf_take_le t.P (j + 1)
      have e1 : usedOf (t.P.take (j + 1)) = usedOf (t.P.take j) + (4 + m) := by rw [take_snoc t.P [] (by omega), usedOf_snoc, hml]
      obtain ⟨U, hU⟩ : ∃ U, U = usedOf (t.P.take j) := ⟨_, rfl⟩
      rw [← hU] at e1 ⊢
      obtain ⟨V, hV⟩ : ∃ V, V = usedOf (t.P.take (j + 1)) := ⟨_, rfl⟩
      rw [← hV] at e1 hu1
      obtain ⟨U4, hU4⟩ : ∃ U4, U4 = U + 4 := ⟨_, rfl⟩
      have hw1 : IntKind.i64.wrap ((U : Int) + 4) = (U4 : Int) := by rw [IntKind.wrap_i64] <;> omega
      have hw2 : IntKind.i64.wrap ((U4 : Int) + (m : Int)) = (V : Int) := by rw [IntKind.wrap_i64] <;> omega
      have HV := Lib.hid hV
      rw [← hn] at c4
      have hjn : j < n := by omega
      clear hu1 e1 hU hV hU4 hp hn hr hf k2 k3 hml
      go_wp2
      go_roundg (p - (j + 1))
      case measure => have := HGK.out; omega
      case rel => exact ⟨j + 1, rfl, by omega, by rw [← HV.out], by go_num, rfl⟩
    · have e : j = p := by omega
      subst e
      go_wp2
      go_ret
      refine ⟨?_, rfl⟩
      unfold Tst.used
      rw [← HN.out.1]
      rfl

end Go.Proofs.Ytcmbnijjkpfhlaa

/- The document's own tape: Seek, Skip, Get. -/
namespace Go.Proofs.Ytcmbnijjkpfhlaa
open Go.RowKit
set_option linter.unusedSimpArgs false

theorem mtlay4 {w : World} {gm room early pos : Nat} {vW vR v : Value} (h : w.heap[gm]? = some (mtObj room early vW vR v pos)) (x : Value) : w.setCell ⟨gm, 4, none⟩ x = put w gm (mtObj room early vW vR x pos) := set_put _ h
theorem mtlay5 {w : World} {gm room early pos : Nat} {vW vR v : Value} (h : w.heap[gm]? = some (mtObj room early vW vR v pos)) (p : Nat) : w.setCell ⟨gm, 5, none⟩ (.int .i64 (p : Int)) = put w gm (mtObj room early vW vR v p) := set_put _ h

theorem RdI.off {w w' : World} {a : Option Addr} {n gm : Nat} {L : List Int} (h : RdI w a n L) (hk : ∀ b, b ≠ gm → b < w.heap.size → w'.heap[b]? = w.heap[b]?) (hX : ∀ b o, a = some ⟨b, o, none⟩ → b ≠ gm) : RdI w' a n L := by
  refine ⟨h.1, h.2.1, fun hn => ?_⟩
  obtain ⟨b, o, e, hc⟩ := h.2.2 hn
  refine ⟨b, o, e, fun j hj => ?_⟩
  rw [← hc j hj]
  simp only [World.cell?, hk b (hX b o e) (World.block_lt_of_cell? w _ (hc j hj))]

theorem Mt.row_ne {w : World} {gm : Nat} {t : Tst} {F : List Nat} {v : Value} {X : List MC} {aW aR : Option Addr} {nW cW nR cR : Nat} (h : Mt w gm t F v X aW aR nW cW nR cR) : v.ownBlock ≠ some gm := by
  intro e
  rcases h.row.2 with ⟨rfl, _⟩ | ⟨g', cap, cur, rfl, _, hg', _⟩
  · cases e
  · injection e with e
    subst e
    rw [h.obj] at hg'
    simp [mtObj] at hg'

theorem Mt.setPos {w : World} {gm : Nat} {t : Tst} {F : List Nat} {v : Value} {X : List MC} {aW aR : Option Addr} {nW cW nR cR : Nat} (h : Mt w gm t F v X aW aR nW cW nR cR) (p : Nat) (hp : p ≤ t.P.length) : Mt (w.setCell ⟨gm, 5, none⟩ (.int .i64 (p : Int))) gm { t with pos := p } F v X aW aR nW cW nR cR := by
  rw [mtlay5 h.obj]
  have hrn := h.row_ne
  have hk : ∀ b, b ≠ gm → b < w.heap.size → (put w gm (mtObj t.room t.early (.slice aW nW cW) (.slice aR nR cR) v p)).heap[b]? = w.heap[b]? := fun b hb _ => put_other hb
  refine ⟨put_same h.obj, h.rw_.off hk (fun b o e => (h.fw b o e).2), h.rr.off hk (fun b o e => (h.fr b o e).2), ?_, ?_, h.lst, hp, h.fits, h.roomle, h.ft, h.fv, h.fw, h.fr, by rw [put_size]; exact h.fl⟩
  · refine ⟨h.row.1, h.row.2.imp id ?_⟩
    rintro ⟨g, cap, cur, hv, h0, hg, rest⟩
    exact ⟨g, cap, cur, hv, h0, (put_other (fun e => hrn (by rw [hv, ← e]; rfl))).trans hg, rest⟩
  · intro q hq
    obtain ⟨h1, h2, h3⟩ := h.pcs q hq
    refine ⟨⟨h1.1, h1.2.1, fun hn => ?_⟩, h2, h3⟩
    obtain ⟨b, o, e, hc⟩ := h1.2.2 hn
    refine ⟨b, o, e, fun j hj => ?_⟩
    rw [← hc j hj]
    simp only [World.cell?, (put_other (h3 hn b o e).2 : (put w gm _).heap[b]? = _)]

theorem mseek_any (w : World) (gm gq : Nat) (s : Pw) (t : Tst) (F : List Nat) (h : Mta w gm t F) (hP : MP w gq s) (z : Int) :
    Calls Try.prog 45 #[.pointer (some ⟨gm, 0, none⟩), .pointer (some ⟨gq, 0, none⟩), .int .i64 z] w fun e w' => e = .returned (.int .i64 ((Tst.seek s t z).2 : Int)) ∧ Mta w' gm (Tst.seek s t z).1 F ∧ Save [gm] w w' := by
  have HT := Lib.hid h
  obtain ⟨v, X, aW, aR, nW, cW, nR, cR, h⟩ := h
  have HH := Lib.hid h
  have d0 := hP.on
  obtain ⟨c0, _, _, c4, c5⟩ := h.cells
  have f5 := h.soft 5
  have hps := h.pos_small
  obtain ⟨a, c, rfl, _⟩ := h.shape
  obtain ⟨n, hn⟩ : ∃ n, n = t.P.length := ⟨_, rfl⟩
  rw [← hn] at c4 hps
  by_cases h0 : z < 0
  · have e : Tst.seek s t z = (t, 1) := by unfold Tst.seek; rw [if_pos (.inl h0)]
    rw [e]
    clear h e hn HH hP
    go_enter Try.func45, Try.ntmps45
    go_wp2
    go_ret
    exact ⟨rfl, HT.out, Save.refl _ _⟩
  · have h0' : 0 ≤ z := by omega
    by_cases h1 : (n : Int) < z
    · have e : Tst.seek s t z = (t, 1) := by unfold Tst.seek; rw [if_pos (.inr (by rw [← hn]; exact h1))]
      rw [e]
      clear h e hn HH hP h0
      go_enter Try.func45, Try.ntmps45
      go_wp2
      go_ret
      exact ⟨rfl, HT.out, Save.refl _ _⟩
    · obtain ⟨j, rfl⟩ : ∃ j : Nat, z = (j : Int) := ⟨z.toNat, by omega⟩
      have hj : j ≤ n := by omega
      by_cases ho : s.on = true
      · have e : Tst.seek s t (j : Int) = ({ t with pos := j }, 0) := by unfold Tst.seek; rw [if_neg (by rw [← hn]; omega), if_neg (by simp [ho])]; simp
        rw [e]
        rw [ho] at d0
        have HJ := Lib.hid (show j ≤ t.P.length by omega)
        clear h e hn h0 h1 h0' ho hP
        go_enter Try.func45, Try.ntmps45
        go_wp2
        go_ret
        exact ⟨rfl, ⟨_, X, aW, aR, nW, cW, nR, cR, HH.out.setPos j HJ.out⟩, Save.set _ _ _ _⟩
      · have e : Tst.seek s t (j : Int) = (t, 11) := by unfold Tst.seek; rw [if_neg (by rw [← hn]; omega), if_pos (by simpa using ho)]
        rw [e]
        have ho' : s.on = false := by simpa using ho
        rw [ho'] at d0
        clear h e hn h0 h1 h0' ho ho' HH hP
        go_enter Try.func45, Try.ntmps45
        go_wp2
        go_ret
        exact ⟨rfl, HT.out, Save.refl _ _⟩

set_option maxHeartbeats 1000000 in
set_option maxRecDepth 100000 in
theorem mskip_any (w : World) (gm gq : Nat) (s : Pw) (t : Tst) (F : List Nat) (h : Mta w gm t F) (hP : MP w gq s) (z : Int) (hzb : z < 9223372036854775808) :
    Calls Try.prog 47 #[.pointer (some ⟨gm, 0, none⟩), .pointer (some ⟨gq, 0, none⟩), .int .i64 z] w fun e w' => e = .returned (.int .i64 ((Tst.skip s t z).2 : Int)) ∧ Mta w' gm (Tst.skip s t z).1 F ∧ Save [gm] w w' := by
  have HT := Lib.hid h
  obtain ⟨v, X, aW, aR, nW, cW, nR, cR, h⟩ := h
  have HH := Lib.hid h
  have d0 := hP.on
  obtain ⟨c0, _, _, c4, c5⟩ := h.cells
  have f5 := h.soft 5
  have HPS := Lib.hid h.pos_small
  have hpl := h.pos_le
  have HZB : Hid (∃ B : Nat, B = 9223372036854775808 ∧ z < (B : Int)) := Lib.hid ⟨_, rfl, hzb⟩
  clear hzb hP
  by_cases h0 : z < 0
  · have e : Tst.skip s t z = (t, 1) := by unfold Tst.skip; rw [if_pos h0]
    rw [e]
    clear h e HH
    go_enter Try.func47, Try.ntmps47
    go_wp2
    go_ret
    exact ⟨rfl, HT.out, Save.refl _ _⟩
  obtain ⟨M, rfl⟩ : ∃ M : Nat, z = (M : Int) := ⟨z.toNat, by omega⟩
  clear h0
  by_cases ho : s.on = false
  · have e : Tst.skip s t (M : Int) = (t, 11) := by unfold Tst.skip; rw [if_neg (by omega), if_pos ho]
    rw [e]
    rw [ho] at d0
    clear h e HH ho
    go_enter Try.func47, Try.ntmps47
    go_wp2
    go_ret
    exact ⟨rfl, HT.out, Save.refl _ _⟩
  have ho' : s.on = true := by simpa using ho
  rw [ho'] at d0
  have e : Tst.skip s t (M : Int) = match skipL (t.P.drop t.pos) M with | none => (t, 6) | some k => ({ t with pos := t.pos + k }, 0) := by
    unfold Tst.skip
    rw [if_neg (by omega), if_neg ho, Int.toNat_natCast]
    cases skipL (t.P.drop t.pos) M <;> rfl
  have HE := Lib.hid e
  obtain ⟨p, hp⟩ : ∃ p, p = t.pos := ⟨_, rfl⟩
  obtain ⟨n, hn⟩ : ∃ n, n = t.P.length := ⟨_, rfl⟩
  obtain ⟨av, cv, rfl, _⟩ := h.shape
  rw [← hp] at c5 hpl
  rw [← hn] at HPS hpl c4
  have hps := HPS.out
  have HN := Lib.hid (And.intro hp (And.intro hn (And.intro hps hpl)))
  have HMb : Hid (∃ B : Nat, B = 9223372036854775808 ∧ M < B) := Lib.hid (by obtain ⟨B, h1, h2⟩ := HZB.out; exact ⟨B, h1, by omega⟩)
  clear h e ho ho' hp hn hps
  go_enter Try.func47, Try.ntmps47
  go_wp2
  go_loopg [2, 7] (n + 1 - p) (fun gk vm vi wr => ∃ m i : Nat, gk = n + 1 - i ∧ i ≤ n ∧ Hid (∃ B : Nat, B = 9223372036854775808 ∧ m < B) ∧ vm = .int .i64 (m : Int) ∧ vi = .int .i64 (i : Int) ∧ wr = w ∧ Hid (p ≤ i ∧ skipL (t.P.drop p) M = (skipL (t.P.drop i) m).map (· + (i - p))))
  case atStart => exact ⟨M, p, rfl, hpl, HMb, rfl, rfl, rfl, Lib.hid ⟨Nat.le_refl _, by rw [Nat.sub_self]; simp⟩⟩
  case round =>
    obtain ⟨m, i, hgk, hi, HMB, rfl, rfl, rfl, HI⟩ := hrel
    have HGK := Lib.hid hgk
    clear hgk
    by_cases hm : 0 < m
    · by_cases hin : i < n
      · obtain ⟨hp, hn, _, _⟩ := HN.out
        obtain ⟨g, c, a, q, d, hv, k1, k2, k3, _, _⟩ := HH.out.piece i (by omega)
        injection hv with hv1 hv2 hv3
        subst hv1
        subst hv3
        have hlq := k3.1
        have HQ := Lib.hid hlq
        clear k3 hlq hp hn hv2 k1
        by_cases hq : q = 0
        · have hqb : (q == 0) = true := by simp [hq]
          rw [hqb] at k2
          have HQ0 := Lib.hid hq
          have hw1 : IntKind.i64.wrap ((m : Int) - 1) = ((m - 1 : Nat) : Int) := by obtain ⟨B, h1, h2⟩ := HMB.out; rw [IntKind.wrap_i64] <;> omega
          clear hqb hq
          go_wp2
          go_roundg (n + 1 - (i + 1))
          case measure => have := HGK.out; omega
          case rel =>
            refine ⟨m - 1, i + 1, rfl, by omega, Lib.hid (by obtain ⟨B, h1, h2⟩ := HMB.out; exact ⟨B, h1, by omega⟩), by go_num, by go_num, rfl, Lib.hid ⟨by have := HI.out.1; omega, ?_⟩⟩
            obtain ⟨hp, hn, _, _⟩ := HN.out
            rw [HI.out.2, skipL_step t.P i m (by omega) hm, if_pos (by rw [HQ.out]; exact HQ0.out), Option.map_map]
            have := HI.out.1
            congr 1
            funext x
            simp only [Function.comp_apply]
            omega
        · have hqb : (q == 0) = false := by simp [hq]
          rw [hqb] at k2
          have HQ0 := Lib.hid hq
          clear hqb hq
          go_wp2
          go_roundg (n + 1 - (i + 1))
          case measure => have := HGK.out; omega
          case rel =>
            refine ⟨m, i + 1, rfl, by omega, HMB, by go_num, by go_num, rfl, Lib.hid ⟨by have := HI.out.1; omega, ?_⟩⟩
            obtain ⟨hp, hn, _, _⟩ := HN.out
            rw [HI.out.2, skipL_step t.P i m (by omega) hm, if_neg (by rw [HQ.out]; exact HQ0.out), Option.map_map]
            have := HI.out.1
            congr 1
            funext x
            simp only [Function.comp_apply]
            omega
      · have hie : i = n := by omega
        have HR := Lib.hid hie
        have hge : n ≤ i := by omega
        clear hie hin
        go_wp2
        go_ret
        have e1 : skipL (t.P.drop t.pos) M = none := by
          rw [← HN.out.1, HI.out.2, skipL_end t.P i m (by rw [HR.out, HN.out.2.1]) hm]
          rfl
        have e2 := HE.out
        rw [e1] at e2
        rw [e2]
        exact ⟨rfl, HT.out, Save.refl _ _⟩
    · have hm0 : m = 0 := by omega
      subst hm0
      clear hm
      go_wp2
      go_ret
      have e1 : skipL (t.P.drop t.pos) M = some (i - p) := by
        rw [← HN.out.1, HI.out.2, skipL_zero]
        simp
      have e2 := HE.out
      rw [e1] at e2
      rw [e2]
      have e3 : t.pos + (i - p) = i := by
        have := HI.out.1
        rw [← HN.out.1]
        omega
      simp only [e3]
      exact ⟨rfl, ⟨_, X, aW, aR, nW, cW, nR, cR, HH.out.setPos i (by rw [← HN.out.2.1]; exact hi)⟩, Save.set _ _ _ _⟩

set_option maxHeartbeats 1000000 in
theorem mget_any (w : World) (gm gq : Nat) (s : Pw) (t : Tst) (F : List Nat) (h : Mta w gm t F) (hP : MP w gq s) (hnr : t.nr.length ≤ 1000000) :
    Calls Try.prog 28 #[.pointer (some ⟨gm, 0, none⟩), .pointer (some ⟨gq, 0, none⟩)] w fun e w' => ∃ a n c, e = .returned (.tuple #[.slice a n c, .int .i64 ((Tst.get s t).2.2 : Int)]) ∧ Rd w' a n (Tst.get s t).2.1 ∧ Mta w' gm (Tst.get s t).1 F ∧ Save [gm] w w' := by
  have HT := Lib.hid h
  obtain ⟨v, X, aW, aR, nW, cW, nR, cR, h⟩ := h
  have HH := Lib.hid h
  have d0 := hP.on
  obtain ⟨c0, c2, c3, c4, c5⟩ := h.cells
  have f5 := h.soft 5
  have hps := h.pos_small
  have hpl := h.pos_le
  by_cases ho' : s.on = false
  · have e : Tst.get s t = (t, [], 11) := by unfold Tst.get; rw [if_pos ho']
    rw [e]
    rw [ho'] at d0
    clear h e ho' HH hP c2 c3 c4 c5 c0
    go_enter Try.func28, Try.ntmps28
    go_wp2
    go_ret2
    exact ⟨_, _, _, rfl, ⟨rfl, by simp, by simp⟩, HT.out, Save.refl _ _⟩
  have ho : s.on = true := by simpa using ho'
  clear ho'
  rw [ho] at d0
  by_cases hend : t.pos = t.P.length
  · have e : Tst.get s t = (t, [], 6) := by unfold Tst.get; rw [if_neg (by simp [ho]), if_pos hend]
    rw [e]
    obtain ⟨a, c, rfl, _⟩ := h.shape
    obtain ⟨n, hn⟩ : ∃ n, n = t.P.length := ⟨_, rfl⟩
    rw [hend] at c5
    rw [← hn] at c4 c5
    clear h e ho HH hn hend hpl c2 c3 hP
    go_enter Try.func28, Try.ntmps28
    go_upto_region 3 with fail
    go_quiet (fail)
    go_wp2
    go_ret2
    exact ⟨_, _, _, rfl, ⟨rfl, by simp, by simp⟩, HT.out.save (Y := []) ((Save.refl _ _).drewN _) (by simp), (Save.refl _ _).drewN _⟩
  have hlt : t.pos < t.P.length := Nat.lt_of_le_of_ne hpl hend
  obtain ⟨g, c, a, m, d, rfl, k1, k2, k3, k4, k5⟩ := h.piece t.pos hlt
  have hlm := k3.1
  obtain ⟨l, hl⟩ : ∃ l, l = t.P.getD t.pos [] := ⟨_, rfl⟩
  rw [← hl] at k3 hlm
  obtain ⟨n, hn⟩ : ∃ n, n = t.P.length := ⟨_, rfl⟩
  obtain ⟨p, hp⟩ : ∃ p, p = t.pos := ⟨_, rfl⟩
  rw [← hn] at c4 hps
  rw [← hp] at c5 k1 k2
  have hpn : p < n := by omega
  have hge : ¬ ((n : Int) ≤ (p : Int)) := by omega
  have hde : decide (n ≤ p) = false := by simp; omega
  have HIN : Hid (∀ W : World, W.heap = w.heap → Calls Try.prog 52 #[.slice aR nR cR, .int .i64 (p : Int)] W fun e w' => e = .returned (.bool (decide ((p : Int) ∈ t.nr))) ∧ w' = W) := Lib.hid fun W hW => min_any W aR nR cR t.nr p (h.rr.off (gm := w.heap.size) (fun b _ _ => by rw [hW]) (fun b o e => by have := h.fl b (h.fr b o e).1; omega)) (by rw [← h.rr.1]; exact hnr)
  by_cases hin : (p : Int) ∈ t.nr
  · have e : Tst.get s t = (t, [], 8) := by unfold Tst.get; rw [if_neg (by simp [ho]), if_neg hend, if_pos (by rw [← hp]; exact hin)]
    rw [e]
    rw [decide_eq_true hin] at HIN
    clear h e ho HH hn hend hpl hl hp hlm k1 k2 k3 k4 k5 hin hlt hP
    go_enter Try.func28, Try.ntmps28
    go_upto_region 3 with fail
    go_quiet (fail)
    obtain ⟨w2, hw2⟩ : ∃ w2, w2 = w.drewN nq := ⟨_, rfl⟩
    rw [← hw2]
    have e3 : w2.cell? ⟨gm, 3, none⟩ = some (.slice aR nR cR) := by rw [hw2]; exact c3
    have e5 : w2.cell? ⟨gm, 5, none⟩ = some (.int .i64 (p : Int)) := by rw [hw2]; exact c5
    have HH2 : Hid (w2.heap = w.heap ∧ Save [] w w2) := by rw [hw2]; exact Lib.hid ⟨rfl, (Save.refl _ _).drewN _⟩
    clear hw2 c0 c2 c3 c4 c5 f5 d0
    go_upto_region 5 with fail
    go_quiet ((go_at_call 52; exact Calls.quiet_of_same (HIN.out _ HH2.out.1)))
    go_wp2
    go_ret2
    first | refine ⟨none, 0, 0, rfl, ⟨rfl, by simp, by simp⟩, ?_, ?_⟩ | refine ⟨none, 0, ⟨0, rfl⟩, ⟨rfl, by simp, by simp⟩, ?_, ?_⟩
    · exact HT.out.save (Y := []) (HH2.out.2.drewN _) (by simp)
    · exact (HH2.out.2.drewN _).mono (by simp)
  have hG : Tst.get s t = if l.length = 0 then ({ t with pos := t.pos + 1 }, [], 10) else ({ t with pos := t.pos + 1 }, l, 0) := by
    unfold Tst.get
    rw [if_neg (by simp [ho]), if_neg hend, if_neg (by rw [← hp]; exact hin), ← hl]
  rw [decide_eq_false hin] at HIN
  have hw5 : IntKind.i64.wrap ((p : Int) + 1) = ((p + 1 : Nat) : Int) := by rw [IntKind.wrap_i64] <;> omega
  obtain ⟨p1, hp1⟩ : ∃ p1, p1 = t.pos + 1 := ⟨_, rfl⟩
  rw [← hp1] at hG
  have ep1 : p + 1 = p1 := by omega
  rw [ep1] at hw5
  have HP1 := Lib.hid (show p1 ≤ t.P.length by omega)
  have hrn : g ≠ gm := fun e => h.row_ne (by rw [e]; rfl)
  have HK : Hid (∀ W, Save [] w W → W.cell? ⟨gm, 4, none⟩ = some (.slice (some ⟨g, 0, none⟩) n c) ∧ W.cell? ⟨gm, 5, none⟩ = some (.int .i64 (p : Int)) ∧ W.frozen? ⟨gm, 5, none⟩ = false ∧ W.cell? ⟨g, p * 2, none⟩ = some (.slice a m d) ∧ W.cell? ⟨g, p * 2 + 1, none⟩ = some (.bool (m == 0)) ∧ Rd W a m l) := by
    refine Lib.hid fun W hW => ?_
    have hx := h.save hW (by simp)
    have hglt : g < w.heap.size := World.block_lt_of_cell? w _ k1
    have hgb := hW.block g hglt (by simp)
    refine ⟨by rw [hn]; exact hx.cells.2.2.2.1, by rw [hp]; exact hx.cells.2.2.2.2, hx.soft 5, ?_, ?_, k3.save hW (by simp)⟩
    · rw [← k1]; simp only [World.cell?, hgb]
    · rw [← k2]; simp only [World.cell?, hgb]
  have HG := Lib.hid hG
  have HLM := Lib.hid hlm
  have HNE := Lib.hid k5
  obtain ⟨mb, hmb⟩ : ∃ mb : Bool, mb = (m == 0) := ⟨_, rfl⟩
  rw [← hmb] at HK
  have HMB := Lib.hid hmb
  clear h hG ho hn hend hpl hl hp hlm k1 k2 k3 k4 k5 hin hlt hp1 ep1 hP hmb
  go_enter Try.func28, Try.ntmps28
  go_upto_region 3 with fail
  go_quiet (fail)
  obtain ⟨w2, hw2⟩ : ∃ w2, w2 = w.drewN nq := ⟨_, rfl⟩
  rw [← hw2]
  have e3 : w2.cell? ⟨gm, 3, none⟩ = some (.slice aR nR cR) := by rw [hw2]; exact c3
  have e5 : w2.cell? ⟨gm, 5, none⟩ = some (.int .i64 (p : Int)) := by rw [hw2]; exact c5
  have HH2 : Hid (w2.heap = w.heap ∧ Save [] w w2) := by rw [hw2]; exact Lib.hid ⟨rfl, (Save.refl _ _).drewN _⟩
  clear hw2 c0 c2 c3 c4 c5 f5 d0
  go_upto_region 5 with fail
  go_quiet ((go_at_call 52; exact Calls.quiet_of_same (HIN.out _ HH2.out.1)))
  obtain ⟨w4, hw4⟩ : ∃ w4, w4 = w2.drewN nq := ⟨_, rfl⟩
  rw [← hw4]
  have HS4 : Hid (Save [] w w4) := by rw [hw4]; exact Lib.hid (HH2.out.2.drewN _)
  clear hw4 e3 e5 HH2
  obtain ⟨c4, c5, f5, k1, k2, k3⟩ := HK.out w4 HS4.out
  clear k3
  have q4 := fun o => Lib.cell?_alloc_some (W := w4) o c4
  have q5 := fun o => Lib.cell?_alloc_some (W := w4) o c5
  have q1 := fun o => Lib.cell?_alloc_some (W := w4) o k1
  have q2 := fun o => Lib.cell?_alloc_some (W := w4) o k2
  go_upto_region 8 with fail
  go_region
  obtain ⟨w5, h5⟩ : ∃ w5, w5 = (w4.alloc (.cells #[.slice a m d, .bool mb] 77)).drew := ⟨_, rfl⟩
  obtain ⟨gx, hgx⟩ : ∃ gx, gx = w4.heap.size := ⟨_, rfl⟩
  rw [← h5, ← hgx]
  have HS5 : Hid (Save [] w w5) := by rw [h5]; exact Lib.hid ((HS4.out.alloc _).drew)
  have hob : w5.heap[gx]? = some (.cells #[.slice a m d, .bool mb] 77 (0, 0)) := by rw [h5, hgx]; exact heap_alloc_new w4 _
  have j0 : w5.cell? ⟨gx, 0, none⟩ = some (.slice a m d) := by rw [cell_of_row w5 gx _ _ 77 (0, 0) hob]; rfl
  have j1 : w5.cell? ⟨gx, 1, none⟩ = some (.bool mb) := by rw [cell_of_row w5 gx _ _ 77 (0, 0) hob]; rfl
  have hgg : gx ≠ gm := by
    have h1 := lt_of_block HH.out.obj
    have h2 := HS4.out.size
    omega
  clear h5 hob q4 q5 q1 q2 c4 c5 f5 k1 k2 hgx
  obtain ⟨c4, c5, f5, k1, k2, k3⟩ := HK.out w5 HS5.out
  have HK5 := Lib.hid k3
  have HT6 : Hid (Mta (w5.setCell ⟨gm, 5, none⟩ (.int .i64 (p1 : Int))) gm { t with pos := p1 } F) := Lib.hid ⟨_, X, aW, aR, nW, cW, nR, cR, (HH.out.save HS5.out (by simp)).setPos p1 HP1.out⟩
  have HS6 : Hid (Save [gm] w (w5.setCell ⟨gm, 5, none⟩ (.int .i64 (p1 : Int)))) := Lib.hid ((HS5.out.mono (by simp)).trans (Save.set w5 gm 5 _))
  have HR6 : Hid (Rd (w5.setCell ⟨gm, 5, none⟩ (.int .i64 (p1 : Int))) a m l) := Lib.hid (HK5.out.off (Save.set w5 gm 5 _) (fun h0 b o e => by simpa using (HNE.out h0 b o e).2))
  clear k3 c4 k1 k2 HK
  by_cases hm : mb = true
  · subst hm
    go_wp2
    go_ret2
    have e := HG.out
    rw [if_pos (by rw [HLM.out]; have := HMB.out; simpa using this.symm)] at e
    rw [e]
    first | exact ⟨none, 0, 0, rfl, ⟨rfl, by simp, by simp⟩, HT6.out, HS6.out⟩ | exact ⟨none, 0, ⟨0, rfl⟩, ⟨rfl, by simp, by simp⟩, HT6.out, HS6.out⟩
  · have hm' : mb = false := by simpa using hm
    clear hm
    subst hm'
    go_wp2
    go_ret2
    have e := HG.out
    rw [if_neg (by rw [HLM.out]; have := HMB.out; simpa using this.symm)] at e
    rw [e]
    first | exact ⟨a, m, d, rfl, HR6.out, HT6.out, HS6.out⟩ | exact ⟨a, m, ⟨d, rfl⟩, HR6.out, HT6.out, HS6.out⟩

end Go.Proofs.Ytcmbnijjkpfhlaa
