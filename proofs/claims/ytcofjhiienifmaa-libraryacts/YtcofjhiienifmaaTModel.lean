/- The document's own tape and power, in memory: Used, in, Write, Seek, Skip, Get. -/
import Derived.Test.YtcofjhiienifmaaTapeSkip
namespace Go.Proofs.Ytcofjhiienifmaa
open Go.RowKit
set_option linter.unusedSimpArgs false

/-- Writes till power falls; below 0: none. -/
def Pw.till (s : Pw) : Int := match s.plan with | some (k, _) => (k : Int) | none => -1

def mpObj (on : Bool) (p t : Int) : Obj := .cells #[.bool on, .int .i64 p, .int .i64 t] 32 (0, 0)

/-- Block gq is the document's power, in state s. -/
def MP (w : World) (gq : Nat) (s : Pw) : Prop := ∃ t, w.heap[gq]? = some (mpObj s.on s.till t) ∧ ∀ j u, s.plan = some (j, u) → t = u

theorem mpcells {w : World} {gq : Nat} {on : Bool} {p t : Int} (h : w.heap[gq]? = some (mpObj on p t)) :
    w.cell? ⟨gq, 0, none⟩ = some (.bool on) ∧ w.cell? ⟨gq, 1, none⟩ = some (.int .i64 p) ∧ w.cell? ⟨gq, 2, none⟩ = some (.int .i64 t) := by
  refine ⟨?_, ?_, ?_⟩ <;> rw [cell_of_row w gq _ _ 32 (0, 0) h] <;> rfl

theorem mpsoft {w : World} {gq : Nat} {on : Bool} {p t : Int} (h : w.heap[gq]? = some (mpObj on p t)) (i : Nat) : w.frozen? ⟨gq, i, none⟩ = false := by
  simp [World.frozen?, h, mpObj]

theorem mplay0 {w : World} {gq : Nat} {on : Bool} {p t : Int} (h : w.heap[gq]? = some (mpObj on p t)) (x : Bool) : w.setCell ⟨gq, 0, none⟩ (.bool x) = put w gq (mpObj x p t) := set_put _ h
theorem mplay1 {w : World} {gq : Nat} {on : Bool} {p t : Int} (h : w.heap[gq]? = some (mpObj on p t)) (x : Int) : w.setCell ⟨gq, 1, none⟩ (.int .i64 x) = put w gq (mpObj on x t) := set_put _ h
theorem mplay2 {w : World} {gq : Nat} {on : Bool} {p t : Int} (h : w.heap[gq]? = some (mpObj on p t)) (x : Int) : w.setCell ⟨gq, 2, none⟩ (.int .i64 x) = put w gq (mpObj on p x) := set_put _ h

theorem MP.lt {w : World} {gq : Nat} {s : Pw} (h : MP w gq s) : gq < w.heap.size := h.elim fun _ h => lt_of_block h.1

theorem MP.save {w w' : World} {gq : Nat} {s : Pw} {Y : List Nat} (h : MP w gq s) (hs : Save Y w w') (hY : gq ∉ Y) : MP w' gq s := by
  obtain ⟨t, h1, h2⟩ := h
  exact ⟨t, (hs.block gq (lt_of_block h1) hY).trans h1, h2⟩

theorem MP.on {w : World} {gq : Nat} {s : Pw} (h : MP w gq s) : w.cell? ⟨gq, 0, none⟩ = some (.bool s.on) := h.elim fun _ h => (mpcells h.1).1

set_option maxRecDepth 100000 in
theorem mwrite_any (w : World) (gq : Nat) (s : Pw) (m : Nat) (h : MP w gq s) (ho : s.on = true) (hok : s.ok) :
    Calls Try.prog 40 #[.pointer (some ⟨gq, 0, none⟩), .int .i64 (m : Int)] w fun e w' => e = .returned (.tuple #[.int .i64 (s.write (m : Int)).2.1, .bool (decide ((s.write (m : Int)).2.2 ≠ 0))]) ∧ MP w' gq (s.write (m : Int)).1 ∧ Save [gq] w w' := by
  obtain ⟨t, ht, hp⟩ := h
  obtain ⟨on, plan, count⟩ := s
  simp only at ho
  subst ho
  have hm : ¬ ((m : Int) < 0) := by omega
  rcases plan with _ | ⟨_ | k, u⟩
  · rw [write_on hm rfl]
    have ht' : w.heap[gq]? = some (mpObj true (-1) t) := ht
    obtain ⟨c0, c1, c2⟩ := mpcells ht'
    have f := mpsoft ht'
    have HT := Lib.hid ht'
    clear hm ht ht' hp hok
    go_enter Try.func40, Try.ntmps40
    go_wp2
    go_ret2
    refine ⟨rfl, ⟨t, ?_, by simp⟩, ?_⟩
    · rw [mplay1 HT.out]; exact put_same HT.out
    · exact Save.set _ _ _ _
  · rw [write_fall hm rfl]
    have hu : t = u := hp 0 u rfl
    subst hu
    have ht' : w.heap[gq]? = some (mpObj true 0 t) := ht
    obtain ⟨c0, c1, c2⟩ := mpcells ht'
    have f := mpsoft ht'
    have HT := Lib.hid ht'
    clear hm ht ht' hp hok
    go_enter Try.func40, Try.ntmps40
    go_wp2
    go_ret2
    have e1 : w.setCell ⟨gq, 0, none⟩ (.bool false) = put w gq (mpObj false 0 t) := mplay0 HT.out false
    refine ⟨rfl, ⟨t, ?_, by simp⟩, ?_⟩
    · rw [e1, mplay1 (put_same HT.out)]; exact put_same (put_same HT.out)
    · exact (Save.set _ _ _ _).trans (Save.set _ _ _ _)
  · rw [write_less hm rfl]
    have hk := hok.1 (k + 1) u rfl
    have hu : t = u := hp (k + 1) u rfl
    subst hu
    have ht' : w.heap[gq]? = some (mpObj true ((k + 1 : Nat) : Int) t) := ht
    obtain ⟨c0, c1, c2⟩ := mpcells ht'
    have f := mpsoft ht'
    have HT := Lib.hid ht'
    have hw : IntKind.i64.wrap (((k + 1 : Nat) : Int) - 1) = (k : Int) := by rw [IntKind.wrap_i64] <;> omega
    have hz : (((k + 1 : Nat) : Int) == 0) = false := by simp; omega
    have hmx : max (k : Int) (-1) = (k : Int) := by omega
    obtain ⟨K, hK⟩ : ∃ K : Nat, K = k + 1 := ⟨_, rfl⟩
    rw [← hK] at c1 hw hz
    clear hm ht ht' hp hk hok hK
    go_enter Try.func40, Try.ntmps40
    go_wp2
    go_ret2
    refine ⟨rfl, ⟨t, ?_, ?_⟩, ?_⟩
    · have e1 : w.setCell ⟨gq, 1, none⟩ (.int .i64 (k : Int)) = put w gq (mpObj true (k : Int) t) := mplay1 HT.out k
      first
        | (rw [e1]; exact put_same HT.out)
        | (rw [hmx, e1]; exact put_same HT.out)
    · intro j v e
      injection e with e
      injection e with e1 e2
    · exact Save.set _ _ _ _

/-- A piece as it lies in the document's tape. -/
structure MC where
  a : Option Addr
  c : Nat
  l : List Nat

def mcC (p : MC) : List Value := [.slice p.a p.l.length p.c, .bool (p.l.length == 0)]

def cM : List MC → List Value
  | [] => []
  | p :: r => mcC p ++ cM r

theorem cM_append (X Y : List MC) : cM (X ++ Y) = cM X ++ cM Y := by
  induction X with
  | nil => rfl
  | cons p r ih => simp [cM, ih]

theorem cM_length (X : List MC) : (cM X).length = X.length * 2 := by
  induction X with
  | nil => rfl
  | cons p r ih => simp [cM, mcC, ih]; omega

theorem cM_one (X : List MC) : ∀ u ∈ cM X, u.oneCell' = true := by
  induction X with
  | nil => simp [cM]
  | cons p r ih =>
    intro u hu
    simp only [cM, mcC, List.cons_append, List.nil_append, List.mem_cons] at hu
    rcases hu with rfl | rfl | hu
    · rfl
    · rfl
    · exact ih u hu

def MC.none : MC := ⟨.none, 0, []⟩

theorem cM_get (X : List MC) (i : Nat) (h : i < X.length) : (cM X)[i * 2]? = some (.slice (X.getD i MC.none).a (X.getD i MC.none).l.length (X.getD i MC.none).c) ∧ (cM X)[i * 2 + 1]? = some (.bool ((X.getD i MC.none).l.length == 0)) := by
  induction X generalizing i with
  | nil => simp at h
  | cons p r ih =>
    cases i with
    | zero => exact ⟨rfl, rfl⟩
    | succ i =>
      have h' : i < r.length := by simpa using h
      have e1 : (i + 1) * 2 = i * 2 + 2 := by omega
      rw [e1]
      have := ih i h'
      simpa [cM, mcC, List.getD] using this

theorem cM_take (X : List MC) (k : Nat) : (cM X).take (k * 2) = cM (X.take k) := by
  induction X generalizing k with
  | nil => simp [cM]
  | cons p r ih =>
    cases k with
    | zero => simp [cM]
    | succ k =>
      have e1 : (k + 1) * 2 = k * 2 + 2 := by omega
      rw [e1]
      simp [cM, mcC, ih]

def mtObj (room early : Nat) (vW vR v : Value) (pos : Nat) : Obj :=
  .cells #[.int .i64 (room : Int), .int .i64 (early : Int), vW, vR, v, .int .i64 (pos : Int)] 47 (0, 0)

/-- Block gm is the document's tape in state t; all its blocks are in F. -/
structure Mt (w : World) (gm : Nat) (t : Tst) (F : List Nat) (v : Value) (X : List MC) (aW aR : Option Addr) (nW cW nR cR : Nat) : Prop where
  obj : w.heap[gm]? = some (mtObj t.room t.early (.slice aW nW cW) (.slice aR nR cR) v t.pos)
  rw_ : RdI w aW nW t.nw
  rr : RdI w aR nR t.nr
  row : w.ownsRow 0 73 2 v X.length (cM X)
  pcs : ∀ p ∈ X, Rd w p.a p.l.length p.l ∧ p.l.length ≤ p.c ∧ (0 < p.l.length → ∀ b o, p.a = some ⟨b, o, none⟩ → b ∈ F ∧ b ≠ gm)
  lst : X.map MC.l = t.P
  pos_le : t.pos ≤ t.P.length
  fits : usedOf t.P ≤ t.room
  roomle : t.room ≤ 16777216
  ft : gm ∈ F
  fv : ∀ g, v.ownBlock = some g → g ∈ F
  fw : ∀ b o, aW = some ⟨b, o, none⟩ → b ∈ F ∧ b ≠ gm
  fr : ∀ b o, aR = some ⟨b, o, none⟩ → b ∈ F ∧ b ≠ gm
  fl : ∀ k ∈ F, k < w.heap.size

def Mta (w : World) (gm : Nat) (t : Tst) (F : List Nat) : Prop := ∃ v X aW aR nW cW nR cR, Mt w gm t F v X aW aR nW cW nR cR

section
variable {w w' : World} {gm : Nat} {t : Tst} {F : List Nat} {v : Value} {X : List MC} {aW aR : Option Addr} {nW cW nR cR : Nat}

theorem Mt.len (h : Mt w gm t F v X aW aR nW cW nR cR) : X.length = t.P.length := by rw [← h.lst]; simp

theorem Mt.cells (h : Mt w gm t F v X aW aR nW cW nR cR) :
    w.cell? ⟨gm, 0, none⟩ = some (.int .i64 (t.room : Int)) ∧ w.cell? ⟨gm, 2, none⟩ = some (.slice aW nW cW) ∧ w.cell? ⟨gm, 3, none⟩ = some (.slice aR nR cR) ∧ w.cell? ⟨gm, 4, none⟩ = some v ∧ w.cell? ⟨gm, 5, none⟩ = some (.int .i64 (t.pos : Int)) := by
  refine ⟨?_, ?_, ?_, ?_, ?_⟩ <;> rw [cell_of_row w gm _ _ 47 (0, 0) h.obj] <;> rfl

theorem Mt.soft (h : Mt w gm t F v X aW aR nW cW nR cR) (i : Nat) : w.frozen? ⟨gm, i, none⟩ = false := by
  simp [World.frozen?, h.obj, mtObj]

theorem Mt.kept (h : Mt w gm t F v X aW aR nW cW nR cR) (hsz : w.heap.size ≤ w'.heap.size) (hF : ∀ k ∈ F, k < w.heap.size → w'.heap[k]? = w.heap[k]?) : Mt w' gm t F v X aW aR nW cW nR cR := by
  have hI : ∀ a n L, RdI w a n L → (∀ b o, a = some ⟨b, o, none⟩ → b ∈ F ∧ b ≠ gm) → RdI w' a n L := by
    intro a n L h1 h2
    refine ⟨h1.1, h1.2.1, fun hn => ?_⟩
    obtain ⟨b, o, e, hc⟩ := h1.2.2 hn
    refine ⟨b, o, e, fun j hj => ?_⟩
    rw [← hc j hj]
    simp only [World.cell?, hF b (h2 b o e).1 (World.block_lt_of_cell? w _ (hc j hj))]
  refine { h with obj := ?_, rw_ := hI _ _ _ h.rw_ h.fw, rr := hI _ _ _ h.rr h.fr, row := ?_, pcs := ?_, fl := fun k hk => Nat.lt_of_lt_of_le (h.fl k hk) hsz }
  · exact (hF gm h.ft (lt_of_block h.obj)).trans h.obj
  · obtain ⟨h0, h1⟩ := h.row
    refine ⟨h0, h1.imp id ?_⟩
    rintro ⟨g, cap, cur, hv, hb, hg, rest⟩
    exact ⟨g, cap, cur, hv, hb, (hF g (h.fv g (by rw [hv]; rfl)) (lt_of_block hg)).trans hg, rest⟩
  · intro p hp'
    obtain ⟨h1, h2, h3⟩ := h.pcs p hp'
    refine ⟨⟨h1.1, h1.2.1, fun hn => ?_⟩, h2, h3⟩
    obtain ⟨b, o, e, hc⟩ := h1.2.2 hn
    refine ⟨b, o, e, fun j hj => ?_⟩
    rw [← hc j hj]
    simp only [World.cell?, hF b (h3 hn b o e).1 (World.block_lt_of_cell? w _ (hc j hj))]

theorem Mt.save {Y : List Nat} (h : Mt w gm t F v X aW aR nW cW nR cR) (hs : Save Y w w') (hY : ∀ k ∈ F, k ∉ Y) : Mt w' gm t F v X aW aR nW cW nR cR :=
  h.kept hs.size (fun k hk hlt => hs.block k hlt (hY k hk))

theorem Mt.later (h : Mt w gm t F v X aW aR nW cW nR cR) (hb : Below w.heap.size w w') : Mt w' gm t F v X aW aR nW cW nR cR :=
  h.save (Y := []) (Save.of_below hb _) (by simp)

theorem Mta.save {Y : List Nat} (h : Mta w gm t F) (hs : Save Y w w') (hY : ∀ k ∈ F, k ∉ Y) : Mta w' gm t F := by
  obtain ⟨v, X, aW, aR, nW, cW, nR, cR, h⟩ := h
  exact ⟨v, X, aW, aR, nW, cW, nR, cR, h.save hs hY⟩

theorem Mta.later (h : Mta w gm t F) (hb : Below w.heap.size w w') : Mta w' gm t F := h.save (Y := []) (Save.of_below hb _) (by simp)

theorem Mta.fl (h : Mta w gm t F) : ∀ k ∈ F, k < w.heap.size := by
  obtain ⟨v, X, aW, aR, nW, cW, nR, cR, h⟩ := h
  exact h.fl

theorem Mt.pos_small (h : Mt w gm t F v X aW aR nW cW nR cR) : t.P.length ≤ 16777216 := by
  have := usedOf_len t.P
  have := h.fits
  have := h.roomle
  omega

theorem Mt.shape (h : Mt w gm t F v X aW aR nW cW nR cR) :
    ∃ a c, v = .slice a t.P.length c ∧ t.P.length ≤ c ∧ (0 < t.P.length → ∃ g, a = some ⟨g, 0, none⟩) := by
  rcases h.row.2 with ⟨rfl, hl⟩ | ⟨g, cap, cur, rfl, _, hg, hc, hm, hs, ht⟩
  · rw [h.len] at hl
    rw [hl]
    exact ⟨none, 0, rfl, Nat.le_refl _, by omega⟩
  · rw [h.len] at hc ⊢
    exact ⟨_, cap, rfl, hc, fun _ => ⟨g, rfl⟩⟩

/-- A piece's two cells. -/
theorem Mt.piece (h : Mt w gm t F v X aW aR nW cW nR cR) (i : Nat) (hi : i < t.P.length) :
    ∃ g c a m d, v = .slice (some ⟨g, 0, none⟩) t.P.length c ∧ w.cell? ⟨g, i * 2, none⟩ = some (.slice a m d) ∧ w.cell? ⟨g, i * 2 + 1, none⟩ = some (.bool (m == 0)) ∧ Rd w a m (t.P.getD i []) ∧ m ≤ d ∧ (0 < m → ∀ b o, a = some ⟨b, o, none⟩ → b ∈ F ∧ b ≠ gm) := by
  have hX : i < X.length := by rw [h.len]; exact hi
  obtain ⟨e1, e2⟩ := cM_get X i hX
  have hm : X.getD i MC.none ∈ X := by simp [List.getD, hX]
  obtain ⟨h3, h4, h5⟩ := h.pcs _ hm
  have e : t.P.getD i [] = (X.getD i MC.none).l := by
    rw [← h.lst]
    simp [List.getD, hX]
  rcases h.row.2 with ⟨_, hl⟩ | ⟨g, cap, cur, rfl, _, hg, hc, _, hs, ht⟩
  · omega
  · refine ⟨g, cap, _, _, _, by rw [h.len], ?_, ?_, by rw [e]; exact h3, h4, h5⟩
    · rw [cell_of_row w g _ cur 73 (0, 0) hg, ← Array.getElem?_toList, ← e1, ← ht, List.getElem?_take_of_lt (by omega)]
    · rw [cell_of_row w g _ cur 73 (0, 0) hg, ← Array.getElem?_toList, ← e2, ← ht, List.getElem?_take_of_lt (by omega)]

end

theorem min_any (w : World) (a : Option Addr) (n c : Nat) (L : List Int) (z : Int) (h : RdI w a n L) (hn : n ≤ 1000000) :
    Calls Try.prog 41 #[.slice a n c, .int .i64 z] w fun e w' => e = .returned (.bool (decide (z ∈ L))) ∧ w' = w := by
  have HH := Lib.hid h
  clear h
  go_enter Try.func41, Try.ntmps41
  go_wp2
  go_loopg [5] n (fun gk i wr => ∃ j : Nat, gk = n - j ∧ j ≤ n ∧ i = .int .i64 (j : Int) ∧ wr = w ∧ Hid (z ∉ L.take j))
  case atStart => exact ⟨0, rfl, Nat.zero_le _, rfl, rfl, Lib.hid (by simp)⟩
  case round =>
    obtain ⟨j, hgk, hj, rfl, rfl, HI⟩ := hrel
    have HGK := Lib.hid hgk
    clear hgk
    by_cases hlt : j < n
    · obtain ⟨b, o, rfl, hc⟩ := HH.out.2.2 (by omega)
      have hcj := hc j hlt
      have hjl : j < L.length := by rw [HH.out.1]; exact hlt
      obtain ⟨y, hy⟩ : ∃ y, y = L.getD j 0 := ⟨_, rfl⟩
      rw [← hy] at hcj
      have HY := Lib.hid (And.intro hy hjl)
      clear hc hy hjl
      by_cases he : y = z
      · have hb : (y == z) = true := by simp [he]
        have HE := Lib.hid he
        clear he
        go_wp2
        go_ret
        refine ⟨?_, rfl⟩
        have hm : z ∈ L := by
          rw [← HE.out, HY.out.1]
          simp [List.getD, HY.out.2]
        rw [decide_eq_true hm]
        rfl
      · have hb : (y == z) = false := by simp [he]
        have HE := Lib.hid he
        clear he
        go_wp2
        go_roundg (n - (j + 1))
        case measure => have := HGK.out; omega
        case rel =>
          refine ⟨j + 1, rfl, by omega, by go_num, rfl, Lib.hid ?_⟩
          rw [take_snoc L 0 HY.out.2, List.mem_append]
          rintro (h | h)
          · exact HI.out h
          · simp only [List.mem_singleton] at h
            exact HE.out (by rw [HY.out.1, h])
    · have e : j = n := by omega
      subst e
      go_wp2
      go_ret
      refine ⟨?_, rfl⟩
      have hm : z ∉ L := by
        have := HI.out
        rw [List.take_of_length_le (by rw [HH.out.1]; exact Nat.le_refl _)] at this
        exact this
      rw [decide_eq_false hm]
      rfl

theorem mused_any (w : World) (gm : Nat) (t : Tst) (F : List Nat) (h : Mta w gm t F) :
    Calls Try.prog 39 #[.pointer (some ⟨gm, 0, none⟩)] w fun e w' => e = .returned (.int .i64 (t.used : Int)) ∧ w' = w := by
  obtain ⟨v, X, aW, aR, nW, cW, nR, cR, h⟩ := h
  have HH := Lib.hid h
  obtain ⟨c0, _, _, c4, c5⟩ := h.cells
  have hps := h.pos_small
  have hpl := h.pos_le
  obtain ⟨p, hp⟩ : ∃ p, p = t.pos := ⟨_, rfl⟩
  obtain ⟨n, hn⟩ : ∃ n, n = t.P.length := ⟨_, rfl⟩
  have hr := h.roomle
  have hf := h.fits
  rw [← hp] at c5 hpl
  rw [← hn] at hps hpl
  have HN := Lib.hid (And.intro hp (And.intro hn (And.intro hr hf)))
  clear h hp hn hr hf
  go_enter Try.func39, Try.ntmps39
  go_wp2
  go_loopg [3, 4] p (fun gk u i wr => ∃ j : Nat, gk = p - j ∧ j ≤ p ∧ u = .int .i64 ((usedOf (t.P.take j) : Nat) : Int) ∧ i = .int .i64 (j : Int) ∧ wr = w)
  case atStart => exact ⟨0, rfl, Nat.zero_le _, rfl, rfl, rfl⟩
  case round =>
    obtain ⟨j, hgk, hj, rfl, rfl, rfl⟩ := hrel
    have HGK := Lib.hid hgk
    clear hgk
    by_cases hlt : j < p
    · obtain ⟨hp, hn, hr, hf⟩ := HN.out
      obtain ⟨g, c, a, m, d, rfl, k1, k2, k3, _, _⟩ := HH.out.piece j (by omega)
      have hml := k3.1
      have hu1 := usedOf_take_le t.P (j + 1)
      have e1 : usedOf (t.P.take (j + 1)) = usedOf (t.P.take j) + (4 + m) := by rw [take_snoc t.P [] (by omega), usedOf_snoc, hml]
      obtain ⟨U, hU⟩ : ∃ U, U = usedOf (t.P.take j) := ⟨_, rfl⟩
      rw [← hU] at e1 ⊢
      obtain ⟨V, hV⟩ : ∃ V, V = usedOf (t.P.take (j + 1)) := ⟨_, rfl⟩
      rw [← hV] at e1 hu1
      obtain ⟨U4, hU4⟩ : ∃ U4, U4 = U + 4 := ⟨_, rfl⟩
      have hw1 : IntKind.i64.wrap ((U : Int) + 4) = (U4 : Int) := by rw [IntKind.wrap_i64] <;> omega
      have hw2 : IntKind.i64.wrap ((U4 : Int) + (m : Int)) = (V : Int) := by rw [IntKind.wrap_i64] <;> omega
      have HV := Lib.hid hV
      rw [← hn] at c4
      have hjn : j < n := by omega
      clear hu1 e1 hU hV hU4 hp hn hr hf k2 k3 hml
      go_wp2
      go_roundg (p - (j + 1))
      case measure => have := HGK.out; omega
      case rel => exact ⟨j + 1, rfl, by omega, by rw [← HV.out], by go_num, rfl⟩
    · have e : j = p := by omega
      subst e
      go_wp2
      go_ret
      refine ⟨?_, rfl⟩
      unfold Tst.used
      rw [← HN.out.1]
      rfl

end Go.Proofs.Ytcofjhiienifmaa
