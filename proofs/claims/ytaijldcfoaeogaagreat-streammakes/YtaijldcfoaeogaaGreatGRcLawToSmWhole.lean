/- The statements' own Plain, over any world. -/
import Derived.Test.YtaijldcfoaeogaaGreatGMemToRcEq
import Derived.Handy
import Derived.Test.YtaijldcfoaeogaaGreatGRcRowToRcLives
import Derived.Test.YtaijldcfoaeogaaGreatGRcParseToSmAdd
import Derived.Test.YtaijldcfoaeogaaGreatGRcParseDToRcInv
import Derived.Test.YtaijldcfoaeogaaGreatWMath
namespace Go.Proofs.YtaijldcfoaeogaaGreat
open Go.RowKit
set_option maxRecDepth 100000
set_option linter.unusedSimpArgs false

set_option maxHeartbeats 1000000 in
set_option maxRecDepth 100000 in
theorem lawPlain_any (x : Rec) (a : Option Addr) (n cap : Nat) (w : World) (h : Rd w a n x.l) :
    Calls Tryz.prog 15 #[rcV x a n cap] w fun e w' => e = .returned (pcV x) ∧ Below w.heap.size w w' := by
  obtain ⟨k, i, b, f, t, l, c, dn, ds⟩ := x
  simp only at h
  have hcv : ∀ o1 o2, (convert 31 9 (.slice a n cap)).run Tryz.prog ((w.alloc o1).alloc o2) = .ok (.string (strB l)) ((w.alloc o1).alloc o2) :=
    fun o1 o2 => conv_rd ((h.later (Below.alloc0 _ _)).later (Below.alloc0 _ _)) cap
  clear h
  simp only [rcV, pcV]
  go_enter Tryz.func15, Tryz.ntmps15
  go_wp2
  go_returns
  exact ⟨rfl, ((Below.refl _ _).alloc (Nat.le_refl _) _).alloc (by simp) _⟩

end Go.Proofs.YtaijldcfoaeogaaGreat

/- RecordSame, run: two records compared, over any world. -/
namespace Go.Proofs.YtaijldcfoaeogaaGreat
open Go.RowKit
set_option maxRecDepth 100000
set_option linter.unusedSimpArgs false

end Go.Proofs.YtaijldcfoaeogaaGreat

/- A stream's records, read one behind another: the contract of read, over any world. -/
namespace Go.Proofs.YtaijldcfoaeogaaGreat
open Go.RowKit
set_option maxRecDepth 100000
set_option linter.unusedSimpArgs false

/-- What read keeps: the records so far, in a row of their own; what is ahead of the Tail. -/
structure Rst (w : World) (gs : Nat) (v : Value) (r : Option Nat) (P : List Nat) (c : Nat) (L : List RcC) : Prop where
  own : OwnC w (gs + 1) v L
  each : EachC w L
  ahd : Ahd w gs (gs + 1) r P c
  apart : ∀ k, v.ownBlock = some k → r ≠ some k
  far : ∀ e ∈ L, ∀ b o, e.a = some ⟨b, o, none⟩ → 0 < e.m → gs < b ∧ r ≠ some b ∧ v.ownBlock ≠ some b

theorem Rst.row_lt {w : World} {gs : Nat} {v : Value} {r : Option Nat} {P : List Nat} {c : Nat} {L : List RcC} (h : Rst w gs v r P c L) {k : Nat} (hk : v.ownBlock = some k) : gs < k ∧ k < w.heap.size := by
  obtain ⟨e1, cs, e2⟩ := owns_block h.own hk
  exact ⟨e1, lt_of_block e2⟩

theorem Rst.keep {w w' : World} {gs : Nat} {v : Value} {r : Option Nat} {P : List Nat} {c : Nat} {L : List RcC} (h : Rst w gs v r P c L) (hk : ∀ k, gs ≤ k → k < w.heap.size → w'.heap[k]? = w.heap[k]?) : Rst w' gs v r P c L := by
  refine ⟨owns_same h.own fun k e => hk k (Nat.le_of_lt (h.row_lt e).1) (h.row_lt e).2, fun e he => (h.each e he).blk fun b o e1 e2 => ?_, h.ahd.same (hk gs (Nat.le_refl _) h.ahd.g_lt) fun k e => hk k (by have := (h.ahd.row_lt e).1; omega) (h.ahd.row_lt e).2, h.apart, h.far⟩
  have h1 := h.each e he
  rw [e1] at h1
  exact hk b (Nat.le_of_lt (h.far e he b o e1 e2).1) (h1.in_ e2)

theorem Rst.add {w w' : World} {gs : Nat} {v : Value} {r r' : Option Nat} {P P' : List Nat} {c c' : Nat} {L : List RcC} (h : Rst w gs v r P c L) (ha : Ahd w' gs (gs + 1) r' P' c') (hs : Save (gs :: r.toList) w w') (hr : ∀ k, r' = some k → r = some k ∨ w.heap.size ≤ k) : Rst w' gs v r' P' c' L := by
  refine ⟨owns_same h.own fun k e => hs.block k (h.row_lt e).2 ?_, fun e he => (h.each e he).blk fun b o e1 e2 => ?_, ha, fun k e hk => ?_, fun e he b o e1 e2 => ?_⟩
  · have := h.apart k e
    have := (h.row_lt e).1
    simp only [List.mem_cons, Option.mem_toList, not_or]
    exact ⟨by omega, h.apart k e⟩
  · have h1 := h.each e he
    rw [e1] at h1
    refine hs.block b (h1.in_ e2) ?_
    simp only [List.mem_cons, Option.mem_toList, not_or]
    exact ⟨by have := (h.far e he b o e1 e2).1; omega, (h.far e he b o e1 e2).2.1⟩
  · rcases hr k hk with h1 | h1
    · exact h.apart k e h1
    · have := (h.row_lt e).2; omega
  · obtain ⟨f1, f2, f3⟩ := h.far e he b o e1 e2
    refine ⟨f1, fun hb => ?_, f3⟩
    rcases hr b hb with h1 | h1
    · exact f2 h1
    · have h2 := h.each e he
      rw [e1] at h2
      have := h2.in_ e2
      omega

theorem Rst.push {w w' : World} {gs : Nat} {v v' : Value} {r : Option Nat} {P : List Nat} {c : Nat} {L : List RcC} {e : RcC} (h : Rst w gs v r P c L) (ho : OwnC w' (gs + 1) v' (L ++ [e])) (hg : w.grownBy w' v.ownBlock) (hat : v'.ownBlock = v.ownBlock ∨ v'.ownBlock = some w.heap.size) (hrd : Rd w e.a e.m e.x.l)
    (hfar : ∀ b o, e.a = some ⟨b, o, none⟩ → 0 < e.m → gs < b ∧ r ≠ some b ∧ v.ownBlock ≠ some b) : Rst w' gs v' r P c (L ++ [e]) := by
  have hne : ∀ k, k < w.heap.size → v.ownBlock ≠ some k → w'.heap[k]? = w.heap[k]? := fun k hk hn => hg.block k hk fun e => hn e.symm
  have hall : ∀ q ∈ L ++ [e], Rd w q.a q.m q.x.l ∧ ∀ b o, q.a = some ⟨b, o, none⟩ → 0 < q.m → gs < b ∧ r ≠ some b ∧ v.ownBlock ≠ some b := by
    intro q hq
    simp only [List.mem_append, List.mem_singleton] at hq
    rcases hq with hq | rfl
    · exact ⟨h.each q hq, h.far q hq⟩
    · exact ⟨hrd, hfar⟩
  have hin : ∀ q ∈ L ++ [e], ∀ b o, q.a = some ⟨b, o, none⟩ → 0 < q.m → b < w.heap.size := fun q hq b o e1 e2 => by
    have h1 := (hall q hq).1
    rw [e1] at h1
    exact h1.in_ e2
  refine ⟨ho, fun q hq => (hall q hq).1.blk fun b o e1 e2 => hne b (hin q hq b o e1 e2) ((hall q hq).2 b o e1 e2).2.2, ?_, fun k e1 e2 => ?_, fun q hq b o e1 e2 => ⟨((hall q hq).2 b o e1 e2).1, ((hall q hq).2 b o e1 e2).2.1, fun e3 => ?_⟩⟩
  · refine h.ahd.same (hne gs h.ahd.g_lt fun e1 => ?_) fun k e1 => hne k (h.ahd.row_lt e1).2 fun e2 => h.apart k e2 e1
    have := (h.row_lt e1).1
    omega
  · rcases hat with h1 | h1
    · exact h.apart k (h1 ▸ e1) e2
    · rw [h1] at e1
      injection e1 with e1
      have := (h.ahd.row_lt e2).2
      omega
  · rcases hat with h1 | h1
    · exact ((hall q hq).2 b o e1 e2).2.2 (h1 ▸ e3)
    · rw [h1] at e3
      injection e3 with e3
      have := hin q hq b o e1 e2
      omega

/-- A Tail compared with that of what is ahead. -/
theorem tail_eq {x : Rec} (hx : x.ok = true) (hk : x.k = 4) (c n s : Nat) : x.eq ⟨4, 0, 0, 0, 0, [], (c : Int), n, s⟩ = true ↔ x.c = (c : Int) ∧ x.n = n ∧ x.s = s := by
  rcases Rec.ok_cases hx with ⟨i, b, h1, h2, rfl⟩ | ⟨f, t, l, h1, h2, h3, h4, rfl⟩ | ⟨f, t, h1, h2, rfl⟩ | ⟨c', n', s', h1, h2, h3, rfl⟩
  · simp at hk
  · simp at hk
  · simp at hk
  · simp [Rec.eq]

end Go.Proofs.YtaijldcfoaeogaaGreat

/- A stream's records, read one behind another: the contract of read, over any world. -/
namespace Go.Proofs.YtaijldcfoaeogaaGreat
open Go.RowKit
set_option maxRecDepth 100000
set_option linter.unusedSimpArgs false

set_option maxHeartbeats 8000000 in
set_option maxRecDepth 100000 in
theorem sread_any (w : World) (g : Nat) (b : List Nat) (hby : ∀ z ∈ b, z < 256) (h : Rdr w 128 g 0 b) (hl : b.length ≤ 1000000) :
    Calls Tryz.prog 31 #[.pointer (some ⟨g, 0, none⟩)] w fun e w' => ∃ v, e = .returned (.tuple #[v, .int .i64 ((whl b (b.length + 1) b []).2 : Int)]) ∧ Hid (Save [g] w w') ∧
      Hid ((whl b (b.length + 1) b []).2 = 0 → ∃ L : List RcC, OwnC w' (w.heap.size + 1) v L ∧ EachC w' L ∧ L.map RcC.x = (whl b (b.length + 1) b []).1 ∧ ∀ e ∈ L, ∀ b o, e.a = some ⟨b, o, none⟩ → 0 < e.m → w.heap.size < b) := by
  obtain ⟨gs, hgs⟩ : ∃ gs, gs = w.heap.size := ⟨_, rfl⟩
  obtain ⟨w0, hw0⟩ : ∃ w0, w0 = w.alloc (.cells #[.slice none 0 0, .int .i64 0] 68) := ⟨_, rfl⟩
  have HW : Hid (w.alloc (.cells #[.slice none 0 0, .int .i64 0] 68) = w0 ∧ w.heap.size = gs) := Lib.hid ⟨hw0.symm, hgs.symm⟩
  have hb0 : Below gs w w0 := by rw [hw0, hgs]; exact Below.alloc0 _ _
  have hR := h.hi
  rw [← hgs] at hR
  have HR0 : Hid (RdrHi w0 128 g 0 b gs) := Lib.hid (hR.below hb0)
  have hx0 : w0.heap[gs]? = some (.cells #[.slice none 0 0, .int .i64 0] 68 (0, 0)) := by rw [hw0, hgs]; exact heap_alloc_new w _
  have HS0 : Hid (Rst w0 gs (.slice none 0 0) none [] 0 []) := Lib.hid ⟨OwnC.nil _ _, (fun _ h => by cases h), ⟨⟨.slice none 0 0, hx0, rfl, Own.nil _ _⟩, Nat.lt_succ_self _⟩, (fun _ h => by cases h), (fun _ h => by cases h)⟩
  have HZ0 : Hid (gs < w0.heap.size) := Lib.hid (lt_of_block hx0)
  have HSV0 : Hid (Save [g] w w0) := Lib.hid (Save.of_below (hb0.mono (by omega)) _)
  have HG : Hid (g < gs) := by obtain ⟨_, _, _, hg, _⟩ := h; exact Lib.hid (by rw [hgs]; exact lt_of_block hg)
  obtain ⟨X, hX⟩ : ∃ X, X = whl b (b.length + 1) b [] := ⟨_, rfl⟩
  rw [← hX, ← hgs]
  have HX := Lib.hid hX
  have HBY := Lib.hid hby
  have HL := Lib.hid hl
  clear hgs hw0 hb0 hR hx0 hX hby hl h
  go_enter Tryz.func31, Tryz.ntmps31
  go_wp2_with fail
  try change Code.wp _ _ _ _ (w.alloc (.cells #[.slice none 0 0, .int .i64 0] 68))
  rw [HW.out.1]
  try rw [HW.out.2]
  go_loopg [4] (b.length + 1) (fun k s4 wr => ∃ (k0 : Nat) (v : Value) (r : Option Nat) (P l' : List Nat) (L : List RcC), k = k0 + 1 ∧ v = s4 ∧ Hid (b = P ++ l' ∧ l'.length ≤ k0 ∧ whl b (k0 + 1) l' (L.map RcC.x) = X) ∧ Hid (RdrHi wr 128 g 0 l' gs) ∧ Hid (Rst wr gs v r P L.length L ∧ L.length ≤ P.length) ∧ Hid (Save [g] w wr) ∧ Hid (gs < wr.heap.size))
  case atStart => exact ⟨_, _, none, [], b, [], rfl, rfl, Lib.hid ⟨rfl, Nat.le_refl _, HX.out.symm⟩, HR0, Lib.hid ⟨HS0.out, Nat.le_refl _⟩, HSV0, HZ0⟩
  case round =>
    obtain ⟨k0, v, r, P, l', L, rfl, rfl, HI, HRD, HST, HSV, HGS⟩ := hrel
    have hrr := rreadHi_any wr g 0 l' gs HRD.out (Nat.le_of_lt HGS.out)
    have hinv := rdRec_inv (l := l') (fun z hz => HBY.out z (by rw [HI.out.1]; simp [hz]))
    have hwl := HI.out.2.2
    simp only [whl] at hwl
    have he1 : (rdRec 0 l').2 = 0 → (rByt 0 l' 200).2.1 = 0 := fun h => by
      by_cases h1 : (rByt 0 l' 200).2.1 = 0
      · exact h1
      · unfold rdRec at h
        rw [if_pos h1] at h
        exact absurd h h1
    obtain ⟨Y, hY⟩ : ∃ Y, Y = rdRec 0 l' := ⟨_, rfl⟩
    obtain ⟨E1, hE1⟩ : ∃ E1, E1 = (rByt 0 l' 200).2.1 := ⟨_, rfl⟩
    obtain ⟨l2, hl2⟩ : ∃ l2, l2 = (rByt 0 l' 200).2.2 := ⟨_, rfl⟩
    rw [← hY, ← hE1, ← hl2] at hrr
    rw [← hY, ← hl2] at hinv hwl
    rw [← hY, ← hE1] at he1
    obtain ⟨⟨k, i, bb, f, t, lb, c, dn, ds⟩, E⟩ := Y
    simp only [rcV] at hrr hinv hwl he1
    have HE1 := Lib.hid he1
    have HRR := Lib.hid hrr
    have HIN := Lib.hid hinv
    have HWL := Lib.hid hwl
    clear hrr hinv hwl hY hE1 hl2 he1
    go_wp2_with fail
    refine HRR.out.mono ?_
    rintro e w1 ⟨a2, n2, c2, rfl, HX1⟩
    obtain ⟨q, hq⟩ : ∃ q, q = w1.heap.size := ⟨_, rfl⟩
    obtain ⟨w2, hw2⟩ : ∃ w2, w2 = w1.alloc (.cells #[.int .u8 (k : Int), .int .i64 i, .int .i64 bb, .int .i64 f, .int .i64 t, .slice a2 n2 c2, .int .i64 c, .int .u64 (dn : Int), .int .u64 (ds : Int)] 57) := ⟨_, rfl⟩
    have HW2 : Hid (w1.alloc (.cells #[.int .u8 (k : Int), .int .i64 i, .int .i64 bb, .int .i64 f, .int .i64 t, .slice a2 n2 c2, .int .i64 c, .int .u64 (dn : Int), .int .u64 (ds : Int)] 57) = w2 ∧ w1.heap.size = q) := Lib.hid ⟨hw2.symm, hq.symm⟩
    have HB2 : Hid (Below w1.heap.size w1 w2) := Lib.hid (by rw [hw2]; exact Below.alloc0 _ _)
    have HQ2 : Hid (w2.heap[q]? = some (.cells #[.int .u8 (k : Int), .int .i64 i, .int .i64 bb, .int .i64 f, .int .i64 t, .slice a2 n2 c2, .int .i64 c, .int .u64 (dn : Int), .int .u64 (ds : Int)] 57 (0, 0))) := Lib.hid (by rw [hw2, hq]; exact heap_alloc_new w1 _)
    clear hq hw2
    go_upto_region 4 with fail
    change Code.wp _ _ _ _ (w1.alloc (.cells #[.int .u8 (k : Int), .int .i64 i, .int .i64 bb, .int .i64 f, .int .i64 t, .slice a2 n2 c2, .int .i64 c, .int .u64 (dn : Int), .int .u64 (ds : Int)] 57))
    rw [HW2.out.1]
    try rw [HW2.out.2]
    have HST1 : Hid (Rst w1 gs v r P L.length L) := Lib.hid (HST.out.1.keep fun z h1 h2 => HX1.out.1.block z h2 (by have := HG.out; simp; omega))
    have HST2 : Hid (Rst w2 gs v r P L.length L) := Lib.hid (HST1.out.keep fun z h1 h2 => HB2.out.block z h2)
    have HSV2 : Hid (Save [g] w w2) := Lib.hid ((HSV.out.trans HX1.out.1).trans (Save.of_below HB2.out _))
    have HGS2 : Hid (gs < w2.heap.size ∧ gs < w1.heap.size) := Lib.hid ⟨Nat.lt_of_lt_of_le HGS.out (Nat.le_trans HX1.out.1.size HB2.out.size), Nat.lt_of_lt_of_le HGS.out HX1.out.1.size⟩
    have HRD2 : Hid (RdrHi w2 128 g E1 l2 gs) := Lib.hid (HX1.out.2.1.below (HB2.out.mono (Nat.le_of_lt HGS2.out.2)))
    by_cases hE : E = 0
    · subst hE
      obtain ⟨hok, hl'⟩ := HIN.out rfl
      have hwl := HWL.out
      rw [if_neg (by simp)] at hwl
      have HOK : Hid (Rec.ok ⟨k, i, bb, f, t, lb, c, dn, ds⟩ = true) := Lib.hid hok
      have HL2 := Lib.hid hl'
      clear hok hl' HIN HWL
      have e10 := HE1.out rfl
      subst e10
      clear HE1
      obtain ⟨q0, q1, q2, q3, q4, q5, q6, q7, q8⟩ := rec_cells HQ2.out
      obtain ⟨u0, hu0, _⟩ := HST2.out.ahd.ex
      have d1 : w2.cell? ⟨gs, 1, none⟩ = some (.int .i64 (L.length : Int)) := by simp [World.cell?, hu0]
      obtain ⟨B1, hkind⟩ : ∃ B, ((k : Int) == 1) = B := ⟨_, rfl⟩
      obtain ⟨B2, hcount⟩ : ∃ B, ((L.length : Int) == 0) = B := ⟨_, rfl⟩
      have HK1 : Hid (B1 = true ↔ k = 1) := Lib.hid (by rw [← hkind]; simp; omega)
      have HC1 : Hid (B2 = true ↔ L.map RcC.x = []) := Lib.hid (by rw [← hcount]; simp)
      have HWL := Lib.hid hwl
      clear hwl hu0
      by_cases hB : B1 = B2
      · subst hB
        have hwl := HWL.out
        rw [if_neg (by have := HK1.out; have := HC1.out; cases B1 <;> simp_all)] at hwl
        have HWL := Lib.hid hwl
        clear hwl
        by_cases hk4 : k = 4
        · have hk4' : ((k : Int) == 4) = true := by simp; omega
          have hwl := HWL.out
          rw [if_neg (by simp [hk4])] at hwl
          have hbl := HI.out.1
          have hPl : P.length ≤ 1000000 := by have h1 := HL.out; rw [hbl] at h1; simp at h1; omega
          have e1 : b.length - l'.length = P.length := by rw [hbl]; simp
          rw [e1] at hwl
          have e2 : b.take P.length = P := by rw [hbl]; simp
          rw [e2, List.length_map] at hwl
          have HWL := Lib.hid hwl
          have HTE := Lib.hid (tail_eq HOK.out hk4 L.length P.length (dSum P))
          have HK : Hid (∀ W, Below w2.heap.size w2 W → W.cell? ⟨q, 0, none⟩ = some (.int .u8 (k : Int)) ∧ W.cell? ⟨q, 1, none⟩ = some (.int .i64 i) ∧ W.cell? ⟨q, 2, none⟩ = some (.int .i64 bb) ∧ W.cell? ⟨q, 3, none⟩ = some (.int .i64 f) ∧ W.cell? ⟨q, 4, none⟩ = some (.int .i64 t) ∧ W.cell? ⟨q, 5, none⟩ = some (.slice a2 n2 c2) ∧ W.cell? ⟨q, 6, none⟩ = some (.int .i64 c) ∧ W.cell? ⟨q, 7, none⟩ = some (.int .u64 (dn : Int)) ∧ W.cell? ⟨q, 8, none⟩ = some (.int .u64 (ds : Int))) := Lib.hid fun W hW => rec_cells ((hW.block q (lt_of_block HQ2.out)).trans HQ2.out)
          have HTL : Hid (∀ W, Below w2.heap.size w2 W → Calls Tryz.prog 24 #[.pointer (some ⟨gs, 0, none⟩)] W fun e w' => e = .returned (.agg #[.int .u8 4, .int .i64 0, .int .i64 0, .int .i64 0, .int .i64 0, .slice none 0 0, .int .i64 (L.length : Int), .int .u64 (P.length : Int), .int .u64 ((dSum P : Nat) : Int)]) ∧ Hid (Below w2.heap.size w2 w')) := Lib.hid fun W hW => (tail_any W gs (gs + 1) r P L.length (HST2.out.ahd.later hW) (by omega)).mono fun e w' ⟨h1, h2⟩ => ⟨h1, Lib.hid (hW.trans (h2.mono hW.size))⟩
          obtain ⟨B3, hB3⟩ : ∃ B3, B3 = Rec.eq ⟨k, i, bb, f, t, lb, c, dn, ds⟩ ⟨4, 0, 0, 0, 0, [], (L.length : Int), P.length, dSum P⟩ := ⟨_, rfl⟩
          rw [← hB3] at HTE
          have HSM : Hid (∀ W, Below w2.heap.size w2 W → Calls Tryz.prog 53 #[.agg #[.int .u8 (k : Int), .int .i64 i, .int .i64 bb, .int .i64 f, .int .i64 t, .slice a2 n2 c2, .int .i64 c, .int .u64 (dn : Int), .int .u64 (ds : Int)], .agg #[.int .u8 4, .int .i64 0, .int .i64 0, .int .i64 0, .int .i64 0, .slice none 0 0, .int .i64 (L.length : Int), .int .u64 (P.length : Int), .int .u64 ((dSum P : Nat) : Int)]] W fun e w' => e = .returned (.bool B3) ∧ Hid (Below w2.heap.size w2 w')) := Lib.hid fun W hW => (rcSame_any ⟨k, i, bb, f, t, lb, c, dn, ds⟩ ⟨4, 0, 0, 0, 0, [], (L.length : Int), P.length, dSum P⟩ a2 none n2 c2 0 0 W ((HX1.out.2.2.1.later HB2.out).later hW) ⟨rfl, by simp, by omega⟩).mono fun e w' ⟨h1, h2⟩ => ⟨by rw [h1, hB3], Lib.hid (hW.trans (h2.mono hW.size))⟩
          obtain ⟨pl, hpl⟩ : ∃ pl, pl = P.length := ⟨_, rfl⟩
          obtain ⟨pd, hpd⟩ : ∃ pd, pd = dSum P := ⟨_, rfl⟩
          rw [← hpl, ← hpd] at HTL HSM
          clear hwl hbl hPl e1 e2 hB3 hpl hpd
          have hb1 : B1 = false := by rw [← hkind, hk4]; rfl
          subst hb1
          go_upto_region 9 with fail
          have H : Hid (Below w2.heap.size w2 w2.drew) := Lib.hid (Below.refl _ _).drew
          clear q0 q1 q2 q3 q4 q5 q6 q7 q8 d1
          refine wp_region_held_drew (S := fun W => W.cell? ⟨q, 0, none⟩ = some (.int .u8 (k : Int)) ∧ W.cell? ⟨q, 1, none⟩ = some (.int .i64 i) ∧ W.cell? ⟨q, 2, none⟩ = some (.int .i64 bb) ∧ W.cell? ⟨q, 3, none⟩ = some (.int .i64 f) ∧ W.cell? ⟨q, 4, none⟩ = some (.int .i64 t) ∧ W.cell? ⟨q, 5, none⟩ = some (.slice a2 n2 c2) ∧ W.cell? ⟨q, 6, none⟩ = some (.int .i64 c) ∧ W.cell? ⟨q, 7, none⟩ = some (.int .u64 (dn : Int)) ∧ W.cell? ⟨q, 8, none⟩ = some (.int .u64 (ds : Int))) (by kernel_rfl) (HK.out _ H.out) (fun _ => ?_)
          refine wpAnyH_take (i := 0) (v := ?va0) rfl (by kernel_rfl) (by kernel_rfl) (by kernel_rfl) (fun _ _ _ h => h) (Or.inl ⟨by rfl, ?ha0⟩) (HK.out _ H.out) ?ra0
          case ha0 => (intro W hW; (try dsimp only at hW); go_simp; try with_reducible rfl)
          simp only [Act.put, List.getElem_toArray, List.getElem_cons_succ, List.getElem_cons_zero, List.setIfInBounds_toArray, List.set_cons_zero, List.set_cons_succ]
          refine wpAnyH_ready (rs := [1]) (by kernel_rfl) (by simp) ?_
          refine AllReadyH.cons rfl (fun K hK => ?_) AllReadyH.nil
          refine ready_call (f := 24) (vs := #[.pointer (some ⟨gs, 0, none⟩)]) (by rfl) (by (go_simp; try with_reducible rfl)) ?_
          refine (HTL.out _ H.out).mono ?_
          rintro e w3 ⟨rfl, H3⟩
          refine ⟨_, rfl, hK.out _ _ (HK.out _ H3.out) (fun _ => ?_)⟩
          clear hK K
          simp only [Act.put, List.getElem_toArray, List.getElem_cons_succ, List.getElem_cons_zero, List.setIfInBounds_toArray, List.set_cons_zero, List.set_cons_succ]
          refine wpAnyH_ready (rs := [2]) (by kernel_rfl) (by simp) ?_
          refine AllReadyH.cons rfl (fun K hK => ?_) AllReadyH.nil
          refine ready_call (f := 53) (vs := #[.agg #[.int .u8 (k : Int), .int .i64 i, .int .i64 bb, .int .i64 f, .int .i64 t, .slice a2 n2 c2, .int .i64 c, .int .u64 (dn : Int), .int .u64 (ds : Int)], .agg #[.int .u8 4, .int .i64 0, .int .i64 0, .int .i64 0, .int .i64 0, .slice none 0 0, .int .i64 (L.length : Int), .int .u64 (pl : Int), .int .u64 ((pd : Nat) : Int)]]) (by rfl) (by (go_simp; try with_reducible rfl)) ?_
          refine (HSM.out _ H3.out).mono ?_
          rintro e w4 ⟨rfl, H4⟩
          refine ⟨_, rfl, hK.out _ _ (HK.out _ H4.out) (fun _ => ?_)⟩
          clear hK K
          simp only [Act.put, List.getElem_toArray, List.getElem_cons_succ, List.getElem_cons_zero, List.setIfInBounds_toArray, List.set_cons_zero, List.set_cons_succ]
          refine wpAnyH_take (i := 3) (v := ?va3) rfl (by kernel_rfl) (by kernel_rfl) (by kernel_rfl) (fun _ _ _ h => h) (Or.inl ⟨by rfl, ?ha3⟩) (HK.out _ H4.out) ?ra3
          case ha3 => (intro W hW; (try dsimp only at hW); go_simp; try with_reducible rfl)
          simp only [Act.put, List.getElem_toArray, List.getElem_cons_succ, List.getElem_cons_zero, List.setIfInBounds_toArray, List.set_cons_zero, List.set_cons_succ]
          refine wpAnyH_done (by kernel_rfl) ?_ _
          have HSV4 : Hid (Save [g] w w4) := Lib.hid (HSV2.out.trans (Save.of_below H4.out _))
          have HST4 : Hid (Rst w4 gs v r P L.length L) := Lib.hid (HST2.out.keep fun z h1 h2 => H4.out.block z h2)
          cases B3
          · have hne := mt HTE.out.2 (by simp)
            have hwl := HWL.out
            rw [if_pos (by
              rcases Decidable.em (c = (L.length : Int)) with h1 | h1
              · rcases Decidable.em (dn = P.length) with h2 | h2
                · exact .inr (.inr fun h3 => hne ⟨h1, h2, h3⟩)
                · exact .inr (.inl h2)
              · exact .inl h1)] at hwl
            have HWL := Lib.hid hwl
            clear hwl hne
            go_wp2
            go_ret2
            have e := HWL.out
            subst e
            exact ⟨_, rfl, HSV4, Lib.hid fun h => by simp at h⟩
          · have heq := HTE.out.1 rfl
            have hwl := HWL.out
            rw [if_neg (by
              rintro (h1 | h1 | h1)
              · exact h1 heq.1
              · exact h1 heq.2.1
              · exact h1 heq.2.2)] at hwl
            have HWL := Lib.hid hwl
            clear hwl heq
            have hen := end_any w4 g 0 l2 (HRD2.out.below (H4.out.mono (Nat.le_of_lt HGS2.out.1))).rdr
            have HEN := Lib.hid hen
            clear hen
            go_wp2_with fail
            refine HEN.out.mono ?_
            rintro e w5 ⟨rfl, hw5⟩
            subst hw5
            by_cases hl2 : l2 = []
            · have hwl := HWL.out
              rw [if_neg (by simp [hl2])] at hwl
              have HWL := Lib.hid hwl
              have hre : rEnd 0 l2 = 0 := by simp [rEnd, hl2]
              rw [hre]
              clear hwl
              go_wp2
              go_ret2
              have e := HWL.out
              subst e
              exact ⟨_, rfl, HSV4, Lib.hid fun _ => ⟨L, HST4.out.own, HST4.out.each, rfl, fun e he b1 o1 h1 h2 => (HST4.out.far e he b1 o1 h1 h2).1⟩⟩
            · have hwl := HWL.out
              rw [if_pos hl2] at hwl
              have HWL := Lib.hid hwl
              have hre : rEnd 0 l2 = 5 := by simp [rEnd, hl2]
              rw [hre]
              clear hwl
              go_wp2
              go_ret2
              have e := HWL.out
              subst e
              exact ⟨_, rfl, HSV4, Lib.hid fun h => by simp at h⟩
        · have hk4' : ((k : Int) == 4) = false := by simp; omega
          have hwl := HWL.out
          rw [if_pos hk4] at hwl
          have HWL := Lib.hid hwl
          clear hwl
          have hbl := HI.out.1
          rw [HL2.out] at hbl
          have hby := bytes_len HOK.out
          have hPl : P.length ≤ 1000000 := by have h1 := HL.out; rw [hbl] at h1; simp at h1; omega
          have HLl : Hid (l'.length = (Rec.bytes ⟨k, i, bb, f, t, lb, c, dn, ds⟩).length + l2.length) := Lib.hid (by rw [HL2.out]; simp)
          have HBL := Lib.hid hby
          have HPL := Lib.hid hPl
          have hrd2 : Rd w2 a2 n2 lb := HX1.out.2.2.1.later HB2.out
          have hadd := add_any ⟨k, i, bb, f, t, lb, c, dn, ds⟩ a2 n2 c2 w2 gs (gs + 1) r P L.length HST2.out.ahd HOK.out hrd2 hPl (Nat.le_trans HST.out.2 hPl) HGS2.out.1
          simp only [rcV] at hadd
          have HADD := Lib.hid hadd
          have HRD0 := Lib.hid hrd2
          clear hadd hrd2 hPl hby hbl
          go_wp2_with fail
          refine HADD.out.mono ?_
          rintro e w3 ⟨rfl, r', HA3, HS3, HR3⟩
          have hq3 : w3.heap[q]? = some (.cells #[.int .u8 (k : Int), .int .i64 i, .int .i64 bb, .int .i64 f, .int .i64 t, .slice a2 n2 c2, .int .i64 c, .int .u64 (dn : Int), .int .u64 (ds : Int)] 57 (0, 0)) := (HS3.out.block q (lt_of_block HQ2.out) (by
            have h1 := HW2.out.2
            have h2 := HGS2.out.2
            simp only [List.mem_cons, Option.mem_toList, not_or]
            exact ⟨by omega, fun e => by have := (HST1.out.ahd.row_lt e).2; omega⟩)).trans HQ2.out
          have HQ3 := Lib.hid hq3
          clear q0 q1 q2 q3 q4 q5 q6 q7 q8 d1
          obtain ⟨q0, q1, q2, q3, q4, q5, q6, q7, q8⟩ := rec_cells hq3
          have HST3 := Lib.hid (HST2.out.add HA3.out HS3.out HR3.out)
          have HST4 : Hid (Rst (w3.alloc (.cells #[.int .u8 (k : Int), .int .i64 i, .int .i64 bb, .int .i64 f, .int .i64 t, .slice a2 n2 c2, .int .i64 c, .int .u64 (dn : Int), .int .u64 (ds : Int)] 57)) gs v r' (P ++ Rec.bytes ⟨k, i, bb, f, t, lb, c, dn, ds⟩) (L.length + 1) L) := Lib.hid (HST3.out.keep fun z h1 h2 => heap_alloc_old _ _ h2)
          have HRD4 : Hid (Rd (w3.alloc (.cells #[.int .u8 (k : Int), .int .i64 i, .int .i64 bb, .int .i64 f, .int .i64 t, .slice a2 n2 c2, .int .i64 c, .int .u64 (dn : Int), .int .u64 (ds : Int)] 57)) a2 n2 lb) := Lib.hid ((HRD0.out.blk (w' := w3) (by
            intro b1 o1 e1 e2
            have h1 := HX1.out.2.2.2.1 b1 o1 e1 e2
            have h0 := HRD0.out
            rw [e1] at h0
            refine HS3.out.block b1 (h0.in_ e2) ?_
            simp only [List.mem_cons, Option.mem_toList, not_or]
            exact ⟨by have := HGS.out; omega, fun e => by have := (HST.out.1.ahd.row_lt e).2; omega⟩)).later (Below.alloc0 _ _))
          have HC4 : Hid (∀ z u, (rcL ⟨⟨k, i, bb, f, t, lb, c, dn, ds⟩, a2, n2, c2, HX1.out.2.2.2.2⟩)[z]? = some u → (w3.alloc (.cells #[.int .u8 (k : Int), .int .i64 i, .int .i64 bb, .int .i64 f, .int .i64 t, .slice a2 n2 c2, .int .i64 c, .int .u64 (dn : Int), .int .u64 (ds : Int)] 57)).cell? ((⟨w3.heap.size, 0, none⟩ : Addr).add z) = some u) := Lib.hid (by
            intro z u hz
            rw [add_plain]
            simp only [World.cell?, heap_alloc_new]
            simpa [rcL] using hz)
          have HF4 : Hid (∀ b1 o1, a2 = some ⟨b1, o1, none⟩ → 0 < n2 → gs < b1 ∧ r' ≠ some b1 ∧ v.ownBlock ≠ some b1) := Lib.hid (by
            intro b1 o1 e1 e2
            have h1 := HX1.out.2.2.2.1 b1 o1 e1 e2
            have h0 := HRD0.out
            rw [e1] at h0
            have h2 := h0.in_ e2
            refine ⟨by have := HGS.out; omega, fun e => ?_, fun e => by have := (HST.out.1.row_lt e).2; omega⟩
            rcases HR3.out b1 e with h3 | h3
            · have := (HST.out.1.ahd.row_lt h3).2; omega
            · omega)
          have HZ3 : Hid (w2.heap.size ≤ w3.heap.size) := Lib.hid HS3.out.size
          have HRD3 : Hid (RdrHi w3 128 g 0 l2 gs) := Lib.hid (HRD2.out.below (HS3.out.below (Nat.le_of_lt HGS2.out.1) (by
            intro z hz
            simp only [List.mem_cons, Option.mem_toList] at hz
            rcases hz with rfl | hz
            · exact Nat.le_refl _
            · have := (HST2.out.ahd.row_lt hz).1; omega)))
          have HSV3 : Hid (Save [g] w w3) := Lib.hid (by
            have h1 := HSV2.out
            have h3 := HS3.out
            refine ⟨h3.os.trans h1.os, h3.tape.trans h1.tape, h3.output.trans h1.output, Nat.le_trans h1.size h3.size, fun z hz hx => (h3.block z (Nat.lt_of_lt_of_le hz h1.size) ?_).trans (h1.block z hz hx)⟩
            have h4 := HW.out.2
            simp only [List.mem_cons, Option.mem_toList, not_or]
            exact ⟨by omega, fun e => by have := (HST2.out.ahd.row_lt e).1; omega⟩)
          clear hq3
          go_wp2_with (refine wpList_append_c rfl (.tmp 35) (.tmp 37) rfl v rfl ⟨w3.heap.size, 0, none⟩ 1 rfl (gs + 1) L HST4.out.own (by have := HGS2.out.1; have := HZ3.out; simp; omega) ⟨⟨k, i, bb, f, t, lb, c, dn, ds⟩, a2, n2, c2, HX1.out.2.2.2.2⟩ HC4.out (by have := HST.out.2; have := HPL.out; omega) ?_; intro v5 w5 h51 h52 h53)
          have HW5 : Hid (OwnC w5 (gs + 1) v5 (L ++ [⟨⟨k, i, bb, f, t, lb, c, dn, ds⟩, a2, n2, c2, HX1.out.2.2.2.2⟩]) ∧ (w3.alloc (.cells #[.int .u8 (k : Int), .int .i64 i, .int .i64 bb, .int .i64 f, .int .i64 t, .slice a2 n2 c2, .int .i64 c, .int .u64 (dn : Int), .int .u64 (ds : Int)] 57)).grownBy w5 v.ownBlock ∧ (v5.ownBlock = v.ownBlock ∨ v5.ownBlock = some (w3.alloc (.cells #[.int .u8 (k : Int), .int .i64 i, .int .i64 bb, .int .i64 f, .int .i64 t, .slice a2 n2 c2, .int .i64 c, .int .u64 (dn : Int), .int .u64 (ds : Int)] 57)).heap.size)) := Lib.hid ⟨h51, h52, h53⟩
          clear h51 h52 h53 q0 q1 q2 q3 q4 q5 q6 q7 q8
          have hst5 := HST4.out.push HW5.out.1 HW5.out.2.1 HW5.out.2.2 HRD4.out HF4.out
          have hgsv : gs < (w3.alloc (.cells #[.int .u8 (k : Int), .int .i64 i, .int .i64 bb, .int .i64 f, .int .i64 t, .slice a2 n2 c2, .int .i64 c, .int .u64 (dn : Int), .int .u64 (ds : Int)] 57)).heap.size := by have := HGS2.out.1; have := HZ3.out; simp; omega
          have hkeep : ∀ z, z ≤ gs → w5.heap[z]? = w3.heap[z]? := fun z hz => (HW5.out.2.1.block z (by omega) (fun e => by have := (HST4.out.row_lt e.symm).1; omega)).trans (heap_alloc_old _ _ (by have := HGS2.out.1; have := HZ3.out; omega))
          have hsz5 : w3.heap.size ≤ w5.heap.size := by have := HW5.out.2.1.size; simp at this; omega
          go_roundg k0
          case measure => omega
          case rel =>
            have hk0 : k0 = (k0 - 1) + 1 := by have := HI.out.2.1; have := HLl.out; have := HBL.out.1; omega
            refine ⟨k0 - 1, v5, r', P ++ Rec.bytes ⟨k, i, bb, f, t, lb, c, dn, ds⟩, l2, L ++ [⟨⟨k, i, bb, f, t, lb, c, dn, ds⟩, a2, n2, c2, HX1.out.2.2.2.2⟩], hk0, rfl, Lib.hid ⟨?_, ?_, ?_⟩, Lib.hid (HRD3.out.below ?_), Lib.hid ⟨?_, ?_⟩, Lib.hid ?_, Lib.hid ?_⟩
            · rw [List.append_assoc, ← HL2.out]; exact HI.out.1
            · have := HI.out.2.1; have := HLl.out; have := HBL.out.1; omega
            · rw [← hk0]
              have := HWL.out
              simpa using this
            · exact ⟨HW5.out.2.1.os, HW5.out.2.1.tape, HW5.out.2.1.output, hsz5, fun z hz => hkeep z (Nat.le_of_lt hz)⟩
            · simpa using hst5
            · have := HST.out.2; have := HBL.out.1; simp; omega
            · have h1 := HSV3.out
              have h4 := HW.out.2
              exact ⟨HW5.out.2.1.os.trans h1.os, HW5.out.2.1.tape.trans h1.tape, HW5.out.2.1.output.trans h1.output, Nat.le_trans h1.size hsz5, fun z hz hx => (hkeep z (by omega)).trans (h1.block z hz hx)⟩
            · have := HGS2.out.1; have := HZ3.out; omega
      · have hB2 : B2 = !B1 := by cases B1 <;> cases B2 <;> simp_all
        subst hB2
        have hwl := HWL.out
        rw [if_pos (by have := HK1.out; have := HC1.out; cases B1 <;> simp_all)] at hwl
        have HWL := Lib.hid hwl
        clear hwl hB
        go_wp2
        go_ret2
        have e := HWL.out
        subst e
        exact ⟨_, rfl, HSV2, Lib.hid fun h => by simp at h⟩
    · have hE2 : ((E : Int) != 0) = true := by simp; omega
      have hXE : X = ([], E) := by have := HWL.out; rw [if_pos hE] at this; exact this.symm
      subst hXE
      have HE := Lib.hid hE
      clear hE
      go_wp2
      go_ret2
      exact ⟨_, rfl, HSV2, Lib.hid fun h => absurd h HE.out⟩

end Go.Proofs.YtaijldcfoaeogaaGreat

/- A stream's head, and its other records: the contract of Whole, over any world. -/
namespace Go.Proofs.YtaijldcfoaeogaaGreat
open Go.RowKit
set_option maxRecDepth 100000
set_option linter.unusedSimpArgs false

theorem head_set {w : World} {p : Nat} {u v : Value} (hp : w.heap[p]? = some (.cells #[.int .i64 0, .int .i64 0] 24 (0, 0))) :
    ∃ W, (w.setCell ⟨p, 0, none⟩ u).setCell ⟨p, 1, none⟩ v = W ∧ Save [p] w W ∧ W.cell? ⟨p, 0, none⟩ = some u ∧ W.cell? ⟨p, 1, none⟩ = some v := by
  refine ⟨_, rfl, (Save.set _ _ _ _).trans (Save.set _ _ _ _), ?_, ?_⟩
  all_goals
    have h1 := set_put (i := 0) u hp
    simp only [List.setIfInBounds_toArray, List.set_cons_zero] at h1
    have hp1 := put_same (o := .cells #[u, .int .i64 0] 24 (0, 0)) hp
    rw [← h1] at hp1
    have h2 := set_put (i := 1) v hp1
    simp only [List.setIfInBounds_toArray, List.set_cons_zero, List.set_cons_succ] at h2
    have hp2 := put_same (o := .cells #[u, v] 24 (0, 0)) hp1
    rw [← h2] at hp2
    simp [World.cell?, hp2]

theorem whl_ne (b : List Nat) : ∀ (f : Nat) (l : List Nat) (acc : List Rec), (whl b f l acc).2 = 0 → (whl b f l acc).1 ≠ [] := by
  intro f
  induction f with
  | zero => intro l acc h; simp [whl] at h
  | succ f ih =>
    intro l acc h
    unfold whl at h ⊢
    split at h
    · rename_i h1; exact absurd h h1
    · rename_i h1
      rw [if_neg h1]
      split at h
      · simp at h
      · rename_i h2
        rw [if_neg h2]
        split at h
        · rename_i h3
          rw [if_pos h3]
          exact ih _ _ h
        · rename_i h3
          rw [if_neg h3]
          split at h
          · simp at h
          · rename_i h4
            rw [if_neg h4]
            split at h
            · simp at h
            · rename_i h5
              rw [if_neg h5]
              intro h6
              refine h2 (.inl ⟨h6, fun h7 => ?_⟩)
              omega

/-- What is read of a stream. -/
def strm (b : List Nat) : List Rec × Nat := whl b (b.length + 1) b []

set_option maxHeartbeats 2000000 in
set_option maxRecDepth 100000 in
theorem whole_any (w : World) (a : Option Addr) (n c : Nat) (b : List Nat) (h : Rd w a n b) (hn : n ≤ 1000000) :
    Calls Tryz.prog 13 #[.slice a n c] w fun e w' => Below w.heap.size w w' ∧ (((strm b).2 ≠ 0 ∧ e = .returned (.tuple #[.agg #[.int .i64 0, .int .i64 0], .slice none 0 0, .int .i64 ((strm b).2 : Int)])) ∨
      ((strm b).2 = 0 ∧ ∃ (x : Rec) (xs : List Rec) (L : List RcC) (a' : Option Addr) (c' : Nat), (strm b).1 = x :: xs ∧ L.map RcC.x = xs ∧ e = .returned (.tuple #[.agg #[.int .i64 x.i, .int .i64 x.b], .slice a' xs.length c', .int .i64 0]) ∧ RdC w' a' xs.length L ∧ Hid ((∀ e ∈ L, ∀ z o, e.a = some ⟨z, o, none⟩ → 0 < e.m → w.heap.size < z) ∧ ∀ z o, a' = some ⟨z, o, none⟩ → w.heap.size < z))) := by
  obtain ⟨w0, hw0⟩ : ∃ w0, w0 = w.alloc (.cells #[.int .i64 0, .int .i64 0] 24) := ⟨_, rfl⟩
  obtain ⟨p, hp⟩ : ∃ p, p = w.heap.size := ⟨_, rfl⟩
  have HW : Hid (w.alloc (.cells #[.int .i64 0, .int .i64 0] 24) = w0 ∧ w.heap.size = p) := Lib.hid ⟨hw0.symm, hp.symm⟩
  have HB0 : Hid (Below p w w0) := Lib.hid (by rw [hw0, hp]; exact Below.alloc0 _ _)
  have HP0 : Hid (w0.heap[p]? = some (.cells #[.int .i64 0, .int .i64 0] 24 (0, 0))) := Lib.hid (by rw [hw0, hp]; exact heap_alloc_new w _)
  have HR0 : Hid (Rd w0 a n b) := Lib.hid (h.later (by rw [← hp]; exact HB0.out))
  obtain ⟨X, hX⟩ : ∃ X, X = strm b := ⟨_, rfl⟩
  rw [← hX, ← hp]
  have HX : Hid (X = whl b (b.length + 1) b []) := Lib.hid hX
  have HBY := Lib.hid h.2.1
  have HBL : Hid (b.length ≤ 1000000) := Lib.hid (by have := h.1; omega)
  have hopen := open_any a n c b w0 HR0.out hn
  have HOPEN := Lib.hid hopen
  clear hw0 hp hX hopen h
  go_enter Tryz.func13, Tryz.ntmps13
  go_upto_region 1 with fail
  rw [HW.out.1]
  try rw [HW.out.2]
  go_wp2_with fail
  refine HOPEN.out.mono ?_
  rintro e w1 ⟨g, rfl, hg, hrd, hb1⟩
  have HG1 : Hid (p < g ∧ p < w1.heap.size) := Lib.hid (by have := lt_of_block HP0.out; have := hb1.size; omega)
  have HB1 : Hid (Below p w w1) := Lib.hid (HB0.out.trans (hb1.mono (by have := lt_of_block HP0.out; omega)))
  have HP1 : Hid (w1.heap[p]? = some (.cells #[.int .i64 0, .int .i64 0] 24 (0, 0))) := Lib.hid ((hb1.block p (lt_of_block HP0.out)).trans HP0.out)
  have hsr := sread_any w1 g b HBY.out hrd HBL.out
  rw [← HX.out] at hsr
  have HSR := Lib.hid hsr
  clear hsr hrd hb1 hg
  go_wp2_with fail
  refine HSR.out.mono ?_
  rintro e w2 ⟨v, rfl, HSV, HLR⟩
  have HB2 : Hid (Below p w w2) := Lib.hid (HB1.out.trans (HSV.out.below (by have := HG1.out; omega) (by have := HG1.out; simp; omega)))
  have hp2 : w2.heap[p]? = some (.cells #[.int .i64 0, .int .i64 0] 24 (0, 0)) := (HSV.out.block p (by have := HG1.out; omega) (by have := HG1.out; simp; omega)).trans HP1.out
  have HP2 := Lib.hid hp2
  obtain ⟨⟨R, E⟩, hRE⟩ : ∃ Y : List Rec × Nat, Y = X := ⟨_, rfl⟩
  subst hRE
  simp only at HLR HSR ⊢
  by_cases hE : E = 0
  · subst hE
    obtain ⟨L, ho, hea, hLm, hfar⟩ := HLR.out rfl
    have hne : R ≠ [] := by have := whl_ne b (b.length + 1) b []; rw [← HX.out] at this; exact this rfl
    obtain ⟨x, xs, rfl⟩ : ∃ x xs, R = x :: xs := by cases R with
      | nil => exact absurd rfl hne
      | cons x xs => exact ⟨x, xs, rfl⟩
    obtain ⟨e0, L', rfl⟩ : ∃ e0 L', L = e0 :: L' := by cases L with
      | nil => simp at hLm
      | cons e0 L' => exact ⟨e0, L', rfl⟩
    simp only [List.map_cons, List.cons.injEq] at hLm
    obtain ⟨rfl, rfl⟩ := hLm
    obtain ⟨a', c', rfl, hcap, hrc, hab⟩ := ho.rd hea
    obtain ⟨b', rfl, hbv⟩ := hab (by simp)
    obtain ⟨_, _, e1, he, hee, _, _, hcl⟩ := hrc.at_ (j := 0) (by simp)
    injection he with he
    injection he with he1 he2
    subst he1
    subst he2
    have hee : e1 = e0 := hee
    rw [hee] at hcl
    have hi : w2.cell? ⟨b', 1, none⟩ = some (.int .i64 e0.x.i) := by simpa using hcl 1 _ rfl
    have hbb : w2.cell? ⟨b', 2, none⟩ = some (.int .i64 e0.x.b) := by simpa using hcl 2 _ rfl
    obtain ⟨m, hm⟩ : ∃ m, m = L'.length := ⟨_, rfl⟩
    have hml : (e0 :: L').length = m + 1 := by simp [hm]
    rw [hml] at hcap hrc ⊢
    have HRC := Lib.hid hrc
    have HM := Lib.hid hm
    have HBP : Hid (p < b') := Lib.hid (by have := (owns_block ho hbv).1; have := HG1.out; omega)
    have HFAR : Hid (∀ e ∈ L', ∀ b1 o1, e.a = some ⟨b1, o1, none⟩ → 0 < e.m → p < b1) := Lib.hid fun e he b1 o1 h1 h2 => by have := hfar e (by simp [he]) b1 o1 h1 h2; have := HG1.out; omega
    clear hm hml hbv
    have y0 : w2.frozen? ⟨p, 0, none⟩ = false := by simp [World.frozen?, hp2]
    have y1 : w2.frozen? ⟨p, 1, none⟩ = false := by simp [World.frozen?, hp2]
    have z0 : w2.cell? ⟨p, 0, none⟩ = some (.int .i64 0) := by simp [World.cell?, hp2]
    have z1 : w2.cell? ⟨p, 1, none⟩ = some (.int .i64 0) := by simp [World.cell?, hp2]
    clear hp2 hne hcl hrc ho hea hfar
    go_upto_region 4 with fail
    go_region
    obtain ⟨W, hW, hsW, c0, c1⟩ := head_set (u := .int .i64 e0.x.i) (v := .int .i64 e0.x.b) HP2.out
    rw [hW]
    have hrt : RdC W.drew (if c' = 1 then some ⟨b', 0, none⟩ else some ⟨b', 9, none⟩) m L' := by
      have h1 := HRC.out.tail rfl
      rw [Nat.zero_add] at h1
      have hm := HM.out
      refine ⟨hm.symm, fun e he => (h1.each e (by simpa using he)).blk fun b1 o1 e1 e2 => ?_, fun hpos => ?_⟩
      · have h2 := h1.each e (by simpa using he)
        rw [e1] at h2
        exact hsW.block b1 (h2.in_ e2) (by have := HFAR.out e he b1 o1 e1 e2; simp; omega)
      · have hc1 : ¬ c' = 1 := by omega
        rw [if_neg hc1]
        obtain ⟨b2, o2, e1, e2⟩ := h1.cells hpos
        injection e1 with e1
        injection e1 with e3 e4
        subst e3
        subst e4
        refine ⟨_, _, rfl, fun j t hj ht => ?_⟩
        have h3 := e2 j t hj ht
        have hL : (e0 :: L').tail = L' := rfl
        rw [hL] at h3
        obtain ⟨v, hv⟩ := rcL_some (L'.getD j default) ht
        rw [hv] at h3 ⊢
        have hlt := World.block_lt_of_cell? w2 _ h3
        exact (World.cell?_of_block (w := w2) (w' := W.drew) (hsW.block _ hlt (by have := HBP.out; simp; omega))).trans h3
    have HRT := Lib.hid hrt
    have HSW := Lib.hid hsW
    have c0 : W.drew.cell? ⟨p, 0, none⟩ = some (.int .i64 e0.x.i) := c0
    have c1 : W.drew.cell? ⟨p, 1, none⟩ = some (.int .i64 e0.x.b) := c1
    clear hrt hsW hW
    obtain ⟨aa, haa⟩ : ∃ aa : Option Addr, aa = if c' = 1 then some ⟨b', 0, none⟩ else some ⟨b', 9, none⟩ := ⟨_, rfl⟩
    rw [← haa] at HRT ⊢
    have HAA : Hid (∀ z o, aa = some ⟨z, o, none⟩ → p < z) := Lib.hid fun z o e => by
      have hbp := HBP.out
      rw [haa] at e
      split at e
      · injection e with e; injection e with e1 e2; omega
      · injection e with e; injection e with e1 e2; omega
    clear haa
    go_wp2
    refine bodyPost_ret (v := .tuple #[.agg #[.int .i64 e0.x.i, .int .i64 e0.x.b], .slice aa m (c' - 1), .int .i64 0]) (by simp [results, Tryz.results13, go_sem, c0, c1]; try rfl) rfl ?_
    have hmm : (L'.map RcC.x).length = m := by rw [HM.out]; simp
    refine ⟨(HB2.out.trans (HSW.out.below (Nat.le_of_lt (lt_of_block HP2.out)) (by simp))).drew, ?_⟩
    refine ⟨e0.x, _, ⟨rfl, rfl⟩, L', rfl, aa, ⟨c' - 1, by rw [hmm]⟩, ?_, Lib.hid ⟨HFAR.out, HAA.out⟩⟩
    rw [hmm]
    exact HRT.out
  · have hE2 : ((E : Int) != 0) = true := by simp; omega
    have y0 : w2.frozen? ⟨p, 0, none⟩ = false := by simp [World.frozen?, hp2]
    have y1 : w2.frozen? ⟨p, 1, none⟩ = false := by simp [World.frozen?, hp2]
    have z0 : w2.cell? ⟨p, 0, none⟩ = some (.int .i64 0) := by simp [World.cell?, hp2]
    have z1 : w2.cell? ⟨p, 1, none⟩ = some (.int .i64 0) := by simp [World.cell?, hp2]
    have HE := Lib.hid hE
    clear hp2 hE
    go_wp2
    obtain ⟨W, hW, hsW, c0, c1⟩ := head_set (u := .int .i64 0) (v := .int .i64 0) HP2.out
    rw [hW]
    refine bodyPost_ret (v := .tuple #[.agg #[.int .i64 0, .int .i64 0], .slice none 0 0, .int .i64 (E : Int)]) (by simp [results, Tryz.results13, go_sem, c0, c1]; try rfl) rfl ?_
    exact ⟨HB2.out.trans (hsW.below (Nat.le_of_lt (lt_of_block HP2.out)) (by simp)), .inl ⟨HE.out, rfl⟩⟩

end Go.Proofs.YtaijldcfoaeogaaGreat
