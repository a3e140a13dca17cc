/- A store's change: committed, or not. -/
import Derived.Test.YtaijjogjohbheaaGreatSLook
import Derived.Test.YtaijjogjohbheaaGreatRComAll
import Derived.Deep.RegionHeld3
namespace Go.Proofs.YtaijjogjohbheaaGreat
open Go.RowKit
set_option maxRecDepth 100000
set_option linter.unusedSimpArgs false

theorem write_pow (s : Pw) (h : s.on = true) : ((s.write 64).2.2 = 0 ∧ (s.write 64).1.on = true ∧ (s.plan = none → (s.write 64).1.plan = none)) ∨ ((s.write 64).2.2 = 11 ∧ (s.write 64).1.on = false ∧ s.plan ≠ none) := by
  obtain ⟨o, p, c⟩ := s
  simp only at h
  subst h
  unfold Pw.write
  rw [if_neg (by omega), if_neg (by simp)]
  rcases p with _ | ⟨_ | k, t⟩
  · exact .inl ⟨rfl, rfl, fun _ => rfl⟩
  · exact .inr ⟨rfl, rfl, by simp⟩
  · exact .inl ⟨rfl, rfl, fun h => by cases h⟩

theorem dAll_pow (n : Nat) : ∀ (b : List Nat) (s : Pw) (L : List Nat) (i : Nat), b.length = n → s.on = true →
    ((dAll s L i b).2.2 = 0 ∧ (dAll s L i b).1.on = true ∧ (s.plan = none → (dAll s L i b).1.plan = none)) ∨ ((dAll s L i b).2.2 = 11 ∧ (dAll s L i b).1.on = false ∧ s.plan ≠ none) := by
  induction n using Nat.strongRecOn with
  | _ n ih =>
    intro b s L i hb ho
    by_cases h0 : b.length = 0
    · rw [dAll_nil s L i b h0]
      exact .inl ⟨rfl, ho, id⟩
    · rcases write_pow s ho with ⟨w1, w2, w3⟩ | ⟨w1, w2, w3⟩
      · have he : (dPut s L i (b.take 64)).2.2 = 0 := w1
        rw [dAll_go s L i b (by omega) he]
        rcases ih (n - 64) (by omega) (b.drop 64) (dPut s L i (b.take 64)).1 (dPut s L i (b.take 64)).2.1 (i + 1) (by simp; omega) w2 with ⟨i1, i2, i3⟩ | ⟨i1, i2, i3⟩
        · exact .inl ⟨i1, i2, fun h => i3 (w3 h)⟩
        · exact .inr ⟨i1, i2, fun h => i3 (w3 h)⟩
      · have he : (dPut s L i (b.take 64)).2.2 ≠ 0 := by rw [show (dPut s L i (b.take 64)).2.2 = (s.write 64).2.2 from rfl, w1]; omega
        rw [dAll_err s L i b (by omega) he]
        exact .inr ⟨w1, w2, w3⟩

theorem rCom_pow (s : Pw) (L : List Nat) (k G : Nat) (b : List Nat) (ho : s.on = true) :
    ((rCom s L k G b).2.2 = 0 ∧ (rCom s L k G b).1.on = true ∧ (s.plan = none → (rCom s L k G b).1.plan = none)) ∨ ((rCom s L k G b).2.2 = 11 ∧ (rCom s L k G b).1.on = false ∧ s.plan ≠ none) := by
  unfold rCom
  rcases dAll_pow b.length b s L (2 + (G + 1) % 2 * sect k) rfl ho with ⟨h1, h2, h3⟩ | ⟨h1, h2, h3⟩
  · rw [if_neg (by omega)]
    rcases write_pow _ h2 with ⟨w1, w2, w3⟩ | ⟨w1, w2, w3⟩
    · exact .inl ⟨w1, w2, fun h => w3 (h3 h)⟩
    · exact .inr ⟨w1, w2, fun h => w3 (h3 h)⟩
  · rw [if_pos (by omega)]
    exact .inr ⟨h1, h2, h3⟩

/-- A store on its disk, at work. -/
structure Ctx (w : World) (gd gp gb gr gs k G B N : Nat) (s : Pw) (L b0 : List Nat) (F : List (List Nat)) (last : Nat) (X : List (Nat × List (List Nat))) : Prop where
  root : w.heap[gr]? = some (rootObj gd G)
  dsk : Dsk w gd gp gb s L k
  ne : gr ≠ gd ∧ gr ≠ gp ∧ gr ≠ gb
  gsn : gs ≠ gd ∧ gs ≠ gp ∧ gs ≠ gb ∧ gs ≠ gr
  inv : RInv L k G b0
  on : s.on = true
  win : s.within B
  sto : Sto w [gp, gb, gr, gs] N gs gr F last X
  ok : OkS F last X
  k4 : 4 ≤ k
  k1 : k ≤ 1000
  gl : G < 200
  bl : B < 1000000000
  nl : N < 10000

theorem Ctx.later {w w' : World} {gd gp gb gr gs k G B N : Nat} {s : Pw} {L b0 : List Nat} {F : List (List Nat)} {last : Nat} {X : List (Nat × List (List Nat))} (h : Ctx w gd gp gb gr gs k G B N s L b0 F last X) (hb : Below w.heap.size w w') : Ctx w' gd gp gb gr gs k G B N s L b0 F last X :=
  ⟨(hb.block gr (lt_of_block h.root)).trans h.root, h.dsk.later hb, h.ne, h.gsn, h.inv, h.on, h.win, h.sto.later hb, h.ok, h.k4, h.k1, h.gl, h.bl, h.nl⟩

/-- What a Commit answers, and leaves. -/
def ComP (gd gp gb gr k G B : Nat) (s : Pw) (L b0 b : List Nat) (w : World) (E : Nat) (w' : World) : Prop :=
  ∃ (s' : Pw) (L' : List Nat), Dsk w' gd gp gb s' L' k ∧ s'.within (B + b.length + 1) ∧ Save [gp, gb, gr] w w' ∧
    ((E = 0 ∧ b.length ≤ 64 * sect k ∧ s'.on = true ∧ (s.plan = none → s'.plan = none) ∧ RInv L' k (G + 1) b ∧ w'.heap[gr]? = some (rootObj gd (G + 1))) ∨
     (E = 7 ∧ 64 * sect k < b.length ∧ s' = s ∧ L' = L ∧ w'.heap[gr]? = some (rootObj gd G)) ∨
     (E = 11 ∧ b.length ≤ 64 * sect k ∧ s.plan ≠ none ∧ s'.on = false ∧ (RInv L' k G b0 ∨ RInv L' k (G + 1) b)))

theorem commitS (w : World) (gr gd gp gb k G B : Nat) (s : Pw) (L b0 : List Nat) (hr : w.heap[gr]? = some (rootObj gd G)) (h : Dsk w gd gp gb s L k) (hi : RInv L k G b0) (hk : 4 ≤ k) (hk2 : k ≤ 1000) (hne : gr ≠ gd ∧ gr ≠ gp ∧ gr ≠ gb) (hG : G < 200) (hon : s.on = true) (hw : s.within B) (hB : B < 1000000000)
    (a : Option Addr) (n c : Nat) (b : List Nat) (hb : Rd w a n b) (hnc : n ≤ c) (hoff : 0 < n → Off a [gp, gb]) :
    Calls Tryz.prog 56 #[.pointer (some ⟨gr, 0, none⟩), .slice a n c] w fun e w' => ∃ E : Nat, e = .returned (.int .i64 (E : Int)) ∧ ComP gd gp gb gr k G B s L b0 b w E w' := by
  have hb1 := hb.1
  by_cases hf : 64 * sect k < n
  · refine (commit_full w gr gd gp gb k G s L hr h hk a n c hf).mono ?_
    rintro e w' ⟨rfl, rfl⟩
    exact ⟨7, rfl, s, L, h, hw.mono (by omega), Save.refl _ _, .inr (.inl ⟨rfl, by omega, rfl, rfl, hr⟩)⟩
  · refine (commit_any w gr gd gp gb k G B s L hr h hk hne (by omega) hw (by omega) a n c b hb (by omega) hnc hoff).mono ?_
    rintro e w' ⟨rfl, hd, hrt, hs, hwi⟩
    refine ⟨_, rfl, _, _, hd, hwi.mono (by omega), hs, ?_⟩
    rcases hi.commit (s := s) (b := b) hk (by omega) (by omega) hon (by omega) with ⟨h0, h1⟩ | ⟨h0, h1⟩
    · rcases rCom_pow s L k G b hon with ⟨p1, p2, p3⟩ | ⟨p1, p2, p3⟩
      · rw [if_pos h0] at hrt
        exact .inl ⟨h0, by omega, p2, p3, h1, hrt⟩
      · omega
    · rcases rCom_pow s L k G b hon with ⟨p1, p2, p3⟩ | ⟨p1, p2, p3⟩
      · omega
      · exact .inr (.inr ⟨h0, by omega, p3, p2, h1⟩)

/-- What a change answers, and leaves. -/
def ChP (gd gp gb gr gs k G B N M : Nat) (s : Pw) (L b0 : List Nat) (F : List (List Nat)) (last : Nat) (X : List (Nat × List (List Nat))) (F' : List (List Nat)) (last' : Nat) (X' : List (Nat × List (List Nat))) (w : World) (E : Nat) (w' : World) : Prop :=
  ∃ (s' : Pw) (L' : List Nat), Dsk w' gd gp gb s' L' k ∧ s'.within (B + 400001) ∧ Save [gp, gb, gr, gs] w w' ∧
    ((E = 0 ∧ (sEnc F' last' X').length ≤ 64 * sect k ∧ s'.on = true ∧ (s.plan = none → s'.plan = none) ∧ RInv L' k (G + 1) (sEnc F' last' X') ∧ w'.heap[gr]? = some (rootObj gd (G + 1)) ∧ Sto w' [gp, gb, gr, gs] M gs gr F' last' X' ∧ OkS F' last' X') ∨
     (E = 7 ∧ 64 * sect k < (sEnc F' last' X').length ∧ s' = s ∧ L' = L ∧ w'.heap[gr]? = some (rootObj gd G) ∧ Sto w' [gp, gb, gr, gs] N gs gr F last X) ∨
     (E = 11 ∧ (sEnc F' last' X').length ≤ 64 * sect k ∧ s.plan ≠ none ∧ s'.on = false ∧ OkS F' last' X' ∧ (RInv L' k G b0 ∨ RInv L' k (G + 1) (sEnc F' last' X'))))

theorem stoObj_set {w : World} {gs gr gi last n c : Nat} {a : Option Addr} (h : w.heap[gs]? = some (stoObj gr gi last a n c)) (gi' last' n' c' : Nat) (a' : Option Addr) :
    ((w.setCell ⟨gs, 1, none⟩ (.pointer (some ⟨gi', 0, none⟩))).setCell ⟨gs, 2, none⟩ (.int .i64 (last' : Int))).setCell ⟨gs, 3, none⟩ (.slice a' n' c') = put w gs (stoObj gr gi' last' a' n' c') := by
  unfold stoObj at h
  rw [set_put _ h]
  simp only [List.setIfInBounds_toArray, List.set_cons_succ, List.set_cons_zero]
  rw [set_put _ (put_same h)]
  simp only [List.setIfInBounds_toArray, List.set_cons_succ, List.set_cons_zero, put_put]
  rw [set_put _ (put_same h)]
  simp only [List.setIfInBounds_toArray, List.set_cons_succ, List.set_cons_zero, put_put]
  rfl

set_option maxHeartbeats 4000000 in
theorem change_any (w : World) (gd gp gb gr gs k G B N M : Nat) (s : Pw) (L b0 : List Nat) (F : List (List Nat)) (last : Nat) (X : List (Nat × List (List Nat))) (h : Ctx w gd gp gb gr gs k G B N s L b0 F last X)
    (gi' last' n' c' : Nat) (a' : Option Addr) (F' : List (List Nat)) (X' : List (Nat × List (List Nat))) (h' : Sta w [gp, gb, gr, gs] M gi' a' n' F' X') (hnc : n' ≤ c') (hok' : OkS F' last' X') :
    Calls Tryz.prog 34 #[.pointer (some ⟨gs, 0, none⟩), stV gi' last' a' n' c'] w fun e w' => ∃ E : Nat, e = .returned (.int .i64 (E : Int)) ∧ ChP gd gp gb gr gs k G B N M s L b0 F last X F' last' X' w E w' := by
  obtain ⟨gi, a, n, c, hobj, hnc0, hsta⟩ := h.sto
  have HC := Lib.hid h
  have HS' := Lib.hid h'
  have HOk' := Lib.hid hok'
  have HLen := Lib.hid hok'.len
  have HOB := Lib.hid hobj
  have HNC := Lib.hid hnc
  have HNC0 := Lib.hid hnc0
  have HSTA := Lib.hid hsta
  have hgsl : gs < w.heap.size := lt_of_block hobj
  unfold stV
  go_enter Tryz.func34, Tryz.ntmps34
  go_upto_region 1 with fail
  obtain ⟨w1, hw1⟩ : ∃ w1, w1 = w.alloc (.cells #[.pointer (some ⟨gi', 0, none⟩), .int .i64 (last' : Int), .slice a' n' c'] 76) := ⟨_, rfl⟩
  obtain ⟨q, hq⟩ : ∃ q, q = w.heap.size := ⟨_, rfl⟩
  rw [← hw1, ← hq]
  have hob : w1.heap[q]? = some (.cells #[.pointer (some ⟨gi', 0, none⟩), .int .i64 (last' : Int), .slice a' n' c'] 76 (0, 0)) := by rw [hw1, hq]; exact heap_alloc_new _ _
  have hbe : Below w.heap.size w w1 := by rw [hw1]; exact Below.alloc0 _ _
  have hs1 : w1.heap.size = q + 1 := by rw [hw1, hq]; simp
  have HBE := Lib.hid hbe
  have HQ := Lib.hid (And.intro hq hs1)
  have hgr1 : gr < w.heap.size := lt_of_block h.root
  have hlts := h.dsk.lts
  have HQN : Hid (q ≠ gp ∧ q ≠ gb ∧ q ≠ gr ∧ gs ≠ q) := Lib.hid ⟨by omega, by omega, by omega, by omega⟩
  have HK : Hid (∀ W, Save [gp, gb, gr] w1 W → W.cell? ⟨gs, 0, none⟩ = some (.pointer (some ⟨gr, 0, none⟩)) ∧ W.cell? ⟨q, 0, none⟩ = some (.pointer (some ⟨gi', 0, none⟩)) ∧ W.cell? ⟨q, 1, none⟩ = some (.int .i64 (last' : Int)) ∧ W.cell? ⟨q, 2, none⟩ = some (.slice a' n' c')) := by
    refine Lib.hid fun W hW => ?_
    have g := h.gsn
    have hqn := HQN.out
    have e := (hW.block q (lt_of_block hob) (by simp; omega)).trans hob
    have e2 := (hW.block gs (by omega) (by simp; omega)).trans ((hbe.block gs hgsl).trans hobj)
    refine ⟨(sto_cells e2).1, ?_⟩
    simp [World.cell?, e]
  have HBy : Hid (∀ W, Below w1.heap.size w1 W → Calls Tryz.prog 57 #[.agg #[.pointer (some ⟨gi', 0, none⟩), .int .i64 (last' : Int), .slice a' n' c']] W fun e w' => ∃ v, e = .returned v ∧ Own w' W.heap.size v (sEnc F' last' X') ∧ Below W.heap.size W w') :=
    Lib.hid fun W hW => stBytes_any W _ M gi' last' n' c' a' F' X' ((h'.later hbe).later hW) hok'
  have HCom : Hid (∀ W w2 v, Below w1.heap.size w1 W → Own w2 W.heap.size v (sEnc F' last' X') → Below W.heap.size W w2 → ∃ a2 n2 c2, v = .slice a2 n2 c2 ∧ Calls Tryz.prog 56 #[.pointer (some ⟨gr, 0, none⟩), .slice a2 n2 c2] w2 fun e w' => ∃ E : Nat, e = .returned (.int .i64 (E : Int)) ∧ ComP gd gp gb gr k G B s L b0 (sEnc F' last' X') w2 E w') := by
    refine Lib.hid fun W w2 v hW ho hb2 => ?_
    obtain ⟨a2, c2, rfl, hr2, hc2, hl2⟩ := ho.lies
    refine ⟨a2, _, c2, rfl, ?_⟩
    have hb12 : Below w1.heap.size w1 w2 := hW.trans (hb2.mono hW.size)
    have hc := (h.later hbe).later hb12
    refine commitS w2 gr gd gp gb k G B s L b0 hc.root hc.dsk hc.inv hc.k4 hc.k1 hc.ne hc.gl hc.on hc.win hc.bl a2 _ c2 _ hr2 hc2 ?_
    intro h0 ad e
    obtain ⟨xb, xo, e', _⟩ := hr2.2.2 h0
    rw [e] at e'
    injection e' with e'
    have := hl2 xb xo (by rw [e, e'])
    rw [e']
    have hws := hW.size
    simp only [List.mem_cons, List.not_mem_nil, or_false, not_or]
    omega
  obtain ⟨k0, k1, k2, k3⟩ := HK.out w1.drew (Save.refl _ _).drew
  clear h h' hok' hobj hsta hnc hw1 hq hob hbe hs1 hgsl hgr1 hlts hnc0
  go_region_held3 (fun W => W.cell? ⟨gs, 0, none⟩ = some (.pointer (some ⟨gr, 0, none⟩)) ∧ W.cell? ⟨q, 0, none⟩ = some (.pointer (some ⟨gi', 0, none⟩)) ∧ W.cell? ⟨q, 1, none⟩ = some (.int .i64 (last' : Int)) ∧ W.cell? ⟨q, 2, none⟩ = some (.slice a' n' c'))
    (first
      | exact HK.out _ (Save.refl _ _).drew
      | exact HK.out _ ((Save.refl _ _).drew.trans (Save.of_below hb2 _))
      | exact HK.out _ (((Save.refl _ _).drew.trans (Save.of_below hb2 _)).trans hs3)
      | go_keep)
    (first
      | (go_at_call 57; refine (HBy.out _ ?_).mono ?_; exact (Below.refl _ _).drew; rintro e w2 ⟨v2, rfl, ho2, hb2⟩; obtain ⟨a2, n2, c2, rfl, hcom⟩ := HCom.out _ _ _ (Below.refl _ _).drew ho2 hb2)
      | (go_at_call 56; refine hcom.mono ?_; rintro e w3 ⟨E, rfl, s', L', hd3, hwi3, hs3, hor⟩))
  have hs13 : Save [gp, gb, gr] w1 w3 := ((Save.refl _ _).drew.trans (Save.of_below hb2 _)).trans hs3
  obtain ⟨m0, m1, m2, m3⟩ := HK.out w3 hs13
  have HS13 := Lib.hid hs13
  have HW3 := Lib.hid (hwi3.mono (show B + (sEnc F' last' X').length + 1 ≤ B + 400001 by have := HLen.out; omega))
  have HD3 := Lib.hid hd3
  have hg := HC.out.gsn
  have hob3 : w3.heap[gs]? = some (stoObj gr gi last a n c) := (hs13.block gs (Nat.lt_of_lt_of_le (lt_of_block HOB.out) HBE.out.size) (by simp; omega)).trans ((HBE.out.block gs (lt_of_block HOB.out)).trans HOB.out)
  have HOB3 := Lib.hid hob3
  have HS03 : Hid (Save [gp, gb, gr, gs] w w3) := Lib.hid ((Save.of_below HBE.out _).trans (hs13.mono (by intro k hk; simp only [List.mem_cons, List.not_mem_nil, or_false] at hk ⊢; omega)))
  clear hs13 hd3 hwi3 hs3 hcom ho2 hb2 k0 k1 k2 k3 hg
  rcases hor with ⟨hE, h2, h3, h4, h5, h6⟩ | ⟨hE, h2, h3, h4, h5⟩ | ⟨hE, h2, h3, h4, h5⟩
  · subst hE
    have HR := Lib.hid (And.intro h2 (And.intro h3 (And.intro h4 (And.intro h5 h6))))
    have f1 : ∀ i, w3.frozen? ⟨gs, i, none⟩ = false := fun i => by simp [World.frozen?, hob3, stoObj]
    have hx1 : w3.cell? ⟨gs, 1, none⟩ = some (.pointer (some ⟨gi, 0, none⟩)) := (sto_cells hob3).2.1
    have hx2 : w3.cell? ⟨gs, 2, none⟩ = some (.int .i64 (last : Int)) := (sto_cells hob3).2.2.1
    have hx3 : w3.cell? ⟨gs, 3, none⟩ = some (.slice a n c) := (sto_cells hob3).2.2.2
    clear h2 h3 h4 h5 h6 hob3
    go_wp2
    go_ret
    rw [stoObj_set HOB3.out]
    have hg := HC.out.gsn
    have hlt := HC.out.dsk.lts
    have hgr := lt_of_block HR.out.2.2.2.2
    have hsv : Save [gp, gb, gr, gs] w3 (put w3 gs (stoObj gr gi' last' a' n' c')) := (Save.refl _ _).put (by simp) _
    refine ⟨0, rfl, s', L', HD3.out.save ((Save.refl [gs] w3).put (by simp) _) (by simp; omega), HW3.out, HS03.out.trans hsv, .inl ⟨rfl, HR.out.1, HR.out.2.1, HR.out.2.2.1, HR.out.2.2.2.1, (put_other (by omega)).trans HR.out.2.2.2.2, ⟨gi', a', n', c', put_same HOB3.out, HNC.out, ?_⟩, HOk'.out⟩⟩
    exact ((HS'.out.later HBE.out).save (HS13.out.mono (by intro k hk; simp only [List.mem_cons, List.not_mem_nil, or_false] at hk ⊢; omega)) (fun k hk => hk)).save hsv (fun k hk => hk)
  · subst hE
    have HR := Lib.hid (And.intro h2 (And.intro h3 (And.intro h4 h5)))
    clear h2 h3 h4 h5 hob3
    go_wp2
    go_ret
    exact ⟨7, rfl, s', L', HD3.out, HW3.out, HS03.out, .inr (.inl ⟨rfl, HR.out.1, HR.out.2.1, HR.out.2.2.1, HR.out.2.2.2, ⟨gi, a, n, c, HOB3.out, HNC0.out, HSTA.out.save HS03.out (fun k hk => hk)⟩⟩)⟩
  · subst hE
    have HR := Lib.hid (And.intro h2 (And.intro h3 (And.intro h4 h5)))
    clear h2 h3 h4 h5 hob3
    go_wp2
    go_ret
    exact ⟨11, rfl, s', L', HD3.out, HW3.out, HS03.out, .inr (.inr ⟨rfl, HR.out.1, HR.out.2.1, HR.out.2.2.1, HOk'.out, HR.out.2.2.2⟩)⟩

end Go.Proofs.YtaijjogjohbheaaGreat

/- A store's Set. -/
namespace Go.Proofs.YtaijjogjohbheaaGreat
open Go.RowKit
set_option maxRecDepth 100000
set_option linter.unusedSimpArgs false

/-- A block of these bytes; without bytes a hole. -/
def newB (b : List Nat) : List Nat := if b.length = 0 then [] else padB b

theorem newB_ok {b : List Nat} (h : b.length ≤ 32) (hb : ∀ x ∈ b, x < 256) : newB b = [] ∨ okB (newB b) := by
  unfold newB
  split
  · exact .inl rfl
  · exact .inr (padB_ok h hb)

theorem ChP.from {gd gp gb gr gs k G B N M : Nat} {s : Pw} {L b0 : List Nat} {F : List (List Nat)} {last : Nat} {X : List (Nat × List (List Nat))} {F' : List (List Nat)} {last' : Nat} {X' : List (Nat × List (List Nat))} {w w1 w' : World} {E : Nat}
    (h : ChP gd gp gb gr gs k G B N M s L b0 F last X F' last' X' w1 E w') (hb : Below w.heap.size w w1) : ChP gd gp gb gr gs k G B N M s L b0 F last X F' last' X' w E w' := by
  obtain ⟨s', L', h1, h2, h3, h4⟩ := h
  exact ⟨s', L', h1, h2, (Save.of_below hb _).trans h3, h4⟩

theorem Ctx.low {w : World} {gd gp gb gr gs k G B N : Nat} {s : Pw} {L b0 : List Nat} {F : List (List Nat)} {last : Nat} {X : List (Nat × List (List Nat))} (h : Ctx w gd gp gb gr gs k G B N s L b0 F last X) : gp < w.heap.size ∧ gb < w.heap.size ∧ gr < w.heap.size ∧ gs < w.heap.size ∧ gd < w.heap.size := by
  have h1 := h.dsk.lts
  have h2 := lt_of_block h.root
  have h3 := h.sto.lt
  omega

theorem Ctx.fresh {w : World} {gd gp gb gr gs k G B N : Nat} {s : Pw} {L b0 : List Nat} {F : List (List Nat)} {last : Nat} {X : List (Nat × List (List Nat))} (h : Ctx w gd gp gb gr gs k G B N s L b0 F last X) {g : Nat} (hg : w.heap.size ≤ g) : g ∉ [gp, gb, gr, gs] := by
  have := h.low
  simp only [List.mem_cons, List.not_mem_nil, or_false, not_or]
  omega

theorem write_no (w : World) (g b q : Nat) (F : List (List Nat)) (I : Int) (a : Option Addr) (n c : Nat) (h : Img w g b q F) (hi : I < 0 ∨ 256 ≤ I ∨ 32 < n) :
    Calls Tryz.prog 33 #[.pointer (some ⟨g, 0, none⟩), .int .i64 I, .slice a n c] w fun e w' => e = .returned (.int .i64 1) ∧ w' = w := by
  by_cases h0 : n = 0
  · subst h0
    have HC := Lib.hid (clear_no w g b q F I h (by omega))
    clear h hi
    go_enter Tryz.func33, Tryz.ntmps33
    go_wp2_with fail
    refine HC.out.mono ?_
    rintro e w1 ⟨rfl, rfl⟩
    go_wp2
    go_ret
    exact ⟨rfl, rfl⟩
  · have HP := Lib.hid (imgPut_no w g b q F I a n c h hi)
    have hn0 : ((n : Int) == 0) = false := by simp; omega
    clear h hi h0
    go_enter Tryz.func33, Tryz.ntmps33
    go_wp2_with fail
    refine HP.out.mono ?_
    rintro e w1 ⟨rfl, rfl⟩
    go_wp2
    go_ret
    exact ⟨rfl, rfl⟩

theorem write_yes (w : World) (g b q : Nat) (F : List (List Nat)) (J : Nat) (a : Option Addr) (n c : Nat) (x : List Nat) (h : Img w g b q F) (hq : q < 100000) (hj : J < 256) (hn : n ≤ 32) (hr : Rd w a n x) :
    Calls Tryz.prog 33 #[.pointer (some ⟨g, 0, none⟩), .int .i64 (J : Int), .slice a n c] w fun e w' => e = .returned (.int .i64 0) ∧ Img w' g b (q + 1) (F.set J (newB x)) ∧ Save [b] w w' := by
  have hl := hr.1
  by_cases h0 : n = 0
  · subst h0
    have HC := Lib.hid (clear_yes w g b q F J h hj)
    have HN : Hid (newB x = []) := Lib.hid (by unfold newB; rw [if_pos hl])
    clear h hr
    go_enter Tryz.func33, Tryz.ntmps33
    go_wp2_with fail
    refine HC.out.mono ?_
    rintro e w1 ⟨rfl, hi, hs⟩
    have HE := Lib.hid (And.intro hi hs)
    clear hi hs
    go_wp2
    go_ret
    rw [HN.out]
    exact ⟨rfl, ⟨HE.out.1.blk, HE.out.1.map.mono (by omega), HE.out.1.ok⟩, HE.out.2⟩
  · have HP := Lib.hid (imgPut_yes w g b q F J a n c x h hq hj hn hr)
    have hn0 : ((n : Int) == 0) = false := by simp; omega
    have HN : Hid (newB x = padB x) := Lib.hid (by unfold newB; rw [if_neg (by omega)])
    clear h hr h0 hl
    go_enter Tryz.func33, Tryz.ntmps33
    go_wp2_with fail
    refine HP.out.mono ?_
    rintro e w1 ⟨rfl, hi, hs⟩
    have HE := Lib.hid (And.intro hi hs)
    clear hi hs
    go_wp2
    go_ret
    rw [HN.out]
    exact ⟨rfl, HE.out.1, HE.out.2⟩

theorem set_nil (w : World) (I : Int) (a : Option Addr) (n c : Nat) : Calls Tryz.prog 15 #[.pointer none, .int .i64 I, .slice a n c] w fun e w' => e = .returned (.int .i64 1) ∧ w' = w := by
  go_enter Tryz.func15, Tryz.ntmps15
  go_wp2
  go_ret
  exact ⟨rfl, rfl⟩

theorem set_box {w : World} {q : Nat} {x y z x' : Value} {T : TypeId} (h : w.heap[q]? = some (.cells #[x, y, z] T (0, 0))) : w.setCell ⟨q, 0, none⟩ x' = put w q (.cells #[x', y, z] T (0, 0)) := by
  rw [set_put _ h]
  rfl

set_option maxHeartbeats 2000000 in
theorem set_any (w : World) (gd gp gb gr gs k G B N : Nat) (s : Pw) (L b0 : List Nat) (F : List (List Nat)) (last : Nat) (X : List (Nat × List (List Nat))) (h : Ctx w gd gp gb gr gs k G B N s L b0 F last X) (I : Int) (a : Option Addr) (n c : Nat) (x : List Nat) (hr : Rd w a n x) :
    Calls Tryz.prog 15 #[.pointer (some ⟨gs, 0, none⟩), .int .i64 I, .slice a n c] w fun e w' =>
      ((I < 0 ∨ 256 ≤ I ∨ 32 < n) ∧ e = .returned (.int .i64 1) ∧ Below w.heap.size w w') ∨ (0 ≤ I ∧ I < 256 ∧ n ≤ 32 ∧ ∃ E : Nat, e = .returned (.int .i64 (E : Int)) ∧ ChP gd gp gb gr gs k G B N (N + 1) s L b0 F last X (F.set I.toNat (newB x)) last X w E w') := by
  obtain ⟨gi, a0, n0, c0, hobj, hnc0, hsta⟩ := h.sto
  have HC := Lib.hid h
  have HR := Lib.hid hr
  have HNC := Lib.hid hnc0
  have HSTA := Lib.hid hsta
  have HOB := Lib.hid hobj
  obtain ⟨d0, d1, d2, d3⟩ := sto_cells hobj
  have hgsl : gs < w.heap.size := lt_of_block hobj
  have HGS := Lib.hid hgsl
  clear h hr hnc0 hsta hobj
  go_enter Tryz.func15, Tryz.ntmps15
  go_upto_region 4 with fail
  obtain ⟨w1, hw1⟩ : ∃ w1, w1 = w.alloc (.cells #[.pointer (some ⟨gi, 0, none⟩), .int .i64 (last : Int), .slice a0 n0 c0] 76) := ⟨_, rfl⟩
  obtain ⟨q, hq⟩ : ∃ q, q = w.heap.size := ⟨_, rfl⟩
  rw [← hw1, ← hq]
  have hob : w1.heap[q]? = some (.cells #[.pointer (some ⟨gi, 0, none⟩), .int .i64 (last : Int), .slice a0 n0 c0] 76 (0, 0)) := by rw [hw1, hq]; exact heap_alloc_new _ _
  have hbe : Below w.heap.size w w1 := by rw [hw1]; exact Below.alloc0 _ _
  have hs1 : w1.heap.size = q + 1 := by rw [hw1, hq]; simp
  have HBE := Lib.hid hbe
  have HQ := Lib.hid (And.intro hq hs1)
  have HOq := Lib.hid hob
  have e1 : w1.cell? ⟨gs, 1, none⟩ = some (.pointer (some ⟨gi, 0, none⟩)) := (hbe.cell (p := ⟨gs, 1, none⟩) hgsl).trans d1
  have HCl := Lib.hid (clone_img w1 [gp, gb, gr, gs] N gi F (HSTA.out.later hbe).img (by have := HC.out.nl; omega))
  clear hw1 hq hbe hs1 hob d0 d1 d2 d3 hgsl
  go_wp2_with fail
  refine HCl.out.mono ?_
  rintro e w2 ⟨g', b', m, hm, rfl, hg', hb', himg, hb2⟩
  have hob2 : w2.heap[q]? = some (.cells #[.pointer (some ⟨gi, 0, none⟩), .int .i64 (last : Int), .slice a0 n0 c0] 76 (0, 0)) := (hb2.block q (lt_of_block HOq.out)).trans HOq.out
  have f0 : w2.frozen? ⟨q, 0, none⟩ = false := by simp [World.frozen?, hob2]
  have x0 : w2.cell? ⟨q, 0, none⟩ = some (.pointer (some ⟨gi, 0, none⟩)) := by simp [World.cell?, hob2]
  have HB2 := Lib.hid hb2
  have HO2 := Lib.hid hob2
  have HI := Lib.hid (And.intro hm (And.intro hg' (And.intro hb' himg)))
  clear hm hg' hb' himg hb2 hob2 e1 HCl
  go_upto_region 5 with fail
  rw [set_box HO2.out]
  obtain ⟨w3, hw3⟩ : ∃ w3, w3 = put w2 q (.cells #[.pointer (some ⟨g', 0, none⟩), .int .i64 (last : Int), .slice a0 n0 c0] 76 (0, 0)) := ⟨_, rfl⟩
  rw [← hw3]
  have hob3 : w3.heap[q]? = some (.cells #[.pointer (some ⟨g', 0, none⟩), .int .i64 (last : Int), .slice a0 n0 c0] 76 (0, 0)) := by rw [hw3]; exact put_same HO2.out
  have hq1 := HQ.out
  have hb23 : Below w.heap.size w w3 := by
    rw [hw3]
    exact (HBE.out.trans (HB2.out.mono HBE.out.size)).trans (put_below _ (by omega))
  have himg3 : Img w3 g' b' m F := by
    have h1 := HI.out.2.2.2.save ((Save.refl [q] w2).put (g := q) (by simp) (.cells #[.pointer (some ⟨g', 0, none⟩), .int .i64 (last : Int), .slice a0 n0 c0] 76 (0, 0))) (by have := HI.out.2.1; simp; omega) (by have := HI.out.2.2.1; simp; omega)
    rw [hw3]
    exact h1
  have y0 : w3.cell? ⟨q, 0, none⟩ = some (.pointer (some ⟨g', 0, none⟩)) := by simp [World.cell?, hob3]
  have HB3 := Lib.hid hb23
  have HO3 := Lib.hid hob3
  have HI3 := Lib.hid himg3
  clear hw3 hob3 hb23 himg3 f0 x0 hq1
  by_cases hbad : I < 0 ∨ 256 ≤ I ∨ 32 < n
  · have HW := Lib.hid (write_no w3 g' b' m F I a n c HI3.out hbad)
    have HBad := Lib.hid hbad
    clear hbad
    go_wp2_with fail
    refine HW.out.mono ?_
    rintro e w4 ⟨rfl, rfl⟩
    go_wp2
    go_ret
    exact .inl ⟨HBad.out, rfl, HB3.out⟩
  · obtain ⟨J, rfl⟩ : ∃ J : Nat, I = (J : Int) := ⟨I.toNat, by omega⟩
    have hJ : J < 256 := by omega
    have hn32 : n ≤ 32 := by omega
    have HW := Lib.hid (write_yes w3 g' b' m F J a n c x HI3.out (by have := HI.out.1; have := HC.out.nl; omega) hJ hn32 (HR.out.later HB3.out))
    have HJ := Lib.hid (And.intro hJ hn32)
    clear hbad
    go_wp2_with fail
    refine HW.out.mono ?_
    rintro e w4 ⟨rfl, himg4, hs4⟩
    have hq1 := HQ.out
    have hb4 : Below w.heap.size w w4 := HB3.out.trans (hs4.below HB3.out.size (by have := HI.out.2.2.1; simp; omega))
    have hob4 : w4.heap[q]? = some (.cells #[.pointer (some ⟨g', 0, none⟩), .int .i64 (last : Int), .slice a0 n0 c0] 76 (0, 0)) := (hs4.block q (lt_of_block HO3.out) (by have := HI.out.2.2.1; simp; omega)).trans HO3.out
    have z0 : w4.cell? ⟨q, 0, none⟩ = some (.pointer (some ⟨g', 0, none⟩)) := by simp [World.cell?, hob4]
    have z1 : w4.cell? ⟨q, 1, none⟩ = some (.int .i64 (last : Int)) := by simp [World.cell?, hob4]
    have z2 : w4.cell? ⟨q, 2, none⟩ = some (.slice a0 n0 c0) := by simp [World.cell?, hob4]
    have HB4 := Lib.hid hb4
    have hsta4 : Sta w4 [gp, gb, gr, gs] (N + 1) g' a0 n0 (F.set J (newB x)) X := by
      have h1 := (HSTA.out.later hb4).mono (Nat.le_succ N)
      refine ⟨⟨b', m + 1, himg4, by have := HI.out.1; omega, HC.out.fresh ?_, HC.out.fresh ?_⟩, h1.row⟩
      · have := HI.out.2.1; omega
      · have := HI.out.2.2.1; omega
    have hok4 : OkS (F.set J (newB x)) last X := by
      have h1 := HC.out.ok
      refine ⟨h1.img.set J (newB_ok ?_ HR.out.2.1), h1.ims, h1.inc, h1.few, h1.last⟩
      rw [HR.out.1]; exact hn32
    have HCh := Lib.hid (change_any w4 gd gp gb gr gs k G B N (N + 1) s L b0 F last X (HC.out.later hb4) g' last n0 c0 a0 _ X hsta4 HNC.out hok4)
    unfold stV at HCh
    clear himg4 hs4 hb4 hob4 hsta4 hok4 y0 HW hq1
    go_wp2_with fail
    refine HCh.out.mono ?_
    rintro e w5 ⟨E, rfl, hch⟩
    have HE := Lib.hid hch
    clear hch z0 z1 z2
    go_wp2
    go_ret
    refine .inr ⟨by omega, by omega, HJ.out.2, E, rfl, ?_⟩
    rw [Int.toNat_natCast]
    exact HE.out.from HB4.out

end Go.Proofs.YtaijjogjohbheaaGreat
