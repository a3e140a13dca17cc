/- A store's change: committed, or not. -/
import Derived.Test.YtaijjogjohbheaaGreatGIDelToSLook
import Derived.Test.YtaijjogjohbheaaGreatGRCommitToRCom
import Derived.Deep.RegionHeld3
import Derived.Deep.DeepCutAuto
import Derived.Test.YtaijjogjohbheaaGreatGReadyToAppS
import Derived.Deep.RegionLaw
import Derived.Deep.AppendLies
namespace Go.Proofs.YtaijjogjohbheaaGreat
open Go.RowKit
set_option maxRecDepth 100000
set_option linter.unusedSimpArgs false

theorem write_pow (s : Pw) (h : s.on = true) : ((s.write 64).2.2 = 0 ∧ (s.write 64).1.on = true ∧ (s.plan = none → (s.write 64).1.plan = none)) ∨ ((s.write 64).2.2 = 11 ∧ (s.write 64).1.on = false ∧ s.plan ≠ none) := by
  obtain ⟨o, p, c⟩ := s
  simp only at h
  subst h
  unfold Pw.write
  rw [if_neg (by omega), if_neg (by simp)]
  rcases p with _ | ⟨_ | k, t⟩
  · exact .inl ⟨rfl, rfl, fun _ => rfl⟩
  · exact .inr ⟨rfl, rfl, by simp⟩
  · exact .inl ⟨rfl, rfl, fun h => by cases h⟩

theorem dAll_pow (n : Nat) : ∀ (b : List Nat) (s : Pw) (L : List Nat) (i : Nat), b.length = n → s.on = true →
    ((dAll s L i b).2.2 = 0 ∧ (dAll s L i b).1.on = true ∧ (s.plan = none → (dAll s L i b).1.plan = none)) ∨ ((dAll s L i b).2.2 = 11 ∧ (dAll s L i b).1.on = false ∧ s.plan ≠ none) := by
  induction n using Nat.strongRecOn with
  | _ n ih =>
    intro b s L i hb ho
    by_cases h0 : b.length = 0
    · rw [dAll_nil s L i b h0]
      exact .inl ⟨rfl, ho, id⟩
    · rcases write_pow s ho with ⟨w1, w2, w3⟩ | ⟨w1, w2, w3⟩
      · have he : (dPut s L i (b.take 64)).2.2 = 0 := w1
        rw [dAll_go s L i b (by omega) he]
        rcases ih (n - 64) (by omega) (b.drop 64) (dPut s L i (b.take 64)).1 (dPut s L i (b.take 64)).2.1 (i + 1) (by simp; omega) w2 with ⟨i1, i2, i3⟩ | ⟨i1, i2, i3⟩
        · exact .inl ⟨i1, i2, fun h => i3 (w3 h)⟩
        · exact .inr ⟨i1, i2, fun h => i3 (w3 h)⟩
      · have he : (dPut s L i (b.take 64)).2.2 ≠ 0 := by rw [show (dPut s L i (b.take 64)).2.2 = (s.write 64).2.2 from rfl, w1]; omega
        rw [dAll_err s L i b (by omega) he]
        exact .inr ⟨w1, w2, w3⟩

theorem rCom_pow (s : Pw) (L : List Nat) (k G : Nat) (b : List Nat) (ho : s.on = true) :
    ((rCom s L k G b).2.2 = 0 ∧ (rCom s L k G b).1.on = true ∧ (s.plan = none → (rCom s L k G b).1.plan = none)) ∨ ((rCom s L k G b).2.2 = 11 ∧ (rCom s L k G b).1.on = false ∧ s.plan ≠ none) := by
  unfold rCom
  rcases dAll_pow b.length b s L (2 + (G + 1) % 2 * sect k) rfl ho with ⟨h1, h2, h3⟩ | ⟨h1, h2, h3⟩
  · rw [if_neg (by omega)]
    rcases write_pow _ h2 with ⟨w1, w2, w3⟩ | ⟨w1, w2, w3⟩
    · exact .inl ⟨w1, w2, fun h => w3 (h3 h)⟩
    · exact .inr ⟨w1, w2, fun h => w3 (h3 h)⟩
  · rw [if_pos (by omega)]
    exact .inr ⟨h1, h2, h3⟩

/-- A store on its disk, at work. -/
structure Ctx (w : World) (gd gp gb gr gs k G B N : Nat) (s : Pw) (L b0 : List Nat) (F : List (List Nat)) (last : Nat) (X : List (Nat × List (List Nat))) : Prop where
  root : w.heap[gr]? = some (rootObj gd G)
  dsk : Dsk w gd gp gb s L k
  ne : gr ≠ gd ∧ gr ≠ gp ∧ gr ≠ gb
  gsn : gs ≠ gd ∧ gs ≠ gp ∧ gs ≠ gb ∧ gs ≠ gr
  inv : RInv L k G b0
  on : s.on = true
  win : s.within B
  sto : Sto w [gp, gb, gr, gs] N gs gr F last X
  ok : OkS F last X
  k4 : 4 ≤ k
  k1 : k ≤ 1000
  gl : G < 200
  bl : B < 1000000000
  nl : N < 10000

theorem Ctx.later {w w' : World} {gd gp gb gr gs k G B N : Nat} {s : Pw} {L b0 : List Nat} {F : List (List Nat)} {last : Nat} {X : List (Nat × List (List Nat))} (h : Ctx w gd gp gb gr gs k G B N s L b0 F last X) (hb : Below w.heap.size w w') : Ctx w' gd gp gb gr gs k G B N s L b0 F last X :=
  ⟨(hb.block gr (lt_of_block h.root)).trans h.root, h.dsk.later hb, h.ne, h.gsn, h.inv, h.on, h.win, h.sto.later hb, h.ok, h.k4, h.k1, h.gl, h.bl, h.nl⟩

/-- What a Commit answers, and leaves. -/
def ComP (gd gp gb gr k G B : Nat) (s : Pw) (L b0 b : List Nat) (w : World) (E : Nat) (w' : World) : Prop :=
  ∃ (s' : Pw) (L' : List Nat), Dsk w' gd gp gb s' L' k ∧ s'.within (B + b.length + 1) ∧ Save [gp, gb, gr] w w' ∧
    ((E = 0 ∧ b.length ≤ 64 * sect k ∧ s'.on = true ∧ (s.plan = none → s'.plan = none) ∧ RInv L' k (G + 1) b ∧ w'.heap[gr]? = some (rootObj gd (G + 1))) ∨
     (E = 7 ∧ 64 * sect k < b.length ∧ s' = s ∧ L' = L ∧ w'.heap[gr]? = some (rootObj gd G)) ∨
     (E = 11 ∧ b.length ≤ 64 * sect k ∧ s.plan ≠ none ∧ s'.on = false ∧ (RInv L' k G b0 ∨ RInv L' k (G + 1) b)))

theorem commitS (w : World) (gr gd gp gb k G B : Nat) (s : Pw) (L b0 : List Nat) (hr : w.heap[gr]? = some (rootObj gd G)) (h : Dsk w gd gp gb s L k) (hi : RInv L k G b0) (hk : 4 ≤ k) (hk2 : k ≤ 1000) (hne : gr ≠ gd ∧ gr ≠ gp ∧ gr ≠ gb) (hG : G < 200) (hon : s.on = true) (hw : s.within B) (hB : B < 1000000000)
    (a : Option Addr) (n c : Nat) (b : List Nat) (hb : Rd w a n b) (hnc : n ≤ c) (hoff : 0 < n → Off a [gp, gb]) :
    Calls Tryz.prog 56 #[.pointer (some ⟨gr, 0, none⟩), .slice a n c] w fun e w' => ∃ E : Nat, e = .returned (.int .i64 (E : Int)) ∧ ComP gd gp gb gr k G B s L b0 b w E w' := by
  have hb1 := hb.1
  by_cases hf : 64 * sect k < n
  · refine (commit_full w gr gd gp gb k G s L hr h hk a n c hf).mono ?_
    rintro e w' ⟨rfl, rfl⟩
    exact ⟨7, rfl, s, L, h, hw.mono (by omega), Save.refl _ _, .inr (.inl ⟨rfl, by omega, rfl, rfl, hr⟩)⟩
  · refine (commit_any w gr gd gp gb k G B s L hr h hk hne (by omega) hw (by omega) a n c b hb (by omega) hnc hoff).mono ?_
    rintro e w' ⟨rfl, hd, hrt, hs, hwi⟩
    refine ⟨_, rfl, _, _, hd, hwi.mono (by omega), hs, ?_⟩
    rcases hi.commit (s := s) (b := b) hk (by omega) (by omega) hon (by omega) with ⟨h0, h1⟩ | ⟨h0, h1⟩
    · rcases rCom_pow s L k G b hon with ⟨p1, p2, p3⟩ | ⟨p1, p2, p3⟩
      · rw [if_pos h0] at hrt
        exact .inl ⟨h0, by omega, p2, p3, h1, hrt⟩
      · omega
    · rcases rCom_pow s L k G b hon with ⟨p1, p2, p3⟩ | ⟨p1, p2, p3⟩
      · omega
      · exact .inr (.inr ⟨h0, by omega, p3, p2, h1⟩)

/-- What a change answers, and leaves. -/
def ChP (gd gp gb gr gs k G B N M : Nat) (s : Pw) (L b0 : List Nat) (F : List (List Nat)) (last : Nat) (X : List (Nat × List (List Nat))) (F' : List (List Nat)) (last' : Nat) (X' : List (Nat × List (List Nat))) (w : World) (E : Nat) (w' : World) : Prop :=
  ∃ (s' : Pw) (L' : List Nat), Dsk w' gd gp gb s' L' k ∧ s'.within (B + 400001) ∧ Save [gp, gb, gr, gs] w w' ∧
    ((E = 0 ∧ (sEnc F' last' X').length ≤ 64 * sect k ∧ s'.on = true ∧ (s.plan = none → s'.plan = none) ∧ RInv L' k (G + 1) (sEnc F' last' X') ∧ w'.heap[gr]? = some (rootObj gd (G + 1)) ∧ Sto w' [gp, gb, gr, gs] M gs gr F' last' X' ∧ OkS F' last' X') ∨
     (E = 7 ∧ 64 * sect k < (sEnc F' last' X').length ∧ s' = s ∧ L' = L ∧ w'.heap[gr]? = some (rootObj gd G) ∧ Sto w' [gp, gb, gr, gs] N gs gr F last X) ∨
     (E = 11 ∧ (sEnc F' last' X').length ≤ 64 * sect k ∧ s.plan ≠ none ∧ s'.on = false ∧ OkS F' last' X' ∧ (RInv L' k G b0 ∨ RInv L' k (G + 1) (sEnc F' last' X'))))

theorem stoObj_set {w : World} {gs gr gi last n c : Nat} {a : Option Addr} (h : w.heap[gs]? = some (stoObj gr gi last a n c)) (gi' last' n' c' : Nat) (a' : Option Addr) :
    ((w.setCell ⟨gs, 1, none⟩ (.pointer (some ⟨gi', 0, none⟩))).setCell ⟨gs, 2, none⟩ (.int .i64 (last' : Int))).setCell ⟨gs, 3, none⟩ (.slice a' n' c') = put w gs (stoObj gr gi' last' a' n' c') := by
  unfold stoObj at h
  rw [set_put _ h]
  simp only [List.setIfInBounds_toArray, List.set_cons_succ, List.set_cons_zero]
  rw [set_put _ (put_same h)]
  simp only [List.setIfInBounds_toArray, List.set_cons_succ, List.set_cons_zero, put_put]
  rw [set_put _ (put_same h)]
  simp only [List.setIfInBounds_toArray, List.set_cons_succ, List.set_cons_zero, put_put]
  rfl

set_option maxHeartbeats 4000000 in
theorem change_any (w : World) (gd gp gb gr gs k G B N M : Nat) (s : Pw) (L b0 : List Nat) (F : List (List Nat)) (last : Nat) (X : List (Nat × List (List Nat))) (h : Ctx w gd gp gb gr gs k G B N s L b0 F last X)
    (gi' last' n' c' : Nat) (a' : Option Addr) (F' : List (List Nat)) (X' : List (Nat × List (List Nat))) (h' : Sta w [gp, gb, gr, gs] M gi' a' n' F' X') (hnc : n' ≤ c') (hok' : OkS F' last' X') :
    Calls Tryz.prog 34 #[.pointer (some ⟨gs, 0, none⟩), stV gi' last' a' n' c'] w fun e w' => ∃ E : Nat, e = .returned (.int .i64 (E : Int)) ∧ ChP gd gp gb gr gs k G B N M s L b0 F last X F' last' X' w E w' := by
  obtain ⟨gi, a, n, c, hobj, hnc0, hsta⟩ := h.sto
  have HC := Lib.hid h
  have HS' := Lib.hid h'
  have HOk' := Lib.hid hok'
  have HLen := Lib.hid hok'.len
  have HOB := Lib.hid hobj
  have HNC := Lib.hid hnc
  have HNC0 := Lib.hid hnc0
  have HSTA := Lib.hid hsta
  have hgsl : gs < w.heap.size := lt_of_block hobj
  unfold stV
  go_enter Tryz.func34, Tryz.ntmps34
  go_upto_region 1 with fail
  obtain ⟨w1, hw1⟩ : ∃ w1, w1 = w.alloc (.cells #[.pointer (some ⟨gi', 0, none⟩), .int .i64 (last' : Int), .slice a' n' c'] 76) := ⟨_, rfl⟩
  obtain ⟨q, hq⟩ : ∃ q, q = w.heap.size := ⟨_, rfl⟩
  rw [← hw1, ← hq]
  have hob : w1.heap[q]? = some (.cells #[.pointer (some ⟨gi', 0, none⟩), .int .i64 (last' : Int), .slice a' n' c'] 76 (0, 0)) := by rw [hw1, hq]; exact heap_alloc_new _ _
  have hbe : Below w.heap.size w w1 := by rw [hw1]; exact Below.alloc0 _ _
  have hs1 : w1.heap.size = q + 1 := by rw [hw1, hq]; simp
  have HBE := Lib.hid hbe
  have HQ := Lib.hid (And.intro hq hs1)
  have hgr1 : gr < w.heap.size := lt_of_block h.root
  have hlts := h.dsk.lts
  have HQN : Hid (q ≠ gp ∧ q ≠ gb ∧ q ≠ gr ∧ gs ≠ q) := Lib.hid ⟨by omega, by omega, by omega, by omega⟩
  have HK : Hid (∀ W, Save [gp, gb, gr] w1 W → W.cell? ⟨gs, 0, none⟩ = some (.pointer (some ⟨gr, 0, none⟩)) ∧ W.cell? ⟨q, 0, none⟩ = some (.pointer (some ⟨gi', 0, none⟩)) ∧ W.cell? ⟨q, 1, none⟩ = some (.int .i64 (last' : Int)) ∧ W.cell? ⟨q, 2, none⟩ = some (.slice a' n' c')) := by
    refine Lib.hid fun W hW => ?_
    have g := h.gsn
    have hqn := HQN.out
    have e := (hW.block q (lt_of_block hob) (by simp; omega)).trans hob
    have e2 := (hW.block gs (by omega) (by simp; omega)).trans ((hbe.block gs hgsl).trans hobj)
    refine ⟨(sto_cells e2).1, ?_⟩
    simp [World.cell?, e]
  have HBy : Hid (∀ W, Below w1.heap.size w1 W → Calls Tryz.prog 57 #[.agg #[.pointer (some ⟨gi', 0, none⟩), .int .i64 (last' : Int), .slice a' n' c']] W fun e w' => ∃ v, e = .returned v ∧ Own w' W.heap.size v (sEnc F' last' X') ∧ Below W.heap.size W w') :=
    Lib.hid fun W hW => stBytes_any W _ M gi' last' n' c' a' F' X' ((h'.later hbe).later hW) hok'
  have HCom : Hid (∀ W w2 v, Below w1.heap.size w1 W → Own w2 W.heap.size v (sEnc F' last' X') → Below W.heap.size W w2 → ∃ a2 n2 c2, v = .slice a2 n2 c2 ∧ Calls Tryz.prog 56 #[.pointer (some ⟨gr, 0, none⟩), .slice a2 n2 c2] w2 fun e w' => ∃ E : Nat, e = .returned (.int .i64 (E : Int)) ∧ ComP gd gp gb gr k G B s L b0 (sEnc F' last' X') w2 E w') := by
    refine Lib.hid fun W w2 v hW ho hb2 => ?_
    obtain ⟨a2, c2, rfl, hr2, hc2, hl2⟩ := ho.lies
    refine ⟨a2, _, c2, rfl, ?_⟩
    have hb12 : Below w1.heap.size w1 w2 := hW.trans (hb2.mono hW.size)
    have hc := (h.later hbe).later hb12
    refine commitS w2 gr gd gp gb k G B s L b0 hc.root hc.dsk hc.inv hc.k4 hc.k1 hc.ne hc.gl hc.on hc.win hc.bl a2 _ c2 _ hr2 hc2 ?_
    intro h0 ad e
    obtain ⟨xb, xo, e', _⟩ := hr2.2.2 h0
    rw [e] at e'
    injection e' with e'
    have := hl2 xb xo (by rw [e, e'])
    rw [e']
    have hws := hW.size
    simp only [List.mem_cons, List.not_mem_nil, or_false, not_or]
    omega
  obtain ⟨k0, k1, k2, k3⟩ := HK.out w1.drew (Save.refl _ _).drew
  clear h h' hok' hobj hsta hnc hw1 hq hob hbe hs1 hgsl hgr1 hlts hnc0
  go_region_held3 (fun W => W.cell? ⟨gs, 0, none⟩ = some (.pointer (some ⟨gr, 0, none⟩)) ∧ W.cell? ⟨q, 0, none⟩ = some (.pointer (some ⟨gi', 0, none⟩)) ∧ W.cell? ⟨q, 1, none⟩ = some (.int .i64 (last' : Int)) ∧ W.cell? ⟨q, 2, none⟩ = some (.slice a' n' c'))
    (first
      | exact HK.out _ (Save.refl _ _).drew
      | exact HK.out _ ((Save.refl _ _).drew.trans (Save.of_below hb2 _))
      | exact HK.out _ (((Save.refl _ _).drew.trans (Save.of_below hb2 _)).trans hs3)
      | go_keep)
    (first
      | (go_at_call 57; refine (HBy.out _ ?_).mono ?_; exact (Below.refl _ _).drew; rintro e w2 ⟨v2, rfl, ho2, hb2⟩; obtain ⟨a2, n2, c2, rfl, hcom⟩ := HCom.out _ _ _ (Below.refl _ _).drew ho2 hb2)
      | (go_at_call 56; refine hcom.mono ?_; rintro e w3 ⟨E, rfl, s', L', hd3, hwi3, hs3, hor⟩))
  have hs13 : Save [gp, gb, gr] w1 w3 := ((Save.refl _ _).drew.trans (Save.of_below hb2 _)).trans hs3
  obtain ⟨m0, m1, m2, m3⟩ := HK.out w3 hs13
  have HS13 := Lib.hid hs13
  have HW3 := Lib.hid (hwi3.mono (show B + (sEnc F' last' X').length + 1 ≤ B + 400001 by have := HLen.out; omega))
  have HD3 := Lib.hid hd3
  have hg := HC.out.gsn
  have hob3 : w3.heap[gs]? = some (stoObj gr gi last a n c) := (hs13.block gs (Nat.lt_of_lt_of_le (lt_of_block HOB.out) HBE.out.size) (by simp; omega)).trans ((HBE.out.block gs (lt_of_block HOB.out)).trans HOB.out)
  have HOB3 := Lib.hid hob3
  have HS03 : Hid (Save [gp, gb, gr, gs] w w3) := Lib.hid ((Save.of_below HBE.out _).trans (hs13.mono (by intro k hk; simp only [List.mem_cons, List.not_mem_nil, or_false] at hk ⊢; omega)))
  clear hs13 hd3 hwi3 hs3 hcom ho2 hb2 k0 k1 k2 k3 hg
  rcases hor with ⟨hE, h2, h3, h4, h5, h6⟩ | ⟨hE, h2, h3, h4, h5⟩ | ⟨hE, h2, h3, h4, h5⟩
  · subst hE
    have HR := Lib.hid (And.intro h2 (And.intro h3 (And.intro h4 (And.intro h5 h6))))
    have f1 : ∀ i, w3.frozen? ⟨gs, i, none⟩ = false := fun i => by simp [World.frozen?, hob3, stoObj]
    have hx1 : w3.cell? ⟨gs, 1, none⟩ = some (.pointer (some ⟨gi, 0, none⟩)) := (sto_cells hob3).2.1
    have hx2 : w3.cell? ⟨gs, 2, none⟩ = some (.int .i64 (last : Int)) := (sto_cells hob3).2.2.1
    have hx3 : w3.cell? ⟨gs, 3, none⟩ = some (.slice a n c) := (sto_cells hob3).2.2.2
    clear h2 h3 h4 h5 h6 hob3
    go_wp2
    go_ret
    rw [stoObj_set HOB3.out]
    have hg := HC.out.gsn
    have hlt := HC.out.dsk.lts
    have hgr := lt_of_block HR.out.2.2.2.2
    have hsv : Save [gp, gb, gr, gs] w3 (put w3 gs (stoObj gr gi' last' a' n' c')) := (Save.refl _ _).put (by simp) _
    refine ⟨0, rfl, s', L', HD3.out.save ((Save.refl [gs] w3).put (by simp) _) (by simp; omega), HW3.out, HS03.out.trans hsv, .inl ⟨rfl, HR.out.1, HR.out.2.1, HR.out.2.2.1, HR.out.2.2.2.1, (put_other (by omega)).trans HR.out.2.2.2.2, ⟨gi', a', n', c', put_same HOB3.out, HNC.out, ?_⟩, HOk'.out⟩⟩
    exact ((HS'.out.later HBE.out).save (HS13.out.mono (by intro k hk; simp only [List.mem_cons, List.not_mem_nil, or_false] at hk ⊢; omega)) (fun k hk => hk)).save hsv (fun k hk => hk)
  · subst hE
    have HR := Lib.hid (And.intro h2 (And.intro h3 (And.intro h4 h5)))
    clear h2 h3 h4 h5 hob3
    go_wp2
    go_ret
    exact ⟨7, rfl, s', L', HD3.out, HW3.out, HS03.out, .inr (.inl ⟨rfl, HR.out.1, HR.out.2.1, HR.out.2.2.1, HR.out.2.2.2, ⟨gi, a, n, c, HOB3.out, HNC0.out, HSTA.out.save HS03.out (fun k hk => hk)⟩⟩)⟩
  · subst hE
    have HR := Lib.hid (And.intro h2 (And.intro h3 (And.intro h4 h5)))
    clear h2 h3 h4 h5 hob3
    go_wp2
    go_ret
    exact ⟨11, rfl, s', L', HD3.out, HW3.out, HS03.out, .inr (.inr ⟨rfl, HR.out.1, HR.out.2.1, HR.out.2.2.1, HOk'.out, HR.out.2.2.2⟩)⟩

end Go.Proofs.YtaijjogjohbheaaGreat

/- A store's Set. -/
namespace Go.Proofs.YtaijjogjohbheaaGreat
open Go.RowKit
set_option maxRecDepth 100000
set_option linter.unusedSimpArgs false

/-- A block of these bytes; without bytes a hole. -/
def newB (b : List Nat) : List Nat := if b.length = 0 then [] else padB b

theorem newB_ok {b : List Nat} (h : b.length ≤ 32) (hb : ∀ x ∈ b, x < 256) : newB b = [] ∨ okB (newB b) := by
  unfold newB
  split
  · exact .inl rfl
  · exact .inr (padB_ok h hb)

theorem ChP.from {gd gp gb gr gs k G B N M : Nat} {s : Pw} {L b0 : List Nat} {F : List (List Nat)} {last : Nat} {X : List (Nat × List (List Nat))} {F' : List (List Nat)} {last' : Nat} {X' : List (Nat × List (List Nat))} {w w1 w' : World} {E : Nat}
    (h : ChP gd gp gb gr gs k G B N M s L b0 F last X F' last' X' w1 E w') (hb : Below w.heap.size w w1) : ChP gd gp gb gr gs k G B N M s L b0 F last X F' last' X' w E w' := by
  obtain ⟨s', L', h1, h2, h3, h4⟩ := h
  exact ⟨s', L', h1, h2, (Save.of_below hb _).trans h3, h4⟩

theorem Ctx.low {w : World} {gd gp gb gr gs k G B N : Nat} {s : Pw} {L b0 : List Nat} {F : List (List Nat)} {last : Nat} {X : List (Nat × List (List Nat))} (h : Ctx w gd gp gb gr gs k G B N s L b0 F last X) : gp < w.heap.size ∧ gb < w.heap.size ∧ gr < w.heap.size ∧ gs < w.heap.size ∧ gd < w.heap.size := by
  have h1 := h.dsk.lts
  have h2 := lt_of_block h.root
  have h3 := h.sto.lt
  omega

theorem Ctx.fresh {w : World} {gd gp gb gr gs k G B N : Nat} {s : Pw} {L b0 : List Nat} {F : List (List Nat)} {last : Nat} {X : List (Nat × List (List Nat))} (h : Ctx w gd gp gb gr gs k G B N s L b0 F last X) {g : Nat} (hg : w.heap.size ≤ g) : g ∉ [gp, gb, gr, gs] := by
  have := h.low
  simp only [List.mem_cons, List.not_mem_nil, or_false, not_or]
  omega

theorem write_no (w : World) (g b q : Nat) (F : List (List Nat)) (I : Int) (a : Option Addr) (n c : Nat) (h : Img w g b q F) (hi : I < 0 ∨ 256 ≤ I ∨ 32 < n) :
    Calls Tryz.prog 33 #[.pointer (some ⟨g, 0, none⟩), .int .i64 I, .slice a n c] w fun e w' => e = .returned (.int .i64 1) ∧ w' = w := by
  by_cases h0 : n = 0
  · subst h0
    have HC := Lib.hid (clear_no w g b q F I h (by omega))
    clear h hi
    go_enter Tryz.func33, Tryz.ntmps33
    go_wp2_with fail
    refine HC.out.mono ?_
    rintro e w1 ⟨rfl, rfl⟩
    go_wp2
    go_ret
    exact ⟨rfl, rfl⟩
  · have HP := Lib.hid (imgPut_no w g b q F I a n c h hi)
    have hn0 : ((n : Int) == 0) = false := by simp; omega
    clear h hi h0
    go_enter Tryz.func33, Tryz.ntmps33
    go_wp2_with fail
    refine HP.out.mono ?_
    rintro e w1 ⟨rfl, rfl⟩
    go_wp2
    go_ret
    exact ⟨rfl, rfl⟩

theorem write_yes (w : World) (g b q : Nat) (F : List (List Nat)) (J : Nat) (a : Option Addr) (n c : Nat) (x : List Nat) (h : Img w g b q F) (hq : q < 100000) (hj : J < 256) (hn : n ≤ 32) (hr : Rd w a n x) :
    Calls Tryz.prog 33 #[.pointer (some ⟨g, 0, none⟩), .int .i64 (J : Int), .slice a n c] w fun e w' => e = .returned (.int .i64 0) ∧ Img w' g b (q + 1) (F.set J (newB x)) ∧ Save [b] w w' := by
  have hl := hr.1
  by_cases h0 : n = 0
  · subst h0
    have HC := Lib.hid (clear_yes w g b q F J h hj)
    have HN : Hid (newB x = []) := Lib.hid (by unfold newB; rw [if_pos hl])
    clear h hr
    go_enter Tryz.func33, Tryz.ntmps33
    go_wp2_with fail
    refine HC.out.mono ?_
    rintro e w1 ⟨rfl, hi, hs⟩
    have HE := Lib.hid (And.intro hi hs)
    clear hi hs
    go_wp2
    go_ret
    rw [HN.out]
    exact ⟨rfl, ⟨HE.out.1.blk, HE.out.1.map.mono (by omega), HE.out.1.ok⟩, HE.out.2⟩
  · have HP := Lib.hid (imgPut_yes w g b q F J a n c x h hq hj hn hr)
    have hn0 : ((n : Int) == 0) = false := by simp; omega
    have HN : Hid (newB x = padB x) := Lib.hid (by unfold newB; rw [if_neg (by omega)])
    clear h hr h0 hl
    go_enter Tryz.func33, Tryz.ntmps33
    go_wp2_with fail
    refine HP.out.mono ?_
    rintro e w1 ⟨rfl, hi, hs⟩
    have HE := Lib.hid (And.intro hi hs)
    clear hi hs
    go_wp2
    go_ret
    rw [HN.out]
    exact ⟨rfl, HE.out.1, HE.out.2⟩

theorem set_nil (w : World) (I : Int) (a : Option Addr) (n c : Nat) : Calls Tryz.prog 15 #[.pointer none, .int .i64 I, .slice a n c] w fun e w' => e = .returned (.int .i64 1) ∧ w' = w := by
  go_enter Tryz.func15, Tryz.ntmps15
  go_wp2
  go_ret
  exact ⟨rfl, rfl⟩

theorem set_box {w : World} {q : Nat} {x y z x' : Value} {T : TypeId} (h : w.heap[q]? = some (.cells #[x, y, z] T (0, 0))) : w.setCell ⟨q, 0, none⟩ x' = put w q (.cells #[x', y, z] T (0, 0)) := by
  rw [set_put _ h]
  rfl

set_option maxHeartbeats 2000000 in
theorem set_any (w : World) (gd gp gb gr gs k G B N : Nat) (s : Pw) (L b0 : List Nat) (F : List (List Nat)) (last : Nat) (X : List (Nat × List (List Nat))) (h : Ctx w gd gp gb gr gs k G B N s L b0 F last X) (I : Int) (a : Option Addr) (n c : Nat) (x : List Nat) (hr : Rd w a n x) :
    Calls Tryz.prog 15 #[.pointer (some ⟨gs, 0, none⟩), .int .i64 I, .slice a n c] w fun e w' =>
      ((I < 0 ∨ 256 ≤ I ∨ 32 < n) ∧ e = .returned (.int .i64 1) ∧ Below w.heap.size w w') ∨ (0 ≤ I ∧ I < 256 ∧ n ≤ 32 ∧ ∃ E : Nat, e = .returned (.int .i64 (E : Int)) ∧ ChP gd gp gb gr gs k G B N (N + 1) s L b0 F last X (F.set I.toNat (newB x)) last X w E w') := by
  obtain ⟨gi, a0, n0, c0, hobj, hnc0, hsta⟩ := h.sto
  have HC := Lib.hid h
  have HR := Lib.hid hr
  have HNC := Lib.hid hnc0
  have HSTA := Lib.hid hsta
  have HOB := Lib.hid hobj
  obtain ⟨d0, d1, d2, d3⟩ := sto_cells hobj
  have hgsl : gs < w.heap.size := lt_of_block hobj
  have HGS := Lib.hid hgsl
  clear h hr hnc0 hsta hobj
  go_enter Tryz.func15, Tryz.ntmps15
  go_upto_region 4 with fail
  obtain ⟨w1, hw1⟩ : ∃ w1, w1 = w.alloc (.cells #[.pointer (some ⟨gi, 0, none⟩), .int .i64 (last : Int), .slice a0 n0 c0] 76) := ⟨_, rfl⟩
  obtain ⟨q, hq⟩ : ∃ q, q = w.heap.size := ⟨_, rfl⟩
  rw [← hw1, ← hq]
  have hob : w1.heap[q]? = some (.cells #[.pointer (some ⟨gi, 0, none⟩), .int .i64 (last : Int), .slice a0 n0 c0] 76 (0, 0)) := by rw [hw1, hq]; exact heap_alloc_new _ _
  have hbe : Below w.heap.size w w1 := by rw [hw1]; exact Below.alloc0 _ _
  have hs1 : w1.heap.size = q + 1 := by rw [hw1, hq]; simp
  have HBE := Lib.hid hbe
  have HQ := Lib.hid (And.intro hq hs1)
  have HOq := Lib.hid hob
  have e1 : w1.cell? ⟨gs, 1, none⟩ = some (.pointer (some ⟨gi, 0, none⟩)) := (hbe.cell (p := ⟨gs, 1, none⟩) hgsl).trans d1
  have HCl := Lib.hid (clone_img w1 [gp, gb, gr, gs] N gi F (HSTA.out.later hbe).img (by have := HC.out.nl; omega))
  clear hw1 hq hbe hs1 hob d0 d1 d2 d3 hgsl
  go_wp2_with fail
  refine HCl.out.mono ?_
  rintro e w2 ⟨g', b', m, hm, rfl, hg', hb', himg, hb2⟩
  have hob2 : w2.heap[q]? = some (.cells #[.pointer (some ⟨gi, 0, none⟩), .int .i64 (last : Int), .slice a0 n0 c0] 76 (0, 0)) := (hb2.block q (lt_of_block HOq.out)).trans HOq.out
  have f0 : w2.frozen? ⟨q, 0, none⟩ = false := by simp [World.frozen?, hob2]
  have x0 : w2.cell? ⟨q, 0, none⟩ = some (.pointer (some ⟨gi, 0, none⟩)) := by simp [World.cell?, hob2]
  have HB2 := Lib.hid hb2
  have HO2 := Lib.hid hob2
  have HI := Lib.hid (And.intro hm (And.intro hg' (And.intro hb' himg)))
  clear hm hg' hb' himg hb2 hob2 e1 HCl
  go_upto_region 5 with fail
  rw [set_box HO2.out]
  obtain ⟨w3, hw3⟩ : ∃ w3, w3 = put w2 q (.cells #[.pointer (some ⟨g', 0, none⟩), .int .i64 (last : Int), .slice a0 n0 c0] 76 (0, 0)) := ⟨_, rfl⟩
  rw [← hw3]
  have hob3 : w3.heap[q]? = some (.cells #[.pointer (some ⟨g', 0, none⟩), .int .i64 (last : Int), .slice a0 n0 c0] 76 (0, 0)) := by rw [hw3]; exact put_same HO2.out
  have hq1 := HQ.out
  have hb23 : Below w.heap.size w w3 := by
    rw [hw3]
    exact (HBE.out.trans (HB2.out.mono HBE.out.size)).trans (put_below _ (by omega))
  have himg3 : Img w3 g' b' m F := by
    have h1 := HI.out.2.2.2.save ((Save.refl [q] w2).put (g := q) (by simp) (.cells #[.pointer (some ⟨g', 0, none⟩), .int .i64 (last : Int), .slice a0 n0 c0] 76 (0, 0))) (by have := HI.out.2.1; simp; omega) (by have := HI.out.2.2.1; simp; omega)
    rw [hw3]
    exact h1
  have y0 : w3.cell? ⟨q, 0, none⟩ = some (.pointer (some ⟨g', 0, none⟩)) := by simp [World.cell?, hob3]
  have HB3 := Lib.hid hb23
  have HO3 := Lib.hid hob3
  have HI3 := Lib.hid himg3
  clear hw3 hob3 hb23 himg3 f0 x0 hq1
  by_cases hbad : I < 0 ∨ 256 ≤ I ∨ 32 < n
  · have HW := Lib.hid (write_no w3 g' b' m F I a n c HI3.out hbad)
    have HBad := Lib.hid hbad
    clear hbad
    go_wp2_with fail
    refine HW.out.mono ?_
    rintro e w4 ⟨rfl, rfl⟩
    go_wp2
    go_ret
    exact .inl ⟨HBad.out, rfl, HB3.out⟩
  · obtain ⟨J, rfl⟩ : ∃ J : Nat, I = (J : Int) := ⟨I.toNat, by omega⟩
    have hJ : J < 256 := by omega
    have hn32 : n ≤ 32 := by omega
    have HW := Lib.hid (write_yes w3 g' b' m F J a n c x HI3.out (by have := HI.out.1; have := HC.out.nl; omega) hJ hn32 (HR.out.later HB3.out))
    have HJ := Lib.hid (And.intro hJ hn32)
    clear hbad
    go_wp2_with fail
    refine HW.out.mono ?_
    rintro e w4 ⟨rfl, himg4, hs4⟩
    have hq1 := HQ.out
    have hb4 : Below w.heap.size w w4 := HB3.out.trans (hs4.below HB3.out.size (by have := HI.out.2.2.1; simp; omega))
    have hob4 : w4.heap[q]? = some (.cells #[.pointer (some ⟨g', 0, none⟩), .int .i64 (last : Int), .slice a0 n0 c0] 76 (0, 0)) := (hs4.block q (lt_of_block HO3.out) (by have := HI.out.2.2.1; simp; omega)).trans HO3.out
    have z0 : w4.cell? ⟨q, 0, none⟩ = some (.pointer (some ⟨g', 0, none⟩)) := by simp [World.cell?, hob4]
    have z1 : w4.cell? ⟨q, 1, none⟩ = some (.int .i64 (last : Int)) := by simp [World.cell?, hob4]
    have z2 : w4.cell? ⟨q, 2, none⟩ = some (.slice a0 n0 c0) := by simp [World.cell?, hob4]
    have HB4 := Lib.hid hb4
    have hsta4 : Sta w4 [gp, gb, gr, gs] (N + 1) g' a0 n0 (F.set J (newB x)) X := by
      have h1 := (HSTA.out.later hb4).mono (Nat.le_succ N)
      refine ⟨⟨b', m + 1, himg4, by have := HI.out.1; omega, HC.out.fresh ?_, HC.out.fresh ?_⟩, h1.row⟩
      · have := HI.out.2.1; omega
      · have := HI.out.2.2.1; omega
    have hok4 : OkS (F.set J (newB x)) last X := by
      have h1 := HC.out.ok
      refine ⟨h1.img.set J (newB_ok ?_ HR.out.2.1), h1.ims, h1.inc, h1.few, h1.last⟩
      rw [HR.out.1]; exact hn32
    have HCh := Lib.hid (change_any w4 gd gp gb gr gs k G B N (N + 1) s L b0 F last X (HC.out.later hb4) g' last n0 c0 a0 _ X hsta4 HNC.out hok4)
    unfold stV at HCh
    clear himg4 hs4 hb4 hob4 hsta4 hok4 y0 HW hq1
    go_wp2_with fail
    refine HCh.out.mono ?_
    rintro e w5 ⟨E, rfl, hch⟩
    have HE := Lib.hid hch
    clear hch z0 z1 z2
    go_wp2
    go_ret
    refine .inr ⟨by omega, by omega, HJ.out.2, E, rfl, ?_⟩
    rw [Int.toNat_natCast]
    exact HE.out.from HB4.out

end Go.Proofs.YtaijjogjohbheaaGreat

/- A state read of its bytes. -/
namespace Go.Proofs.YtaijjogjohbheaaGreat
open Go.RowKit
set_option maxRecDepth 100000
set_option linter.unusedSimpArgs false

theorem OwnY.saveX {w w' : World} {X : List Nat} {base : Nat} {v : Value} {L : List (Nat × Nat)} (h : OwnY w base v L) (hs : Save X w w') (hX : ∀ k ∈ X, k < base) : OwnY w' base v L := by
  refine ⟨h.1, ?_⟩
  rcases h.2 with h1 | ⟨g, cap, cur, hv, hbg, hgo, rest⟩
  · exact .inl h1
  · exact .inr ⟨g, cap, cur, hv, hbg, (hs.block g (lt_of_block hgo) (fun hm => by have := hX g hm; omega)).trans hgo, rest⟩

theorem OwnY.alloc' {w : World} {base : Nat} {v : Value} {L : List (Nat × Nat)} (h : OwnY w base v L) (o : Obj) : OwnY (w.alloc o) base v L := World.ownsRow.alloc h o

theorem box_2 {w : World} {q : Nat} {x y z z' : Value} {T : TypeId} (h : w.heap[q]? = some (.cells #[x, y, z] T (0, 0))) : w.setCell ⟨q, 2, none⟩ z' = put w q (.cells #[x, y, z'] T (0, 0)) := by
  rw [set_put _ h]
  rfl

theorem OwnY.put_ {w : World} {base q : Nat} {v : Value} {L : List (Nat × Nat)} (h : OwnY w base v L) (hq : q < base) (o : Obj) : OwnY (put w q o) base v L :=
  h.saveX ((Save.refl [q] w).put (g := q) (by simp) o) (by simp; exact hq)

theorem Rdr.low {w : World} {T g E : Nat} {l : List Nat} (h : Rdr w T g E l) : g < w.heap.size := by
  obtain ⟨a, n, c, hg, _⟩ := h
  exact lt_of_block hg

theorem Rdr.later {w w' : World} {T g E : Nat} {l : List Nat} (h : Rdr w T g E l) (hb : Below w.heap.size w w') : Rdr w' T g E l := (h.hi.below hb).rdr

theorem RdrHi.up {w : World} {T g E B B' : Nat} {l : List Nat} (h : RdrHi w T g E l B) (hB : B ≤ B') : RdrHi w T g E l B' := by
  obtain ⟨a, n, c, h1, h2, h3, h4, h5, h6⟩ := h
  exact ⟨a, n, c, h1, h2, h3, h4, by omega, fun b o e hn => Nat.lt_of_lt_of_le (h6 b o e hn) hB⟩

/-- A number read of its own bytes. -/
theorem numOk (w : World) (g x most : Nat) (r : List Nat) (hx : x ≤ 10000) (hm : x ≤ most) (m : Int) (hmm : m = (most : Int)) (B : Nat) (h : RdrHi w 150 g 0 (vEnc x ++ r) B) :
    Calls Tryz.prog 48 #[.pointer (some ⟨g, 0, none⟩), .int .u64 m] w fun e w' => e = .returned (.int .u64 (x : Int)) ∧ RdrHi w' 150 g 0 r B ∧ Save [g] w w' := by
  subst hmm
  have h1 := numberHi_any w g 0 _ most B h
  rw [rNum_put' x r most (by omega) hm] at h1
  refine h1.mono ?_
  rintro e w' ⟨rfl, h2, h3⟩
  exact ⟨rfl, h2, save_grown h3⟩

/-- An image read of its own bytes. -/
theorem imgOk (w : World) (V : List Nat) (g : Nat) (F : List (List Nat)) (r : List Nat) (hF : okF F) (hr : ∀ y ∈ r, y < 256) (hV : ∀ k ∈ V, k < w.heap.size) (B : Nat) (hB : B ≤ w.heap.size) (h : RdrHi w 150 g 0 (iEnc F ++ r) B) :
    Calls Tryz.prog 47 #[.pointer (some ⟨g, 0, none⟩)] w fun e w' => ∃ g', e = .returned (.tuple #[.pointer (some ⟨g', 0, none⟩), .int .i64 0]) ∧ ImgV w' V 300 g' F ∧ RdrHi w' 150 g 0 r B ∧ Save [g] w w' := by
  obtain ⟨e1, e2, e3⟩ := iEnc_read hF r
  have h1 := imgReadHi_any w g B _ h hB (by
    intro y hy
    rcases List.mem_append.1 hy with hy | hy
    · exact iEnc_byte hF y hy
    · exact hr y hy)
  rw [e1, e2, e3] at h1
  refine h1.mono ?_
  rintro e w' ⟨⟨hs, ⟨h2, _⟩ | ⟨_, g', b', q, hq, hg, hb, rfl, hi⟩⟩, hrd⟩
  · exact absurd rfl h2
  · exact ⟨g', rfl, ⟨b', q, hi, hq, fun hm => by have := hV _ hm; omega, fun hm => by have := hV _ hm; omega⟩, hrd, hs⟩

theorem xEnc_drop {X : List (Nat × List (List Nat))} {j : Nat} (h : j < X.length) : xEnc (X.drop j) = vEnc (X.getD j default).1 ++ (iEnc (X.getD j default).2 ++ xEnc (X.drop (j + 1))) := by
  have e : X.getD j default = X[j] := by simp [List.getD, h]
  rw [List.drop_eq_getElem_cons h, xEnc_cons, e]

theorem size_st : (Tryz.prog.info? 76).map (·.size) = some 3 := by kernel_rfl

/-- A result that lies in a cell: a state. -/
theorem ret_st_tmp {fn : Func} {p g u : Nat} {cs : Array Value} {w : World} {tmps : Array Value} (hr : fn.results = #[.cell p 76, .tmp u]) (ht : tmps.getD p undef = .pointer (some ⟨g, 0, none⟩)) (hg : w.heap[g]? = some (.cells cs 76 (0, 0))) (hs : cs.size = 3) :
    (results fn tmps).run Tryz.prog w = .ok (.tuple #[.agg cs, tmps.getD u undef]) w := by
  rw [results_cell_tmp' hr, ht]
  simp only [asAddr, Sem.run_pure, Result.andThen]
  rw [run_loadVar_row w g _ 76 _ _ _ hg Tryz.underlying76 rfl (by rw [size_st, hs])]

theorem box_all {w : World} {q : Nat} {x y z x' y' z' : Value} {T : TypeId} (h : w.heap[q]? = some (.cells #[x, y, z] T (0, 0))) :
    ((w.setCell ⟨q, 0, none⟩ x').setCell ⟨q, 1, none⟩ y').setCell ⟨q, 2, none⟩ z' = put w q (.cells #[x', y', z'] T (0, 0)) := by
  rw [set_put _ h]
  simp only [List.setIfInBounds_toArray, List.set_cons_succ, List.set_cons_zero]
  rw [set_put _ (put_same h)]
  simp only [List.setIfInBounds_toArray, List.set_cons_succ, List.set_cons_zero, put_put]
  rw [set_put _ (put_same h)]
  simp only [List.setIfInBounds_toArray, List.set_cons_succ, List.set_cons_zero, put_put]

/-- What the loop of read keeps. -/
structure RdSt (w : World) (V : List Nat) (g q base gi last j ab : Nat) (F : List (List Nat)) (X : List (Nat × List (List Nat))) (wr : World) : Prop where
  rdr : RdrHi wr 150 g 0 (xEnc (X.drop j)) base
  row : ∃ (T : List Sn) (a : Option Addr) (n c : Nat), T.map tX = X.take j ∧ OwnY wr base (.slice a n c) (T.map tY) ∧ n = j ∧ (∀ t ∈ T, ImgV wr (g :: q :: V) 300 t.2.1 t.2.2) ∧ wr.heap[q]? = some (.cells #[.pointer (some ⟨gi, 0, none⟩), .int .i64 (last : Int), .slice a n c] 76 (0, 0))
  img : ImgV wr (g :: q :: V) 300 gi F
  bel : Below w.heap.size w wr
  lo : w.heap.size ≤ g ∧ g < base ∧ w.heap.size ≤ q ∧ q < base ∧ q ≠ g ∧ base ≤ wr.heap.size
  abv : ∀ k, j ≤ k → k < X.length → ab < (X.getD k default).1

set_option maxHeartbeats 4000000 in
theorem read_state (w : World) (a : Option Addr) (n c : Nat) (V : List Nat) (F : List (List Nat)) (last : Nat) (X : List (Nat × List (List Nat))) (h : Rd w a n (sEnc F last X)) (hn : n ≤ 1000000) (hok : OkS F last X) (hV : ∀ k ∈ V, k < w.heap.size) :
    Calls Tryz.prog 24 #[.slice a n c] w fun e w' => ∃ gi a' n' c', e = .returned (.tuple #[stV gi last a' n' c', .int .i64 0]) ∧ n' ≤ c' ∧ Sta w' V 300 gi a' n' F X ∧ Below w.heap.size w w' := by
  obtain ⟨i0, hi0, hz0, hz1, hz2⟩ := info_parts info_snap
  have HOk := Lib.hid hok
  have HV := Lib.hid hV
  have HR := Lib.hid h
  have hlast := hok.last
  have hfew := hok.few
  obtain ⟨xl, hxl⟩ : ∃ xl, xl = X.length := ⟨_, rfl⟩
  have hx32 : xl ≤ 32 := by omega
  have HXL := Lib.hid hxl
  have hwl : IntKind.i64.wrap (last : Int) = (last : Int) := by rw [IntKind.wrap_i64] <;> omega
  have hwl2 : IntKind.u64.wrap (last : Int) = (last : Int) := by rw [IntKind.wrap_u64]; omega
  clear h hok hV hxl hfew
  go_enter Tryz.func24, Tryz.ntmps24
  go_upto_region 1 with fail
  obtain ⟨w0, hw0⟩ : ∃ w0, w0 = w.alloc (.cells #[.pointer none, .int .i64 0, .slice none 0 0] 76) := ⟨_, rfl⟩
  obtain ⟨p2, hp2⟩ : ∃ p2, p2 = w.heap.size := ⟨_, rfl⟩
  rw [← hw0, ← hp2]
  have HB0 : Hid (Below w.heap.size w w0) := Lib.hid (by rw [hw0]; exact Below.alloc0 _ _)
  have HP2 : Hid (w0.heap[p2]? = some (.cells #[.pointer none, .int .i64 0, .slice none 0 0] 76 (0, 0)) ∧ w0.heap.size = p2 + 1 ∧ p2 = w.heap.size) := Lib.hid (by rw [hw0, hp2]; exact ⟨heap_alloc_new _ _, by simp, rfl⟩)
  clear hw0 hp2
  have HOp := Lib.hid (open_any a n c _ w0 (HR.out.later HB0.out) hn)
  go_wp2_with fail
  refine HOp.out.mono ?_
  rintro e w1 ⟨g, rfl, hg, hrd1, hb1⟩
  obtain ⟨R1, hR1⟩ : ∃ R1, R1 = vEnc last ++ (vEnc X.length ++ xEnc X) := ⟨_, rfl⟩
  have hbR : ∀ y ∈ R1, y < 256 := fun y hy => HOk.out.byte y (by unfold sEnc; rw [← hR1]; exact List.mem_append_right _ hy)
  have hrd1' : RdrHi w1 150 g 0 (iEnc F ++ R1) w1.heap.size := by rw [hR1]; exact hrd1.hi
  have hgl : g < w1.heap.size := hrd1.low
  have HI := Lib.hid (imgOk w1 (g :: V) g F R1 HOk.out.img hbR (by
    intro k hk
    rcases List.mem_cons.1 hk with rfl | hk
    · exact hgl
    · have h1 := HV.out k hk
      have h2 := HB0.out.size
      have h3 := hb1.size
      omega) w1.heap.size (Nat.le_refl _) hrd1')
  have HB1 := Lib.hid hb1
  have HG := Lib.hid hg
  have HR1 := Lib.hid hR1
  have HGL := Lib.hid hgl
  clear hg hrd1 hb1 hR1 hbR hrd1' hgl HOp
  go_wp2_with fail
  refine HI.out.mono ?_
  rintro e w2 ⟨gi, rfl, himg2, hrd2, hs2⟩
  rw [HR1.out] at hrd2
  have HN1 := Lib.hid (numOk w2 g last 9223372036854775807 _ (by omega) (by omega) 9223372036854775807 rfl w1.heap.size hrd2)
  have HI2 := Lib.hid himg2
  have HS2 := Lib.hid hs2
  clear himg2 hrd2 hs2 HI
  go_wp2_with fail
  refine HN1.out.mono ?_
  rintro e w3 ⟨rfl, hrd3, hs3⟩
  have HI3 := Lib.hid (HI2.out.save hs3 (by simp))
  have HS3 := Lib.hid (HS2.out.trans hs3)
  have HR3 := Lib.hid hrd3
  clear hrd3 hs3 HN1
  go_upto_region 7 with fail
  obtain ⟨w4, hw4⟩ : ∃ w4, w4 = w3.alloc (.cells #[.pointer (some ⟨gi, 0, none⟩), .int .i64 (last : Int), .slice none 0 0] 76) := ⟨_, rfl⟩
  obtain ⟨q, hq⟩ : ∃ q, q = w3.heap.size := ⟨_, rfl⟩
  rw [← hw4, ← hq]
  have HB4 : Hid (Below w3.heap.size w3 w4) := Lib.hid (by rw [hw4]; exact Below.alloc0 _ _)
  have HQ4 : Hid (w4.heap[q]? = some (.cells #[.pointer (some ⟨gi, 0, none⟩), .int .i64 (last : Int), .slice none 0 0] 76 (0, 0)) ∧ w4.heap.size = q + 1 ∧ q = w3.heap.size) := Lib.hid (by rw [hw4, hq]; exact ⟨heap_alloc_new _ _, by simp, rfl⟩)
  clear hw4 hq
  have HN2 := Lib.hid (numOk w4 g X.length 32 _ (by have := HXL.out; omega) (by have := HXL.out; omega) 32 rfl w1.heap.size (HR3.out.below (HB4.out.mono HS3.out.size)))
  rw [← HXL.out] at HN2
  go_wp2_with fail
  refine HN2.out.mono ?_
  rintro e w5 ⟨rfl, hrd5, hs5⟩
  have HST : Hid (RdSt w0 V g q (q + 1) gi last 0 0 F X w5) := by
    have h1 := HG.out
    have h2 := HGL.out
    have h3 := HS3.out.size
    have h4 := HQ4.out
    have h5 := hs5.size
    have h6 := HB1.out.size
    have hb : Below w0.heap.size w0 w5 := (HB1.out.trans (HS3.out.below h6 (by simp; omega))).trans ((HB4.out.mono (by omega)).trans (hs5.below (by omega) (by simp; omega)))
    refine Lib.hid ⟨by simpa using hrd5.up (by omega), ⟨[], none, 0, 0, by simp, by simpa using OwnY.nil _ _, rfl, by simp, ?_⟩, ?_, hb, ⟨h1, by omega, by omega, by omega, by omega, by omega⟩, ?_⟩
    · exact (hs5.block q (lt_of_block h4.1) (by simp; omega)).trans h4.1
    · have i4 : ImgV w4 (g :: V) 300 gi F := HI3.out.save (Save.of_below HB4.out []) (by simp)
      have i4' : ImgV w4 (g :: q :: V) 300 gi F := by
        have i3 : ImgV w3 (g :: q :: V) 300 gi F := HI3.out.fresh (fun k hk hlt => by
          simp only [List.mem_cons] at hk ⊢
          rcases hk with rfl | rfl | hk
          · exact .inl rfl
          · omega
          · exact .inr hk)
        exact i3.save (Save.of_below HB4.out []) (by simp)
      exact i4'.save hs5 (by simp)
    · intro k _ hk
      have hm : X.getD k default ∈ X := by
        have : X.getD k default = X[k] := by simp [List.getD, hk]
        rw [this]; exact List.getElem_mem hk
      have := (HOk.out.ims _ hm).2.1
      omega
  clear hrd5 hs5 HN2
  go_wp2
  go_loopg [8, 31] xl (fun gk v8 v31 wr => ∃ j ab : Nat, gk = xl - j ∧ j ≤ xl ∧ v8 = .int .i64 (ab : Int) ∧ v31 = .int .u64 (j : Int) ∧ Hid (RdSt w0 V g q (q + 1) gi last j ab F X wr))
  case atStart => exact ⟨0, 0, rfl, Nat.zero_le _, rfl, rfl, HST⟩
  case round =>
    obtain ⟨j, ab, hgk, hj, rfl, rfl, HJ⟩ := hrel
    have HGK := Lib.hid hgk
    clear hgk
    by_cases hlt : j < xl
    · have hjX : j < X.length := by have := HXL.out; omega
      have hm : X.getD j default ∈ X := by
        have : X.getD j default = X[j] := by simp [List.getD, hjX]
        rw [this]; exact List.getElem_mem hjX
      have hxd := xEnc_drop hjX
      have hav := HJ.out.abv j (Nat.le_refl _) hjX
      have hrd := HJ.out.rdr
      rw [hxd] at hrd
      have hbt : ∀ y ∈ xEnc (X.drop (j + 1)), y < 256 := xEnc_byte (last := last) fun p hp => HOk.out.ims p (List.mem_of_mem_drop hp)
      have hpk := HOk.out.ims _ hm
      have hnx : ∀ k, j + 1 ≤ k → k < X.length → (X.getD j default).1 < (X.getD k default).1 := fun k h1 h2 => by
        have := List.pairwise_iff_getElem.1 HOk.out.inc j k hjX h2 (by omega)
        have e1 : X.getD j default = X[j] := by simp [List.getD, hjX]
        have e2 : X.getD k default = X[k] := by simp [List.getD, h2]
        rw [e1, e2]
        exact this
      have htk : X.take (j + 1) = X.take j ++ [X.getD j default] := by
        rw [List.take_succ_eq_append_getElem hjX]
        congr 2
        simp [List.getD, hjX]
      obtain ⟨pp, hpp⟩ : ∃ pp, pp = X.getD j default := ⟨_, rfl⟩
      rw [← hpp] at hrd hav hpk hnx htk
      obtain ⟨p, G⟩ := pp
      simp only at hrd hav hpk hnx
      have HNX := Lib.hid hnx
      have HTK := Lib.hid htk
      have HPk := Lib.hid hpk
      have HBt := Lib.hid hbt
      have hp1 : p ≤ last := hpk.2.2
      obtain ⟨R2, hR2⟩ : ∃ R2, R2 = xEnc (X.drop (j + 1)) := ⟨_, rfl⟩
      rw [← hR2] at hrd HBt
      have HR2 := Lib.hid hR2
      obtain ⟨T, va, vn, vc, hT, ho, hvn, hTi, hbx⟩ := HJ.out.row
      have HT := Lib.hid (And.intro hT hTi)
      have HVN := Lib.hid hvn
      have HO := Lib.hid ho
      have HBX := Lib.hid hbx
      have c1 : wr.cell? ⟨q, 1, none⟩ = some (.int .i64 (last : Int)) := by simp [World.cell?, hbx]
      have HNp := Lib.hid (numOk wr g p last _ (by omega) hp1 (last : Int) rfl (q + 1) hrd)
      have HJ2 := Lib.hid HJ.out.img
      have HJ3 := Lib.hid (And.intro HJ.out.bel HJ.out.lo)
      have hwp : IntKind.i64.wrap (p : Int) = (p : Int) := by rw [IntKind.wrap_i64] <;> omega
      have hle : ¬ (p : Int) ≤ (ab : Int) := by omega
      have hle2 : decide (p ≤ ab) = false := by simp; omega
      have hle3 : ab < p := hav
      clear hm hxd hav hrd hbt hpk hnx htk hpp hR2 hT ho hvn hTi hbx HJ
      go_wp2_with fail
      refine HNp.out.mono ?_
      rintro e wa ⟨rfl, hrda, hsa⟩
      obtain ⟨hbel, hlo1, hlo2, hlo3, hlo4, hlo5, hlo6⟩ := HJ3.out
      have HIa := Lib.hid (imgOk wa (g :: q :: V) g G R2 HPk.out.1 HBt.out (by
        intro k hk
        have h5 := hsa.size
        have h6 := HB0.out.size
        have h7 := HP2.out
        simp only [List.mem_cons] at hk
        rcases hk with rfl | rfl | hk
        · omega
        · omega
        · have := HV.out k hk; omega) (q + 1) (Nat.le_trans hlo6 hsa.size) hrda)
      have HSa := Lib.hid hsa
      clear hrda hsa HNp c1 hbel hlo1 hlo2 hlo3 hlo4 hlo5 hlo6
      go_wp2_with fail
      refine HIa.out.mono ?_
      rintro e wb ⟨g', rfl, himg, hrdb, hsb⟩
      have hsr := HSa.out.trans hsb
      have HSr := Lib.hid hsr
      have HIb := Lib.hid himg
      have HRb := Lib.hid hrdb
      have hbxb : wb.heap[q]? = some (.cells #[.pointer (some ⟨gi, 0, none⟩), .int .i64 (last : Int), .slice va vn vc] 76 (0, 0)) := (hsr.block q (lt_of_block HBX.out) (by have := HJ3.out.2.2.2.2.2.1; simp; exact this)).trans HBX.out
      have HBXb := Lib.hid hbxb
      have c2 : wb.cell? ⟨q, 2, none⟩ = some (.slice va vn vc) := by simp [World.cell?, hbxb]
      have HOb := Lib.hid (HO.out.saveX hsr (by have := HJ3.out.2.2.1; simp; exact this))
      have hTl32 : (T.map tY).length ≤ 32 := by
        have h1 : T.length = (X.take j).length := by rw [← HT.out.1, List.length_map]
        rw [List.length_map, h1, List.length_take]
        omega
      have HSZ : Hid (q + 1 ≤ wb.heap.size) := Lib.hid (Nat.le_trans HJ3.out.2.2.2.2.2.2 hsr.size)
      clear himg hrdb hsb hsr hbxb HIa HSa
      go_wp2_with (at_builtin; have _t := hlt; refine wpList_append_own_at _ rfl (.tmp 54) (.tmp 58) 74 rfl (q + 1) 98 i0 _ 2 16 Tryz.underlying74 hi0 hz0 hz1 hz2 rfl (by omega) (.slice va vn vc) (T.map tY).length (cY (T.map tY)) rfl (HOb.out.alloc' _) ⟨wb.heap.size, 0, none⟩ 1 1 (cY [(p, g')]) rfl ?hlen (World.news_of_block (cs := #[.int .i64 (p : Int), .pointer (some ⟨g', 0, none⟩)]) (t := 98) (fr := (0, 0)) (heap_alloc_new wb _)) ?one ?h63 ?hby ?hbase ?next)
      case hlen => rfl
      case one => exact cY_one _
      case h63 => unfold maxLen; omega
      case hby => omega
      case hbase => have := HSZ.out; simp; omega
      case next =>
        intro v' w' hown hgr _ _
        have ho' : OwnY w' (q + 1) v' (T.map tY ++ [(p, g')]) := OwnY.of_append rfl (by rw [List.length_map]; exact hown)
        have hkeep : ∀ k, k < q + 1 → w'.heap[k]? = wb.heap[k]? := fun k hk => by
          have h0 := HSZ.out
          refine (hgr.block k (by simp; omega) (fun e => ?_)).trans (heap_alloc_old wb _ (by omega))
          have := (World.ownsRow.lt HOb.out k e.symm).1
          omega
        have hb' : Below (q + 1) wb w' := ((Below.refl _ _).alloc HSZ.out _).grown hgr (by have := HSZ.out; simp; omega) (fun k hk => (World.ownsRow.lt HOb.out k hk).1)
        obtain ⟨a8, k8, hv8, _⟩ := ho'.rd
        obtain ⟨nl, hnl⟩ : ∃ nl, nl = (T.map tY ++ [(p, g')]).length := ⟨_, rfl⟩
        rw [← hnl] at hv8
        subst hv8
        have hbx8 : w'.heap[q]? = some (.cells #[.pointer (some ⟨gi, 0, none⟩), .int .i64 (last : Int), .slice va vn vc] 76 (0, 0)) := (hkeep q (by omega)).trans HBXb.out
        have HNEXT : Hid (RdSt w0 V g q (q + 1) gi last (j + 1) p F X (put w' q (.cells #[.pointer (some ⟨gi, 0, none⟩), .int .i64 (last : Int), Value.slice a8 nl k8] 76 (0, 0)))) := by
          obtain ⟨hbel, hlo1, hlo2, hlo3, hlo4, hlo5, hlo6⟩ := HJ3.out
          have hszb := HSZ.out
          have hsz' : wb.heap.size ≤ w'.heap.size := hb'.size
          have hgw : g < w'.heap.size := by omega
          have hsw : Save [q] w' (put w' q (.cells #[.pointer (some ⟨gi, 0, none⟩), .int .i64 (last : Int), Value.slice a8 nl k8] 76 (0, 0))) := (Save.refl [q] w').put (g := q) (by simp) _
          have hcut : ∀ k, k < wb.heap.size → (some k ≠ (Value.slice va vn vc).ownBlock) → w'.heap[k]? = wb.heap[k]? := fun k hk hne => (hgr.block k (by simp; omega) hne).trans (heap_alloc_old wb _ hk)
          have himgk : ∀ g0 F0, ImgV wb (g :: q :: V) 300 g0 F0 → ImgV w' (g :: q :: V) 300 g0 F0 := by
            rintro g0 F0 ⟨b0, n0, h1, h2, h3, h4⟩
            have hne : ∀ k, (∃ cs ty, wb.heap[k]? = some (.cells cs ty (0, 0)) ∧ ty = 132) ∨ (∃ es cl, wb.heap[k]? = some (.map es cl)) → (some k ≠ (Value.slice va vn vc).ownBlock) := by
              intro k hk e
              obtain ⟨cur, hc⟩ : ∃ cur, wb.heap[k]? = some (.cells cur 98 (0, 0)) := by
                rcases HOb.out.2 with ⟨hv, _⟩ | ⟨g9, cap, cur, hv, _, hgo, _⟩
                · rw [hv] at e; cases e
                · rw [hv] at e
                  injection e with e
                  subst e
                  exact ⟨cur, hgo⟩
              rcases hk with ⟨cs, ty, hk, hty⟩ | ⟨es, cl, hk⟩
              · rw [hc] at hk
                injection hk with hk
                injection hk with _ hk
                rw [hty] at hk
                exact absurd hk (by decide)
              · rw [hc] at hk; cases hk
            have k1 := hcut g0 h1.lt (hne g0 (.inl ⟨_, _, h1.blk, rfl⟩))
            have k2 := hcut b0 h1.map.lt (hne b0 (.inr h1.map.map))
            exact ⟨b0, n0, ⟨k1.trans h1.blk, h1.map.kept k2, h1.ok⟩, h2, h3, h4⟩
          have hall : ∀ g0 F0, ImgV wr (g :: q :: V) 300 g0 F0 → ImgV (put w' q (.cells #[.pointer (some ⟨gi, 0, none⟩), .int .i64 (last : Int), Value.slice a8 nl k8] 76 (0, 0))) (g :: q :: V) 300 g0 F0 := fun g0 F0 hi =>
            (himgk g0 F0 (hi.save HSr.out (by simp))).save hsw (by simp)
          have hrow8 := ho'.put_ (q := q) (by omega) (.cells #[.pointer (some ⟨gi, 0, none⟩), .int .i64 (last : Int), Value.slice a8 nl k8] 76 (0, 0))
          have hrdw : RdrHi w' 150 g 0 R2 (q + 1) := HRb.out.below hb'
          have hrdp : RdrHi (put w' q (.cells #[.pointer (some ⟨gi, 0, none⟩), .int .i64 (last : Int), Value.slice a8 nl k8] 76 (0, 0))) 150 g 0 R2 (q + 1) := by
            obtain ⟨ra, rn, rc, k1, k2, k3, k4, k5, k6⟩ := hrdw
            refine ⟨ra, rn, rc, (put_other (by omega)).trans k1, k2.saveIf hsw (fun hn b o e => ?_), k3, k4, k5, k6⟩
            intro hbq
            simp only [List.mem_cons, List.not_mem_nil, or_false] at hbq
            subst hbq
            obtain ⟨b', o', e', hc⟩ := k2.2.2 hn
            rw [e] at e'
            injection e' with e'
            injection e' with e1 e2
            subst e1
            have h9 := hc 0 hn
            rw [cell_of_row w' b _ _ _ _ hbx8] at h9
            rcases Nat.lt_or_ge (o' + 0) 3 with h3 | h3
            · rcases (by omega : o' + 0 = 0 ∨ o' + 0 = 1 ∨ o' + 0 = 2) with h4 | h4 | h4 <;> rw [h4] at h9 <;> simp at h9
            · rw [Array.getElem?_eq_none (by simp; omega)] at h9
              cases h9
          have hlT : T.length = j := by
            have h1 : T.length = (X.take j).length := by rw [← HT.out.1, List.length_map]
            rw [h1, List.length_take]; omega
          have eT : (T ++ [(p, g', G)]).map tY = T.map tY ++ [(p, g')] := by simp [tY]
          refine Lib.hid ⟨by rw [← HR2.out]; exact hrdp, ⟨T ++ [(p, g', G)], a8, nl, k8, ?_, ?_, ?_, fun t ht => ?_, ?_⟩, hall gi F HJ2.out, ?_, ⟨hlo1, hlo2, hlo3, hlo4, hlo5, ?_⟩, HNX.out⟩
          · rw [List.map_append, HT.out.1, HTK.out]; rfl
          · rw [eT]; exact hrow8
          · rw [hnl]; simp [hlT]
          · rcases List.mem_append.1 ht with ht | ht
            · exact hall _ _ (HT.out.2 t ht)
            · simp only [List.mem_singleton] at ht
              subst ht
              exact (himgk g' G HIb.out).save hsw (by simp)
          · exact put_same hbx8
          · have hb2 : Below w0.heap.size wr wb := HSr.out.below hbel.size (by simp; omega)
            exact (hbel.trans hb2).trans ((hb'.mono (by omega)).trans (put_below _ (by omega)))
          · rw [put_size]; omega
        have HX8 := Lib.hid hbx8
        have c8 : w'.cell? ⟨q, 2, none⟩ = some (.slice va vn vc) := by simp [World.cell?, hbx8]
        have f8 : w'.frozen? ⟨q, 2, none⟩ = false := by simp [World.frozen?, hbx8]
        clear ho' hkeep hb' hbx8 hown hgr hnl
        go_wp2
        go_roundg (xl - (j + 1))
        case measure => have := HGK.out; omega
        case rel => exact ⟨j + 1, p, rfl, by omega, rfl, by go_num, by rw [box_2 HX8.out]; exact HNEXT⟩
    · obtain rfl : j = xl := by omega
      have hnil : xEnc (X.drop j) = [] := by rw [List.drop_eq_nil_of_le (by have := HXL.out; omega)]; rfl
      have hrd := HJ.out.rdr.rdr
      rw [hnil] at hrd
      have HEn := Lib.hid (end_any wr g 0 [] hrd)
      rw [show rEnd 0 [] = 0 from rfl] at HEn
      obtain ⟨T, va, vn, vc, hT, ho, hvn, hTi, hbx⟩ := HJ.out.row
      have hp2r : wr.heap[p2]? = some (.cells #[.pointer none, .int .i64 0, .slice none 0 0] 76 (0, 0)) := (HJ.out.bel.block p2 (by have := HP2.out; omega)).trans HP2.out.1
      have HP2r := Lib.hid hp2r
      have c0 : wr.cell? ⟨q, 0, none⟩ = some (.pointer (some ⟨gi, 0, none⟩)) := by simp [World.cell?, hbx]
      have c1 : wr.cell? ⟨q, 1, none⟩ = some (.int .i64 (last : Int)) := by simp [World.cell?, hbx]
      have c2 : wr.cell? ⟨q, 2, none⟩ = some (.slice va vn vc) := by simp [World.cell?, hbx]
      have p0 : wr.cell? ⟨p2, 0, none⟩ = some (.pointer none) := by simp [World.cell?, hp2r]
      have p1 : wr.cell? ⟨p2, 1, none⟩ = some (.int .i64 0) := by simp [World.cell?, hp2r]
      have p22 : wr.cell? ⟨p2, 2, none⟩ = some (.slice none 0 0) := by simp [World.cell?, hp2r]
      have pf : ∀ i, wr.frozen? ⟨p2, i, none⟩ = false := fun i => by simp [World.frozen?, hp2r]
      have HRow := Lib.hid (And.intro hT (And.intro ho (And.intro hvn hTi)))
      have HEnd := Lib.hid (And.intro HJ.out.img (And.intro HJ.out.bel HJ.out.lo))
      clear hnil hrd hT ho hvn hTi hbx hp2r HJ
      go_wp2_with fail
      refine HEn.out.mono ?_
      rintro e wz ⟨rfl, rfl⟩
      go_wp2
      rw [box_all HP2r.out]
      refine bodyPost_ret (v := .tuple #[stV gi last va vn vc, .int .i64 0]) ?_ rfl ?_
      · exact ret_st_tmp (p := 2) (u := 3) (g := p2) rfl rfl (put_same HP2r.out) rfl
      · obtain ⟨hT, ho, hvn, hTi⟩ := HRow.out
        obtain ⟨himg, hbel, hlo1, hlo2, hlo3, hlo4, hlo5, hlo6⟩ := HEnd.out
        have hp := HP2.out
        have hsw : Save [p2] wr (put wr p2 (.cells #[.pointer (some ⟨gi, 0, none⟩), .int .i64 (last : Int), .slice va vn vc] 76 (0, 0))) := (Save.refl [p2] wr).put (g := p2) (by simp) _
        obtain ⟨a9, c9, hv9, hr9, hc9, hl9⟩ := ho.rd
        injection hv9 with e1 e2 e3
        subst e1
        subst e3
        rw [← e2] at hr9 hc9
        have hkind : ∀ g0 F0, ImgV wr (g :: q :: V) 300 g0 F0 → ImgV (put wr p2 (.cells #[.pointer (some ⟨gi, 0, none⟩), .int .i64 (last : Int), .slice va vn vc] 76 (0, 0))) V 300 g0 F0 := by
          rintro g0 F0 ⟨b0, n0, h1, h2, h3, h4⟩
          have hne : g0 ≠ p2 ∧ b0 ≠ p2 := by
            constructor
            · rintro rfl
              have := h1.blk
              rw [HP2r.out] at this
              injection this with this
              injection this with this
              simp at this
            · rintro rfl
              obtain ⟨es, cl, hm⟩ := h1.map.map
              rw [HP2r.out] at hm
              cases hm
          refine ⟨b0, n0, h1.save hsw (by simpa using hne.1) (by simpa using hne.2), h2, fun hm => h3 (by simp [hm]), fun hm => h4 (by simp [hm])⟩
        refine ⟨gi, va, vn, vc, rfl, hc9, ⟨hkind gi F himg, T, ?_, ?_, fun t ht => hkind _ _ (hTi t ht), fun hn b o e hb => ?_⟩, ?_⟩
        · rw [hT, List.take_of_length_le (by have := HXL.out; omega)]
        · refine hr9.save hsw (fun hn b o e => ?_)
          have := (hl9 b o e).1
          simp
          omega
        · have h1 := (hl9 b o e).1
          have h2 := HV.out b hb
          omega
        · exact (HB0.out.trans (hbel.mono HB0.out.size)).trans (put_below _ (by omega))

end Go.Proofs.YtaijjogjohbheaaGreat

/- A store's Create. -/
namespace Go.Proofs.YtaijjogjohbheaaGreat
open Go.RowKit
set_option maxRecDepth 100000
set_option linter.unusedSimpArgs false

theorem create_nil (w : World) : Calls Tryz.prog 17 #[.pointer none] w fun e w' => e = .returned (.tuple #[.int .i64 0, .int .i64 1]) ∧ w' = w := by
  go_enter Tryz.func17, Tryz.ntmps17
  go_wp2
  go_ret2
  exact ⟨rfl, rfl⟩

theorem OwnY.alloc {w : World} {base : Nat} {v : Value} {L : List (Nat × Nat)} (h : OwnY w base v L) (o : Obj) : OwnY (w.alloc o) base v L := World.ownsRow.alloc h o

theorem box2 {w : World} {q : Nat} {x y z z' : Value} {T : TypeId} (h : w.heap[q]? = some (.cells #[x, y, z] T (0, 0))) : w.setCell ⟨q, 2, none⟩ z' = put w q (.cells #[x, y, z'] T (0, 0)) := by
  rw [set_put _ h]
  rfl

theorem ready_mk {P : Program} {o : Oper} {a : Act} {w w' : World} {K : Act → World → Prop} {Q : Exit → Act → World → Prop} {v : Value} {c : Prop} [Decidable c]
    (hw : c) (hx : (execOp a.eval o).run P w = .ok (.value v) w') (hc : K (a.put o.dst v) w') : if c then Oper.wp P o a w K Q else K (a.put o.dst undef) w := by
  rw [if_pos hw, Oper.wp, hx, Oper.upon_value]
  exact hc

theorem ready_skp {P : Program} {o : Oper} {a : Act} {w w' : World} {K : Act → World → Prop} {Q : Exit → Act → World → Prop} {c : Prop} [Decidable c]
    (hw : c) (hx : (execOp a.eval o).run P w = .ok .skip w') (hc : K (a.put o.dst undef) w') : if c then Oper.wp P o a w K Q else K (a.put o.dst undef) w := by
  rw [if_pos hw, Oper.wp, hx, Oper.upon_skip]
  exact hc

theorem snaps_add {F : List (List Nat)} {last : Nat} {X : List (Nat × List (List Nat))} (h : OkS F last X) (hl : X.length < 32) (h9 : last < 9000) : OkS F (last + 1) (X ++ [(last + 1, F)]) := by
  refine ⟨h.img, fun p hp => ?_, ?_, by simp; omega, by omega⟩
  · rcases List.mem_append.1 hp with hp | hp
    · have := h.ims p hp
      exact ⟨this.1, this.2.1, by omega⟩
    · simp only [List.mem_singleton] at hp
      subst hp
      exact ⟨h.img, by simp, by simp⟩
  · rw [List.pairwise_append]
    refine ⟨h.inc, by simp, fun p hp q hq => ?_⟩
    simp only [List.mem_singleton] at hq
    subst hq
    have := (h.ims p hp).2.2
    simp only
    omega

set_option maxHeartbeats 8000000 in
theorem create_any (w : World) (gd gp gb gr gs k G B N : Nat) (s : Pw) (L b0 : List Nat) (F : List (List Nat)) (last : Nat) (X : List (Nat × List (List Nat))) (h : Ctx w gd gp gb gr gs k G B N s L b0 F last X) (h9 : last < 9000) :
    Calls Tryz.prog 17 #[.pointer (some ⟨gs, 0, none⟩)] w fun e w' =>
      (32 ≤ X.length ∧ e = .returned (.tuple #[.int .i64 0, .int .i64 7]) ∧ w' = w) ∨ (X.length < 32 ∧ ∃ E : Nat, e = .returned (.tuple #[.int .i64 (if E = 0 then ((last + 1 : Nat) : Int) else 0), .int .i64 (E : Int)]) ∧ ChP gd gp gb gr gs k G B N N s L b0 F last X F (last + 1) (X ++ [(last + 1, F)]) w E w') := by
  obtain ⟨i0, hi0, hz0, hz1, hz2⟩ := info_parts info_snap
  obtain ⟨gi, a0, n0, c0, hobj, hnc0, hsta⟩ := h.sto
  have hn := hsta.len
  have HC := Lib.hid h
  have HNC := Lib.hid hnc0
  have HSTA := Lib.hid hsta
  have HOB := Lib.hid hobj
  obtain ⟨d0, d1, d2, d3⟩ := sto_cells hobj
  have hgsl : gs < w.heap.size := lt_of_block hobj
  have HN := Lib.hid hn
  have hmx : ((last : Int) == 9223372036854775807) = false := beq_eq_false_iff_ne.2 (by omega)
  by_cases hful : 32 ≤ X.length
  · have hf : (32 : Int) ≤ (n0 : Int) := by omega
    have HF := Lib.hid hful
    clear h hnc0 hsta hobj hn hful
    go_enter Tryz.func17, Tryz.ntmps17
    go_wp2
    go_ret2
    exact .inl ⟨HF.out, rfl, rfl⟩
  · have hf : (n0 : Int) < 32 := by omega
    have hn32 : n0 < 32 := by omega
    have HF := Lib.hid hful
    have HGS := Lib.hid hgsl
    clear h hnc0 hsta hobj hn hful
    go_enter Tryz.func17, Tryz.ntmps17
    go_upto_region 7 with fail
    obtain ⟨w1, hw1⟩ : ∃ w1, w1 = w.alloc (.cells #[.pointer (some ⟨gi, 0, none⟩), .int .i64 ((last : Int) + 1), .slice a0 n0 c0] 76) := ⟨_, rfl⟩
    obtain ⟨q, hq⟩ : ∃ q, q = w.heap.size := ⟨_, rfl⟩
    rw [← hw1, ← hq]
    have hob : w1.heap[q]? = some (.cells #[.pointer (some ⟨gi, 0, none⟩), .int .i64 ((last : Int) + 1), .slice a0 n0 c0] 76 (0, 0)) := by rw [hw1, hq]; exact heap_alloc_new _ _
    have hbe : Below w.heap.size w w1 := by rw [hw1]; exact Below.alloc0 _ _
    have hs1 : w1.heap.size = q + 1 := by rw [hw1, hq]; simp
    have HBE := Lib.hid hbe
    have HQ := Lib.hid (And.intro hq hs1)
    have HOq := Lib.hid hob
    obtain ⟨T, hX, hRY, hT, hV⟩ := HSTA.out.row
    have HT := Lib.hid (And.intro hX (And.intro hT hV))
    have HRY := Lib.hid hRY
    have hTl : (T.map tY).length = n0 := hRY.1
    obtain ⟨Y, hY⟩ : ∃ Y, Y = T.map tY := ⟨_, rfl⟩
    rw [← hY] at HRY hTl
    have HY := Lib.hid hY
    have HS : Hid (∀ W, Below w1.heap.size w1 W → W.cell? ⟨gs, 1, none⟩ = some (.pointer (some ⟨gi, 0, none⟩)) ∧ W.cell? ⟨gs, 3, none⟩ = some (.slice a0 n0 c0) ∧ W.cell? ⟨q, 1, none⟩ = some (.int .i64 ((last : Int) + 1))) := by
      refine Lib.hid fun W hW => ?_
      have e := (hW.block q (lt_of_block HOq.out)).trans HOq.out
      have e2 := (hW.block gs (by have := HGS.out; have := HBE.out.size; omega)).trans ((HBE.out.block gs HGS.out).trans HOB.out)
      refine ⟨(sto_cells e2).2.1, (sto_cells e2).2.2.2, ?_⟩
      simp [World.cell?, e]
    have HQN : Hid (gs < q) := Lib.hid (by rw [hq]; exact hgsl)
    have HCL : Hid (∀ W, Below w1.heap.size w1 W → Calls Tryz.prog 38 #[.slice a0 n0 c0] W fun e w' => ∃ v, e = .returned v ∧ Hid (Below w1.heap.size w1 w' ∧ Below W.heap.size W w' ∧ OwnY w' w1.heap.size v Y)) := by
      refine Lib.hid fun W hW => (cloneY_any a0 n0 c0 Y W ((HRY.out.later HBE.out).later hW) (by omega)).mono ?_
      rintro e w' ⟨v, rfl, ho, hb⟩
      exact ⟨v, rfl, Lib.hid ⟨hW.trans (hb.mono hW.size), hb, ho.mono hW.size⟩⟩
    have HG : Hid (∀ W w7 v, Below w1.heap.size w1 W → OwnY W w1.heap.size v Y → W.grownBy w7 v.ownBlock → Hid (Below w1.heap.size w1 w7)) :=
      Lib.hid fun W w7 v hW ho hg => Lib.hid (hW.grown hg hW.size (fun k hk => (World.ownsRow.lt ho k hk).1))
    have HFIN : Hid (∀ (w7 : World) (gg cap : Nat), w7.heap[q]? = some (.cells #[.pointer (some ⟨gi, 0, none⟩), .int .i64 ((last : Int) + 1), .slice a0 n0 c0] 76 (0, 0)) → w7.ownsRow w1.heap.size 98 2 (.slice (some ⟨gg, 0, none⟩) (Y.length + 1) cap) (Y.length + 1) (cY Y ++ [.int .i64 ((last : Int) + 1), .pointer (some ⟨gi, 0, none⟩)]) → Below w1.heap.size w1 w7 →
        Hid (∃ gg' cap', (w7.setCell ⟨q, 2, none⟩ (.slice (some ⟨gg, 0, none⟩) (Y.length + 1) cap)).heap[q]? = some (.cells #[.pointer (some ⟨gi, 0, none⟩), .int .i64 ((last : Int) + 1), .slice (some ⟨gg', 0, none⟩) (Y.length + 1) cap'] 76 (0, 0)) ∧ OwnY (w7.setCell ⟨q, 2, none⟩ (.slice (some ⟨gg, 0, none⟩) (Y.length + 1) cap)) w1.heap.size (.slice (some ⟨gg', 0, none⟩) (Y.length + 1) cap') (Y ++ [(last + 1, gi)]) ∧ Below w.heap.size w (w7.setCell ⟨q, 2, none⟩ (.slice (some ⟨gg, 0, none⟩) (Y.length + 1) cap)))) := by
      refine Lib.hid fun w7 gg cap hx ho hb => Lib.hid ⟨gg, cap, ?_⟩
      have hqn := HQ.out
      rw [box2 hx]
      refine ⟨put_same hx, ?_, (HBE.out.trans (hb.mono HBE.out.size)).trans (put_below _ (by omega))⟩
      have e : OwnY w7 w1.heap.size (.slice (some ⟨gg, 0, none⟩) (Y.length + 1) cap) (Y ++ [(last + 1, gi)]) := by
        refine OwnY.of_append rfl ?_
        have e2 : cY [(last + 1, gi)] = [.int .i64 ((last : Int) + 1), .pointer (some ⟨gi, 0, none⟩)] := by
          simp only [cY, List.flatMap_cons, List.flatMap_nil, List.append_nil, List.cons.injEq, Value.int.injEq, true_and, and_true]
          omega
        rw [e2]
        exact ho
      exact e.put_ (by omega) _
    clear hw1 hq hbe hs1 hob d0 d1 d2 d3 hgsl hX hT hV hRY hY
    have hmx : Y.length + 1 ≤ maxLen := by unfold maxLen; omega
    have hby : (Y.length + 1) * 16 ≤ 140737488355328 := by omega
    clear hTl
    go_upto_region 7 with fail
    go_cut [] (fun wx => Hid (∃ gg cap, wx.heap[q]? = some (.cells #[.pointer (some ⟨gi, 0, none⟩), .int .i64 ((last : Int) + 1), .slice (some ⟨gg, 0, none⟩) (Y.length + 1) cap] 76 (0, 0)) ∧ OwnY wx w1.heap.size (.slice (some ⟨gg, 0, none⟩) (Y.length + 1) cap) (Y ++ [(last + 1, gi)]) ∧ Below w.heap.size w wx))
    case first =>
      as_aux_lemma =>
        refine wp_region_held_drew (S := fun W => W.cell? ⟨gs, 1, none⟩ = some (.pointer (some ⟨gi, 0, none⟩)) ∧ W.cell? ⟨gs, 3, none⟩ = some (.slice a0 n0 c0) ∧ W.cell? ⟨q, 1, none⟩ = some (.int .i64 ((last : Int) + 1))) (by kernel_rfl) (HS.out _ (Below.refl _ _).drew) (fun _ => ?_)
        refine wpAnyH_take (i := 0) (v := ?vq0) rfl (by kernel_rfl) (by kernel_rfl) (by kernel_rfl) (fun _ _ _ h => h) (Or.inl ⟨by rfl, ?hq0⟩) (HS.out _ (Below.refl _ _).drew) ?rq0
        case hq0 => (intro W hW; (try obtain ⟨hw1, hw2, hw3⟩ := hW); go_simp; try with_reducible rfl)
        simp only [Act.put, List.getElem_toArray, List.getElem_cons_succ, List.getElem_cons_zero, List.setIfInBounds_toArray, List.set_cons_zero, List.set_cons_succ]
        refine wpAnyH_take (i := 1) (v := ?vq1) rfl (by kernel_rfl) (by kernel_rfl) (by kernel_rfl) (fun _ _ _ h => h) (Or.inl ⟨by rfl, ?hq1⟩) (HS.out _ (Below.refl _ _).drew) ?rq1
        case hq1 => (intro W hW; (try obtain ⟨hw1, hw2, hw3⟩ := hW); go_simp; try with_reducible rfl)
        simp only [Act.put, List.getElem_toArray, List.getElem_cons_succ, List.getElem_cons_zero, List.setIfInBounds_toArray, List.set_cons_zero, List.set_cons_succ]
        refine wpAnyH_take (i := 2) (v := ?vq2) rfl (by kernel_rfl) (by kernel_rfl) (by kernel_rfl) (fun _ _ _ h => h) (Or.inl ⟨by rfl, ?hq2⟩) (HS.out _ (Below.refl _ _).drew) ?rq2
        case hq2 => (intro W hW; (try obtain ⟨hw1, hw2, hw3⟩ := hW); go_simp; try with_reducible rfl)
        simp only [Act.put, List.getElem_toArray, List.getElem_cons_succ, List.getElem_cons_zero, List.setIfInBounds_toArray, List.set_cons_zero, List.set_cons_succ]
        refine wpAnyH_take (i := 3) (v := ?vq3) rfl (by kernel_rfl) (by kernel_rfl) (by kernel_rfl) (fun _ _ _ h => h) (Or.inl ⟨by rfl, ?hq3⟩) (HS.out _ (Below.refl _ _).drew) ?rq3
        case hq3 => (intro W hW; (try obtain ⟨hw1, hw2, hw3⟩ := hW); go_simp; try with_reducible rfl)
        simp only [Act.put, List.getElem_toArray, List.getElem_cons_succ, List.getElem_cons_zero, List.setIfInBounds_toArray, List.set_cons_zero, List.set_cons_succ]
        refine wpAnyH_take (i := 4) (v := ?vq4) rfl (by kernel_rfl) (by kernel_rfl) (by kernel_rfl) (fun _ _ _ h => h) (Or.inl ⟨by rfl, ?hq4⟩) (HS.out _ (Below.refl _ _).drew) ?rq4
        case hq4 => (intro W hW; (try obtain ⟨hw1, hw2, hw3⟩ := hW); go_simp; try with_reducible rfl)
        simp only [Act.put, List.getElem_toArray, List.getElem_cons_succ, List.getElem_cons_zero, List.setIfInBounds_toArray, List.set_cons_zero, List.set_cons_succ]
        refine wpAnyH_take (i := 6) (v := ?vq6) rfl (by kernel_rfl) (by kernel_rfl) (by kernel_rfl) (fun _ _ _ h => h) (Or.inl ⟨by rfl, ?hq6⟩) (HS.out _ (Below.refl _ _).drew) ?rq6
        case hq6 => (intro W hW; (try obtain ⟨hw1, hw2, hw3⟩ := hW); go_simp; try with_reducible rfl)
        simp only [Act.put, List.getElem_toArray, List.getElem_cons_succ, List.getElem_cons_zero, List.setIfInBounds_toArray, List.set_cons_zero, List.set_cons_succ]
        refine wpAnyH_take (i := 7) (v := ?vq7) rfl (by kernel_rfl) (by kernel_rfl) (by kernel_rfl) (fun _ _ _ h => h) (Or.inl ⟨by rfl, ?hq7⟩) (HS.out _ (Below.refl _ _).drew) ?rq7
        case hq7 => (intro W hW; (try obtain ⟨hw1, hw2, hw3⟩ := hW); go_simp; try with_reducible rfl)
        simp only [Act.put, List.getElem_toArray, List.getElem_cons_succ, List.getElem_cons_zero, List.setIfInBounds_toArray, List.set_cons_zero, List.set_cons_succ]
        refine wpAnyH_take (i := 8) (v := ?vq8) rfl (by kernel_rfl) (by kernel_rfl) (by kernel_rfl) (fun _ _ _ h => h) (Or.inl ⟨by rfl, ?hq8⟩) (HS.out _ (Below.refl _ _).drew) ?rq8
        case hq8 => (intro W hW; (try obtain ⟨hw1, hw2, hw3⟩ := hW); go_simp; try with_reducible rfl)
        simp only [Act.put, List.getElem_toArray, List.getElem_cons_succ, List.getElem_cons_zero, List.setIfInBounds_toArray, List.set_cons_zero, List.set_cons_succ]
        refine wpAnyH_take (i := 9) (v := ?vq9) rfl (by kernel_rfl) (by kernel_rfl) (by kernel_rfl) (fun _ _ _ h => h) (Or.inl ⟨by rfl, ?hq9⟩) (HS.out _ (Below.refl _ _).drew) ?rq9
        case hq9 => (intro W hW; (try obtain ⟨hw1, hw2, hw3⟩ := hW); go_simp; try with_reducible rfl)
        simp only [Act.put, List.getElem_toArray, List.getElem_cons_succ, List.getElem_cons_zero, List.setIfInBounds_toArray, List.set_cons_zero, List.set_cons_succ]
        refine wpAnyH_take (i := 10) (v := ?vq10) rfl (by kernel_rfl) (by kernel_rfl) (by kernel_rfl) (fun _ _ _ h => h) (Or.inl ⟨by rfl, ?hq10⟩) (HS.out _ (Below.refl _ _).drew) ?rq10
        case hq10 => (intro W hW; (try obtain ⟨hw1, hw2, hw3⟩ := hW); go_simp; try with_reducible rfl)
        simp only [Act.put, List.getElem_toArray, List.getElem_cons_succ, List.getElem_cons_zero, List.setIfInBounds_toArray, List.set_cons_zero, List.set_cons_succ]
        refine wpAnyH_take (i := 11) (v := ?vq11) rfl (by kernel_rfl) (by kernel_rfl) (by kernel_rfl) (fun _ _ _ h => h) (Or.inl ⟨by rfl, ?hq11⟩) (HS.out _ (Below.refl _ _).drew) ?rq11
        case hq11 => (intro W hW; (try obtain ⟨hw1, hw2, hw3⟩ := hW); go_simp; try with_reducible rfl)
        simp only [Act.put, List.getElem_toArray, List.getElem_cons_succ, List.getElem_cons_zero, List.setIfInBounds_toArray, List.set_cons_zero, List.set_cons_succ]
        refine wpAnyH_take (i := 12) (v := ?vq12) rfl (by kernel_rfl) (by kernel_rfl) (by kernel_rfl) (fun _ _ _ h => h) (Or.inl ⟨by rfl, ?hq12⟩) (HS.out _ (Below.refl _ _).drew) ?rq12
        case hq12 => (intro W hW; (try obtain ⟨hw1, hw2, hw3⟩ := hW); go_simp; try with_reducible rfl)
        simp only [Act.put, List.getElem_toArray, List.getElem_cons_succ, List.getElem_cons_zero, List.setIfInBounds_toArray, List.set_cons_zero, List.set_cons_succ]
        refine wpAnyH_take (i := 13) (v := ?vq13) rfl (by kernel_rfl) (by kernel_rfl) (by kernel_rfl) (fun _ _ _ h => h) (Or.inl ⟨by rfl, ?hq13⟩) (HS.out _ (Below.refl _ _).drew) ?rq13
        case hq13 => (intro W hW; (try obtain ⟨hw1, hw2, hw3⟩ := hW); go_simp; try with_reducible rfl)
        simp only [Act.put, List.getElem_toArray, List.getElem_cons_succ, List.getElem_cons_zero, List.setIfInBounds_toArray, List.set_cons_zero, List.set_cons_succ]
        refine wpAnyH_ready (rs := [5, 14]) (by kernel_rfl) (by simp) ?_
        refine AllReadyH.cons rfl (fun K hK => ?_) (AllReadyH.cons rfl (fun K hK => ?_) AllReadyH.nil)
        · as_aux_lemma =>
            refine ready_call (f := 38) (vs := #[.slice a0 n0 c0]) (by rfl) (by (go_simp; try with_reducible rfl)) ?_
            refine (HCL.out _ (Below.refl _ _).drew).mono ?_
            rintro e wC ⟨vC, rfl, HBC⟩
            refine ⟨_, rfl, hK.out _ _ (HS.out _ HBC.out.1) (fun _ => ?_)⟩
            clear hK K
            simp only [Act.put, List.getElem_toArray, List.getElem_cons_succ, List.getElem_cons_zero, List.setIfInBounds_toArray, List.set_cons_zero, List.set_cons_succ]
            refine wpAnyH_ready (rs := [14]) (by kernel_rfl) (by simp) ?_
            refine AllReadyH.cons rfl (fun K hK => ?_) AllReadyH.nil
            refine ready_mk (v := .slice (some ⟨wC.heap.size, 0, none⟩) 1 1) (w' := wC.alloc (.cells #[.int .i64 ((last : Int) + 1), .pointer (some ⟨gi, 0, none⟩)] 98)) (by rfl) (by (go_simp; try with_reducible rfl)) ?_
            refine hK.out _ _ (HS.out _ (HBC.out.1.alloc HBC.out.1.size _)) (fun _ => ?_)
            clear hK K
            simp only [Act.put, List.getElem_toArray, List.getElem_cons_succ, List.getElem_cons_zero, List.setIfInBounds_toArray, List.set_cons_zero, List.set_cons_succ]
            refine wpAnyH_ready (rs := [15]) (by kernel_rfl) (by simp) ?_
            refine AllReadyH.cons rfl (fun K hK => ?_) AllReadyH.nil
            refine step_append_lies _ (by rfl) _ _ _ (by rfl) w1.heap.size 98 i0 _ 2 16 Tryz.underlying74 hi0 hz0 hz1 hz2 rfl (by omega) vC Y.length (cY Y) (by rfl) (HBC.out.2.2.alloc _) ⟨wC.heap.size, 0, none⟩ 1 1 [.int .i64 ((last : Int) + 1), .pointer (some ⟨gi, 0, none⟩)] (by rfl) (by rfl) (World.news_of_block (cs := #[.int .i64 ((last : Int) + 1), .pointer (some ⟨gi, 0, none⟩)]) (t := 98) (fr := (0, 0)) (heap_alloc_new wC _)) (by simp [Value.oneCell']) (by omega) hmx hby (by have := HBC.out.1.size; simp; omega) _ rfl ?_
            intro gg cap w7 hown hgrow _ hlt
            have HB7 := HG.out _ w7 vC (HBC.out.1.alloc HBC.out.1.size _) (HBC.out.2.2.alloc _) hgrow
            have HO7 := Lib.hid hown
            refine hK.out _ _ (HS.out _ HB7.out) (fun _ => ?_)
            clear hK K hown hgrow hlt
            simp only [Act.put, List.getElem_toArray, List.getElem_cons_succ, List.getElem_cons_zero, List.setIfInBounds_toArray, List.set_cons_zero, List.set_cons_succ]
            have HOX : Hid (w7.heap[q]? = some (.cells #[.pointer (some ⟨gi, 0, none⟩), .int .i64 ((last : Int) + 1), .slice a0 n0 c0] 76 (0, 0))) := Lib.hid ((HB7.out.block q (lt_of_block HOq.out)).trans HOq.out)
            have x2 : w7.cell? ⟨q, 2, none⟩ = some (.slice a0 n0 c0) := by simp [World.cell?, HOX.out]
            have f2 : w7.frozen? ⟨q, 2, none⟩ = false := by simp [World.frozen?, HOX.out]
            refine wpAnyH_take (i := 16) (v := ?va16) rfl (by kernel_rfl) (by kernel_rfl) (by kernel_rfl) (fun _ _ _ h => h) (Or.inl ⟨by rfl, ?ha16⟩) (HS.out _ HB7.out) ?ra16
            case ha16 => (intro W hW; (try obtain ⟨hw1, hw2, hw3⟩ := hW); go_simp; try with_reducible rfl)
            simp only [Act.put, List.getElem_toArray, List.getElem_cons_succ, List.getElem_cons_zero, List.setIfInBounds_toArray, List.set_cons_zero, List.set_cons_succ]
            refine wpAnyH_ready (rs := [17]) (by kernel_rfl) (by simp) ?_
            refine AllReadyH.cons rfl (fun K hK => ?_) AllReadyH.nil
            refine ready_skp (w' := w7.setCell ⟨q, 2, none⟩ (.slice (some ⟨gg, 0, none⟩) (Y.length + 1) cap)) (by rfl) (by (go_simp; try with_reducible rfl)) ?_
            refine hK.out _ _ ?hS (fun _ => ?_)
            case hS =>
              rw [box2 HOX.out]
              obtain ⟨s1, s2, s3⟩ := HS.out _ HB7.out
              have hq9 := HQN.out
              refine ⟨?_, ?_, ?_⟩
              · rw [← s1]; simp only [World.cell?]; rw [put_other (by omega)]
              · rw [← s2]; simp only [World.cell?]; rw [put_other (by omega)]
              · simp [World.cell?, put_same HOX.out]
            clear hK K
            simp only [Act.put, List.getElem_toArray, List.getElem_cons_succ, List.getElem_cons_zero, List.setIfInBounds_toArray, List.set_cons_zero, List.set_cons_succ]
            refine wpAnyH_done (by kernel_rfl) ?_ _
            clear x2 f2
            go_wp2_with fail
            go_meet
            exact HFIN.out w7 gg cap HOX.out HO7.out HB7.out
        · as_aux_lemma =>
            refine ready_mk (v := .slice (some ⟨w1.drew.heap.size, 0, none⟩) 1 1) (w' := w1.drew.alloc (.cells #[.int .i64 ((last : Int) + 1), .pointer (some ⟨gi, 0, none⟩)] 98)) (by rfl) (by (go_simp; try with_reducible rfl)) ?_
            refine hK.out _ _ (HS.out _ ((Below.refl _ _).drew.alloc (Nat.le_refl _) _)) (fun _ => ?_)
            clear hK K
            simp only [Act.put, List.getElem_toArray, List.getElem_cons_succ, List.getElem_cons_zero, List.setIfInBounds_toArray, List.set_cons_zero, List.set_cons_succ]
            refine wpAnyH_ready (rs := [5]) (by kernel_rfl) (by simp) ?_
            refine AllReadyH.cons rfl (fun K hK => ?_) AllReadyH.nil
            refine ready_call (f := 38) (vs := #[.slice a0 n0 c0]) (by rfl) (by (go_simp; try with_reducible rfl)) ?_
            refine (HCL.out _ ((Below.refl _ _).drew.alloc (Nat.le_refl _) _)).mono ?_
            rintro e wC ⟨vC, rfl, HBC⟩
            refine ⟨_, rfl, hK.out _ _ (HS.out _ HBC.out.1) (fun _ => ?_)⟩
            clear hK K
            simp only [Act.put, List.getElem_toArray, List.getElem_cons_succ, List.getElem_cons_zero, List.setIfInBounds_toArray, List.set_cons_zero, List.set_cons_succ]
            refine wpAnyH_ready (rs := [15]) (by kernel_rfl) (by simp) ?_
            refine AllReadyH.cons rfl (fun K hK => ?_) AllReadyH.nil
            refine step_append_lies _ (by rfl) _ _ _ (by rfl) w1.heap.size 98 i0 _ 2 16 Tryz.underlying74 hi0 hz0 hz1 hz2 rfl (by omega) vC Y.length (cY Y) (by rfl) HBC.out.2.2 ⟨w1.drew.heap.size, 0, none⟩ 1 1 [.int .i64 ((last : Int) + 1), .pointer (some ⟨gi, 0, none⟩)] (by rfl) (by rfl) (World.news_of_block (cs := #[.int .i64 ((last : Int) + 1), .pointer (some ⟨gi, 0, none⟩)]) (t := 98) (fr := (0, 0)) ((HBC.out.2.1.block _ (by simp)).trans (heap_alloc_new w1.drew _))) (by simp [Value.oneCell']) (by omega) hmx hby HBC.out.1.size _ rfl ?_
            intro gg cap w7 hown hgrow _ hlt
            have HB7 := HG.out _ w7 vC HBC.out.1 HBC.out.2.2 hgrow
            have HO7 := Lib.hid hown
            refine hK.out _ _ (HS.out _ HB7.out) (fun _ => ?_)
            clear hK K hown hgrow hlt
            simp only [Act.put, List.getElem_toArray, List.getElem_cons_succ, List.getElem_cons_zero, List.setIfInBounds_toArray, List.set_cons_zero, List.set_cons_succ]
            have HOX : Hid (w7.heap[q]? = some (.cells #[.pointer (some ⟨gi, 0, none⟩), .int .i64 ((last : Int) + 1), .slice a0 n0 c0] 76 (0, 0))) := Lib.hid ((HB7.out.block q (lt_of_block HOq.out)).trans HOq.out)
            have x2 : w7.cell? ⟨q, 2, none⟩ = some (.slice a0 n0 c0) := by simp [World.cell?, HOX.out]
            have f2 : w7.frozen? ⟨q, 2, none⟩ = false := by simp [World.frozen?, HOX.out]
            refine wpAnyH_take (i := 16) (v := ?vb16) rfl (by kernel_rfl) (by kernel_rfl) (by kernel_rfl) (fun _ _ _ h => h) (Or.inl ⟨by rfl, ?hb16⟩) (HS.out _ HB7.out) ?rb16
            case hb16 => (intro W hW; (try obtain ⟨hw1, hw2, hw3⟩ := hW); go_simp; try with_reducible rfl)
            simp only [Act.put, List.getElem_toArray, List.getElem_cons_succ, List.getElem_cons_zero, List.setIfInBounds_toArray, List.set_cons_zero, List.set_cons_succ]
            refine wpAnyH_ready (rs := [17]) (by kernel_rfl) (by simp) ?_
            refine AllReadyH.cons rfl (fun K hK => ?_) AllReadyH.nil
            refine ready_skp (w' := w7.setCell ⟨q, 2, none⟩ (.slice (some ⟨gg, 0, none⟩) (Y.length + 1) cap)) (by rfl) (by (go_simp; try with_reducible rfl)) ?_
            refine hK.out _ _ ?hS (fun _ => ?_)
            case hS =>
              rw [box2 HOX.out]
              obtain ⟨s1, s2, s3⟩ := HS.out _ HB7.out
              have hq9 := HQN.out
              refine ⟨?_, ?_, ?_⟩
              · rw [← s1]; simp only [World.cell?]; rw [put_other (by omega)]
              · rw [← s2]; simp only [World.cell?]; rw [put_other (by omega)]
              · simp [World.cell?, put_same HOX.out]
            clear hK K
            simp only [Act.put, List.getElem_toArray, List.getElem_cons_succ, List.getElem_cons_zero, List.setIfInBounds_toArray, List.set_cons_zero, List.set_cons_succ]
            refine wpAnyH_done (by kernel_rfl) ?_ _
            clear x2 f2
            go_wp2_with fail
            go_meet
            exact HFIN.out w7 gg cap HOX.out HO7.out HB7.out
    case rest =>
      clear HCL HG HS HFIN HQN
      obtain ⟨gg, cap, hq7, ho7, hb7⟩ := hcut.out
      have z0 : wc.cell? ⟨q, 0, none⟩ = some (.pointer (some ⟨gi, 0, none⟩)) := by simp [World.cell?, hq7]
      have z1 : wc.cell? ⟨q, 1, none⟩ = some (.int .i64 ((last : Int) + 1)) := by simp [World.cell?, hq7]
      have z2 : wc.cell? ⟨q, 2, none⟩ = some (.slice (some ⟨gg, 0, none⟩) (Y.length + 1) cap) := by simp [World.cell?, hq7]
      have HB7 := Lib.hid hb7
      have HO7 := Lib.hid hq7
      have hqn := HQ.out
      obtain ⟨hX, hT, hV⟩ := HT.out
      obtain ⟨a7, c7, hv7, hr7, hc7, hl7⟩ := ho7.rd
      injection hv7 with e1 e2 e3
      subst e1
      subst e3
      have hsta7 : Sta wc [gp, gb, gr, gs] N gi (some ⟨gg, 0, none⟩) (Y.length + 1) F (X ++ [(last + 1, F)]) := by
        have h1 := (HSTA.out.later hb7).img
        refine ⟨h1, T ++ [(last + 1, gi, F)], by rw [hX]; simp [tX], ?_, fun t ht => ?_, fun _ b o e => ?_⟩
        · have e : (T ++ [(last + 1, gi, F)]).map tY = Y ++ [(last + 1, gi)] := by rw [HY.out]; simp [tY]
          rw [e]
          simpa using hr7
        · rcases List.mem_append.1 ht with ht | ht
          · exact (hT t ht).save (Save.of_below hb7 []) (by simp)
          · simp only [List.mem_singleton] at ht
            subst ht
            exact h1
        · have := (hl7 b o e).1
          exact HC.out.fresh (by omega)
      have hok7 : OkS F (last + 1) (X ++ [(last + 1, F)]) := snaps_add HC.out.ok (by have := HF.out; omega) h9
      have HCh := Lib.hid (change_any wc gd gp gb gr gs k G B N N s L b0 F last X (HC.out.later hb7) gi (last + 1) (Y.length + 1) cap (some ⟨gg, 0, none⟩) F _ hsta7 (by simpa using hc7) hok7)
      unfold stV at HCh
      rw [show ((last + 1 : Nat) : Int) = (last : Int) + 1 by omega] at HCh
      clear hq7 ho7 hb7 hqn hX hT hV hr7 hc7 hl7 hsta7 hok7 hcut e2
      go_wp2_with fail
      refine HCh.out.mono ?_
      rintro e w9 ⟨E, rfl, hch⟩
      have HE := Lib.hid hch
      have HX : Hid (X.length < 32) := Lib.hid (by have := HF.out; omega)
      have hx9 : w9.heap[q]? = wc.heap[q]? := by
        obtain ⟨s', L', h1, h2, h3, h4⟩ := hch
        have h5 := HC.out.low
        have h6 := HQ.out
        exact h3.block q (lt_of_block HO7.out) (by simp; omega)
      have y1 : w9.cell? ⟨q, 1, none⟩ = some (.int .i64 ((last : Int) + 1)) := by simp [World.cell?, hx9, HO7.out]
      clear hch z0 z1 z2 hx9
      by_cases hE : E = 0
      · subst hE
        go_wp2
        go_ret2
        refine .inr ⟨HX.out, 0, ?_, HE.out.from HB7.out⟩
        rw [if_pos rfl, show ((last + 1 : Nat) : Int) = (last : Int) + 1 by omega]
        rfl
      · have hE' : ((E : Int) != 0) = true := by simp; omega
        have HNE := Lib.hid hE
        clear hE
        go_wp2
        go_ret2
        refine .inr ⟨HX.out, E, ?_, HE.out.from HB7.out⟩
        rw [if_neg HNE.out]
        rfl

end Go.Proofs.YtaijjogjohbheaaGreat
