/- What a change leaves, as a store at work; small images' bytes. -/
import Derived.Test.YtaijjogjohbheaaGreatSOpenAll
import Derived.Test.YtaijjogjohbheaaGreatSCrAll
import Derived.Test.YtaijjogjohbheaaGreatIRefDiff
namespace Go.Proofs.YtaijjogjohbheaaGreat
open Go.RowKit
set_option maxRecDepth 100000
set_option linter.unusedSimpArgs false

section
variable {gd gp gb gr gs k G B N M : Nat} {s : Pw} {L b0 : List Nat} {F : List (List Nat)} {last : Nat} {X : List (Nat × List (List Nat))} {F' : List (List Nat)} {last' : Nat} {X' : List (Nat × List (List Nat))} {w w' : World} {E : Nat}

theorem ChP.cases (h : ChP gd gp gb gr gs k G B N M s L b0 F last X F' last' X' w E w') : E = 0 ∨ E = 7 ∨ E = 11 := by
  obtain ⟨s', L', h1, h2, h3, h4 | h4 | h4⟩ := h
  · exact .inl h4.1
  · exact .inr (.inl h4.1)
  · exact .inr (.inr h4.1)

theorem ChP.done (hc : Ctx w gd gp gb gr gs k G B N s L b0 F last X) (h : ChP gd gp gb gr gs k G B N M s L b0 F last X F' last' X' w 0 w') (hG : G + 1 < 200) (hB : B + 400001 < 1000000000) (hM : M < 10000) :
    (sEnc F' last' X').length ≤ 64 * sect k ∧ ∃ s' L', (s.plan = none → s'.plan = none) ∧ Ctx w' gd gp gb gr gs k (G + 1) (B + 400001) M s' L' (sEnc F' last' X') F' last' X' ∧ Save [gp, gb, gr, gs] w w' := by
  obtain ⟨s', L', h1, h2, h3, h4 | h4 | h4⟩ := h
  · obtain ⟨_, a2, a3, a4, a5, a6, a7, a8⟩ := h4
    exact ⟨a2, s', L', a4, ⟨a6, h1, hc.ne, hc.gsn, a5, a3, h2, a7, a8, hc.k4, hc.k1, hG, hB, hM⟩, h3⟩
  · exact absurd h4.1 (by omega)
  · exact absurd h4.1 (by omega)

theorem ChP.full (hc : Ctx w gd gp gb gr gs k G B N s L b0 F last X) (h : ChP gd gp gb gr gs k G B N M s L b0 F last X F' last' X' w 7 w') (hB : B + 400001 < 1000000000) :
    64 * sect k < (sEnc F' last' X').length ∧ Ctx w' gd gp gb gr gs k G (B + 400001) N s L b0 F last X ∧ Save [gp, gb, gr, gs] w w' := by
  obtain ⟨s', L', h1, h2, h3, h4 | h4 | h4⟩ := h
  · exact absurd h4.1 (by omega)
  · obtain ⟨_, a2, rfl, rfl, a5, a6⟩ := h4
    exact ⟨a2, ⟨a5, h1, hc.ne, hc.gsn, hc.inv, hc.on, h2, a6, hc.ok, hc.k4, hc.k1, hc.gl, hB, hc.nl⟩, h3⟩
  · exact absurd h4.1 (by omega)

theorem ChP.fell (h : ChP gd gp gb gr gs k G B N M s L b0 F last X F' last' X' w 11 w') :
    (sEnc F' last' X').length ≤ 64 * sect k ∧ s.plan ≠ none ∧ OkS F' last' X' ∧ ∃ s' L', Dsk w' gd gp gb s' L' k ∧ s'.on = false ∧ s'.within (B + 400001) ∧ (RInv L' k G b0 ∨ RInv L' k (G + 1) (sEnc F' last' X')) ∧ Save [gp, gb, gr, gs] w w' := by
  obtain ⟨s', L', h1, h2, h3, h4 | h4 | h4⟩ := h
  · exact absurd h4.1 (by omega)
  · exact absurd h4.1 (by omega)
  · obtain ⟨_, a2, a3, a4, a5, a6⟩ := h4
    exact ⟨a2, a3, a5, s', L', h1, a4, h2, a6, h3⟩

theorem ChP.ok0 (hp : s.plan = none) (hl : (sEnc F' last' X').length ≤ 64 * sect k) (h : ChP gd gp gb gr gs k G B N M s L b0 F last X F' last' X' w E w') : E = 0 := by
  obtain ⟨s', L', h1, h2, h3, h4 | h4 | h4⟩ := h
  · exact h4.1
  · exact absurd h4.2.1 (by omega)
  · exact absurd hp h4.2.2.1

end

theorem setF_one {F : List (List Nat)} (hF : F.length = 256) (h : ∀ k, k < 256 → (F.getD k [] ≠ [] ↔ k = 0)) : SetF F [⟨0, 1⟩] := by
  refine ⟨⟨-1, by simp [Canon]⟩, fun z => ?_⟩
  have e : inR [⟨0, 1⟩] z ↔ z = 0 := by
    constructor
    · rintro ⟨r, hr, h1, h2⟩
      simp only [List.mem_singleton] at hr
      subst hr
      simp only at h1 h2
      omega
    · rintro rfl
      exact ⟨⟨0, 1⟩, by simp, by simp, by simp⟩
  rw [e]
  constructor
  · rintro rfl
    have := (h 0 (by omega)).2 rfl
    simpa [fAt] using this
  · intro hz
    have h1 := fAt_in hF hz
    obtain ⟨k, rfl⟩ : ∃ k : Nat, z = (k : Int) := ⟨z.toNat, by omega⟩
    rw [fAt_nat] at hz
    have := (h k (by omega)).1 hz
    omega

theorem setF_nil {F : List (List Nat)} (h : ∀ k, F.getD k [] = []) : SetF F [] := by
  refine ⟨⟨-1, trivial⟩, fun z => ?_⟩
  constructor
  · intro h1; exact absurd h1 (inR_nil z)
  · intro h1
    unfold fAt at h1
    split at h1
    · exact absurd (h _) h1
    · exact absurd rfl h1

theorem iEnc_one {F : List (List Nat)} (hF : okF F) (h : ∀ k, k < 256 → (F.getD k [] ≠ [] ↔ k = 0)) : (iEnc F).length ≤ 100 := by
  rw [iEnc_eq (setF_one hF.1 h)]
  have h0 : fAt F 0 ≠ [] := by
    have := (h 0 (by omega)).2 rfl
    simpa [fAt] using this
  have e : (bytesF F [⟨0, 1⟩]).length ≤ 50 := by
    unfold bytesF
    have e1 : numsR [⟨0, 1⟩] = [0] := by decide
    have e2 : setNums [⟨0, 1⟩] = [1, 0, 1] := by decide
    rw [e1, e2]
    have h1 := vEnc_len 0 1 (by omega)
    have h2 := vEnc_len 0 0 (by omega)
    rcases hF.at_ 0 with h3 | h3
    · exact absurd h3 h0
    · simp only [List.flatMap_cons, List.flatMap_nil, List.length_append, List.length_nil, h3.1]
      omega
  have h2 := vEnc_len 0 (bytesF F [⟨0, 1⟩]).length (by omega)
  unfold tEnc
  rw [List.length_append]
  omega

/-- An image of one block, at 0. -/
theorem one_getD (b : List Nat) (k : Nat) (hk : k < 256) : ((holes.set 0 (padB b)).getD k [] ≠ [] ↔ k = 0) := by
  have e := fAt_set holes 0 (padB b) (by rw [holes_ok.1]; omega) (k : Int)
  rw [fAt_nat, fAt_holes] at e
  rw [e]
  by_cases h : k = 0
  · subst h
    simp [padB_ne]
  · rw [if_neg (by omega)]
    simp [h]

end Go.Proofs.YtaijjogjohbheaaGreat

/- The chapter's example, run. -/
namespace Go.Proofs.YtaijjogjohbheaaGreat
open Go.RowKit
set_option maxRecDepth 100000
set_option linter.unusedSimpArgs false

theorem set_ok (w : World) (gd gp gb gr gs k G B N : Nat) (s : Pw) (L b0 : List Nat) (F : List (List Nat)) (last : Nat) (X : List (Nat × List (List Nat))) (h : Ctx w gd gp gb gr gs k G B N s L b0 F last X) (hp : s.plan = none) (I : Int) (J : Nat) (hI : I = (J : Int)) (hJ : J < 256) (a : Option Addr) (n c : Nat) (x : List Nat) (hr : Rd w a n x) (hn : n ≤ 32)
    (hl : (sEnc (F.set J (newB x)) last X).length ≤ 64 * sect k) (hG : G + 1 < 200) (hB : B + 400001 < 1000000000) (hN : N + 1 < 10000) :
    Calls Tryz.prog 15 #[.pointer (some ⟨gs, 0, none⟩), .int .i64 I, .slice a n c] w fun e w' => e = .returned (.int .i64 0) ∧ ∃ s' L', s'.plan = none ∧ Ctx w' gd gp gb gr gs k (G + 1) (B + 400001) (N + 1) s' L' (sEnc (F.set J (newB x)) last X) (F.set J (newB x)) last X ∧ Save [gp, gb, gr, gs] w w' := by
  subst hI
  refine (set_any w gd gp gb gr gs k G B N s L b0 F last X h (J : Int) a n c x hr).mono ?_
  rintro e w' (⟨h1, _⟩ | ⟨_, _, _, E, rfl, hch⟩)
  · omega
  · rw [Int.toNat_natCast] at hch
    have hE := hch.ok0 hp hl
    subst hE
    obtain ⟨_, s', L', h2, h3, h4⟩ := hch.done h hG hB hN
    exact ⟨rfl, s', L', h2 hp, h3, h4⟩

theorem create_ok (w : World) (gd gp gb gr gs k G B N : Nat) (s : Pw) (L b0 : List Nat) (F : List (List Nat)) (last : Nat) (X : List (Nat × List (List Nat))) (h : Ctx w gd gp gb gr gs k G B N s L b0 F last X) (hp : s.plan = none) (h9 : last < 9000) (hX : X.length < 32)
    (hl : (sEnc F (last + 1) (X ++ [(last + 1, F)])).length ≤ 64 * sect k) (hG : G + 1 < 200) (hB : B + 400001 < 1000000000) (v : Int) (hv : v = ((last + 1 : Nat) : Int)) :
    Calls Tryz.prog 17 #[.pointer (some ⟨gs, 0, none⟩)] w fun e w' => e = .returned (.tuple #[.int .i64 v, .int .i64 0]) ∧ ∃ s' L', s'.plan = none ∧ Ctx w' gd gp gb gr gs k (G + 1) (B + 400001) N s' L' (sEnc F (last + 1) (X ++ [(last + 1, F)])) F (last + 1) (X ++ [(last + 1, F)]) ∧ Save [gp, gb, gr, gs] w w' := by
  subst hv
  refine (create_any w gd gp gb gr gs k G B N s L b0 F last X h h9).mono ?_
  rintro e w' (⟨h1, _⟩ | ⟨_, E, rfl, hch⟩)
  · omega
  · have hE := hch.ok0 hp hl
    subst hE
    obtain ⟨_, s', L', h2, h3, h4⟩ := hch.done h hG hB h.nl
    exact ⟨by rw [if_pos rfl]; rfl, s', L', h2 hp, h3, h4⟩

theorem rd_one {w : World} {T : TypeId} {x : Nat} (hx : x < 256) : Rd (w.alloc (.cells #[.int .u8 (x : Int)] T)) (some ⟨w.heap.size, 0, none⟩) 1 [x] := by
  refine ⟨rfl, by simp; exact hx, fun _ => ⟨_, _, rfl, fun j hj => ?_⟩⟩
  rw [World.cell?_alloc_new]
  obtain rfl : j = 0 := by omega
  rfl

def P5 : List Nat := [5]
def P6 : List Nat := [6]
def F5 : List (List Nat) := holes.set 0 (newB P5)
def F6 : List (List Nat) := F5.set 0 (newB P6)

theorem newB5 : newB P5 = padB P5 := by unfold newB; rw [if_neg (by decide)]
theorem newB6 : newB P6 = padB P6 := by unfold newB; rw [if_neg (by decide)]
theorem f5_eq : F5 = holes.set 0 (padB P5) := by unfold F5; rw [newB5]
theorem f6_eq : F6 = holes.set 0 (padB P6) := by unfold F6; rw [newB6, f5_eq, List.set_set]
theorem f5_ok : okF F5 := by rw [f5_eq]; exact holes_ok.set 0 (.inr (padB_ok (by decide) (by decide)))
theorem f6_ok : okF F6 := by rw [f6_eq]; exact holes_ok.set 0 (.inr (padB_ok (by decide) (by decide)))
theorem f5_len : (iEnc F5).length ≤ 100 := iEnc_one f5_ok (by rw [f5_eq]; exact one_getD P5)
theorem f6_len : (iEnc F6).length ≤ 100 := iEnc_one f6_ok (by rw [f6_eq]; exact one_getD P6)

theorem getD_one (b : List Nat) (k : Nat) : (holes.set 0 (padB b)).getD k [] = if k = 0 then padB b else [] := by
  have e := fAt_set holes 0 (padB b) (by rw [holes_ok.1]; omega) (k : Int)
  rw [fAt_nat, fAt_holes] at e
  rw [e]
  by_cases h : k = 0
  · subst h; simp
  · rw [if_neg (by omega), if_neg h]

theorem pad_ne56 : padB P5 ≠ padB P6 := by decide

theorem diff56 : SetF (diffF F6 F5) [⟨0, 1⟩] := by
  refine setF_one (by simp [diffF]) fun k hk => ?_
  have h := hasF_diff (F := F6) (G := F5) hk
  unfold hasF at h
  rw [f6_eq, f5_eq] at h ⊢
  rw [getD_one, getD_one] at h
  by_cases h0 : k = 0
  · subst h0
    simp only [if_true] at h
    have e : decide (padB P6 ≠ []) = true := by simp [padB_ne]
    have e2 : decide (padB P6 = padB P5) = false := by simp; exact fun hh => pad_ne56 hh.symm
    rw [e, e2] at h
    simp only [iff_true]
    exact of_decide_eq_true h
  · rw [if_neg h0, if_neg h0] at h
    simp only [ne_eq, not_true_eq_false, decide_false, Bool.false_and] at h
    simp only [h0, iff_false]
    intro hh
    rw [decide_eq_true hh] at h
    cases h

theorem gone56 : SetF (goneF F6 F5) [] := by
  refine setF_nil fun k => ?_
  by_cases hk : k < 256
  · have h := hasF_gone (F := F6) (G := F5) hk
    unfold hasF at h
    rw [f6_eq, f5_eq] at h ⊢
    rw [getD_one, getD_one] at h
    by_cases h0 : k = 0
    · subst h0
      simp only [if_true] at h
      have e : decide (padB P6 ≠ []) = true := by simp [padB_ne]
      rw [e] at h
      simp only [Bool.not_true, Bool.false_and] at h
      exact Classical.not_not.1 (of_decide_eq_false h)
    · rw [if_neg h0, if_neg h0] at h
      simp only [ne_eq, not_true_eq_false, decide_false, Bool.and_false] at h
      exact Classical.not_not.1 (of_decide_eq_false h)
  · rw [List.getD, List.getElem?_eq_none (by simp [goneF]; omega)]
    rfl

theorem len1 : (sEnc F5 0 []).length ≤ 64 * sect 200 := by
  have h1 := f5_len
  have h2 := vEnc_len 0 0 (by omega)
  unfold sEnc
  simp only [List.length_append, xEnc, List.flatMap_nil, List.length_nil, sect]
  omega

theorem len2 : (sEnc F5 (0 + 1) ([] ++ [(0 + 1, F5)])).length ≤ 64 * sect 200 := by
  have h1 := f5_len
  have h2 := vEnc_len 0 1 (by omega)
  unfold sEnc
  simp only [List.length_append, xEnc, List.flatMap_nil, List.flatMap_cons, List.nil_append, List.length_cons, List.length_nil, sect, Nat.zero_add]
  omega

theorem len3 : (sEnc F6 (0 + 1) ([] ++ [(0 + 1, F5)])).length ≤ 64 * sect 200 := by
  have h0 := f6_len
  have h1 := f5_len
  have h2 := vEnc_len 0 1 (by omega)
  unfold sEnc
  simp only [List.length_append, xEnc, List.flatMap_nil, List.flatMap_cons, List.nil_append, List.length_cons, List.length_nil, sect, Nat.zero_add]
  omega

set_option maxHeartbeats 2000000 in
theorem lives_any (w : World) : Calls Tryz.prog 5 #[] w fun e w' => e = .returned (.bool true) ∧ Below w.heap.size w w' := by
  have HN := Lib.hid (new_at w)
  go_enter Tryz.func5, Tryz.ntmps5
  go_wp2_with fail
  refine HN.out.mono ?_
  rintro e w1 ⟨gp, rfl, hgp, hp1, hb1⟩
  have HN2 := Lib.hid (dnew_at w1 200 gp _ hp1 (by omega) (by omega))
  have HE1 := Lib.hid (And.intro hgp hb1)
  clear hgp hp1 hb1 HN
  go_wp2_with fail
  refine HN2.out.mono ?_
  rintro e w2 ⟨gd, gb, rfl, hgd, hgb, hd2, hb2⟩
  have HO := Lib.hid (sopen_any w2 gd gp gb 200 0 0 ⟨true, none, 0⟩ _ [] holes 0 [] hd2 (by omega) (by omega) rfl (rinv_new 200 (by omega)) (.inl ⟨rfl, rfl, rfl, rfl, rfl⟩) okS_new ⟨by simp, Nat.le_refl _⟩ (by omega) (by omega))
  have HE2 := Lib.hid (And.intro hgd (And.intro hgb hb2))
  clear hgd hgb hd2 hb2 HN2
  go_wp2_with fail
  refine HO.out.mono ?_
  rintro e w3 ⟨gr, gs, rfl, hgr, hgs, hc3, hb3⟩
  have HE3 := Lib.hid (And.intro hgr (And.intro hgs hb3))
  have HC3 := Lib.hid hc3
  clear hgr hgs hc3 hb3 HO
  obtain ⟨w4, hw4⟩ : ∃ w4, w4 = w3.alloc (.cells #[.int .u8 5] 5) := ⟨_, rfl⟩
  have HW4 : Hid (Below w3.heap.size w3 w4) := Lib.hid (by rw [hw4]; exact Below.alloc0 _ _)
  have HS4 := Lib.hid (set_ok w4 gd gp gb gr gs 200 0 0 300 _ _ _ holes 0 [] (HC3.out.later HW4.out) rfl 0 0 rfl (by omega) (some ⟨w3.heap.size, 0, none⟩) 1 1 P5 (by rw [hw4]; exact rd_one (x := 5) (by omega)) (by omega) len1 (by omega) (by omega) (by omega))
  go_wp2_with fail
  rw [← hw4]
  clear hw4
  refine HS4.out.mono ?_
  rintro e w5 ⟨rfl, s5, L5, hp5, hc5, hs5⟩
  have HC5 := Lib.hid hc5
  have HS5 := Lib.hid hs5
  have HCr := Lib.hid (create_ok w5 gd gp gb gr gs 200 _ _ _ s5 L5 _ _ 0 [] hc5 hp5 (by omega) (by simp) len2 (by omega) (by omega) 1 rfl)
  clear hp5 hc5 hs5 HS4
  go_wp2_with fail
  refine HCr.out.mono ?_
  rintro e w6 ⟨rfl, s6, L6, hp6, hc6, hs6⟩
  have HC6 := Lib.hid hc6
  have HS6 := Lib.hid hs6
  have HP6 := Lib.hid hp6
  clear hp6 hc6 hs6 HCr
  obtain ⟨w7, hw7⟩ : ∃ w7, w7 = w6.alloc (.cells #[.int .u8 6] 5) := ⟨_, rfl⟩
  have HW7 : Hid (Below w6.heap.size w6 w7) := Lib.hid (by rw [hw7]; exact Below.alloc0 _ _)
  have HS7 := Lib.hid (set_ok w7 gd gp gb gr gs 200 _ _ _ s6 L6 _ _ (0 + 1) _ (HC6.out.later HW7.out) HP6.out 0 0 rfl (by omega) (some ⟨w6.heap.size, 0, none⟩) 1 1 P6 (by rw [hw7]; exact rd_one (x := 6) (by omega)) (by omega) len3 (by omega) (by omega) (by omega))
  go_wp2_with fail
  rw [← hw7]
  clear hw7
  refine HS7.out.mono ?_
  rintro e w8 ⟨rfl, s8, L8, hp8, hc8, hs8⟩
  have HS8 := Lib.hid hs8
  have hD := sdiff_any w8 _ _ gs gr _ _ _ 0 1 hc8.sto hc8.ok (by omega)
  have e0 : lkS F6 ([] ++ [(0 + 1, F5)]) 0 = some F6 := by simp [lkS]
  have e1 : lkS F6 ([] ++ [(0 + 1, F5)]) 1 = some F5 := by simp [lkS]
  have HD : Hid (Calls Tryz.prog 19 #[.pointer (some ⟨gs, 0, none⟩), .int .i64 0, .int .i64 1] w8 fun e w' => Below w8.heap.size w8 w' ∧ ∃ b o c a' c', e = .returned (.tuple #[.slice (some ⟨b, o, none⟩) 1 c, .slice a' 0 c', .int .i64 0]) ∧ w'.cell? ⟨b, o + 1, none⟩ = some (.int .i64 1)) := by
    refine Lib.hid (hD.mono ?_)
    rintro e w' ⟨hb, ⟨h1 | h1, _⟩ | ⟨G, H, M, K, a, n, c, a', n', c', h1, h2, _, _, rfl, hM, hK, hr, hr'⟩⟩
    · cases e0.symm.trans h1
    · cases e1.symm.trans h1
    · obtain rfl : F6 = G := Option.some.inj (e0.symm.trans h1)
      obtain rfl : F5 = H := Option.some.inj (e1.symm.trans h2)
      have eM := hM.unique diff56
      have eK := hK.unique gone56
      subst eM
      subst eK
      obtain rfl : n = 1 := by have := hr.1; simpa using this.symm
      obtain rfl : n' = 0 := by have := hr'.1; simpa using this.symm
      obtain ⟨b, o, rfl, hcl⟩ := hr.2 (by omega)
      exact ⟨hb, b, o, c, a', c', rfl, by have := (hcl 0 (by omega)).2; simpa using this⟩
  clear hp8 hc8 hs8 HS7 hD e0 e1
  go_wp2_with fail
  refine HD.out.mono ?_
  rintro e w9 ⟨hb9, b, o, c, a', c', rfl, hcl⟩
  have HB9 := Lib.hid hb9
  clear hb9 HD
  go_wp2
  go_ret
  refine ⟨rfl, ?_⟩
  obtain ⟨hgp, hb1⟩ := HE1.out
  obtain ⟨hgd, hgb, hb2⟩ := HE2.out
  obtain ⟨hgr, hgs, hb3⟩ := HE3.out
  have t1 := hb1.size
  have t2 := hb2.size
  have t3 := hb3.size
  have hV : ∀ k ∈ [gp, gb, gr, gs], w.heap.size ≤ k := by
    intro k hk
    simp only [List.mem_cons, List.not_mem_nil, or_false] at hk
    omega
  have b3 : Below w.heap.size w w3 := (hb1.trans (hb2.mono t1)).trans (hb3.mono (by omega))
  have b4 := b3.trans (HW4.out.mono b3.size)
  have b5 := b4.trans (HS5.out.below b4.size hV)
  have b6 := b5.trans (HS6.out.below b5.size hV)
  have b7 := b6.trans (HW7.out.mono b6.size)
  have b8 := b7.trans (HS8.out.below b7.size hV)
  exact b8.trans (HB9.out.mono b8.size)

end Go.Proofs.YtaijjogjohbheaaGreat
