/- A stream's bytes are read as its records. Plain mathematics. -/
import Derived.Test.YtaijldcfoaeogaaGreatGRcLawToSmWhole
import Derived.Test.YtaijldcfoaeogaaGreatGSmMathToSmMk
import Derived.Test.YtaijldcfoaeogaaGreatSmMake
namespace Go.Proofs.YtaijldcfoaeogaaGreat
open Go.RowKit
set_option maxRecDepth 100000
set_option linter.unusedSimpArgs false

theorem whl_flat (b : List Nat) : ∀ (ys acc : List Rec) (f : Nat), b = flatB acc ++ (flatB ys ++ (tailR (acc ++ ys)).bytes) → (∀ y ∈ acc ++ ys, y.ok = true) → (∀ y ∈ ys, y.k ≠ 4) → (acc ++ ys).length ≤ 100000 →
    (acc = [] → ∃ y zs, ys = y :: zs ∧ y.k = 1 ∧ ∀ z ∈ zs, z.k ≠ 1) → (acc ≠ [] → ∀ y ∈ ys, y.k ≠ 1) → ys.length < f → whl b f (flatB ys ++ (tailR (acc ++ ys)).bytes) acc = (acc ++ ys, 0) := by
  intro ys
  induction ys with
  | nil =>
    intro acc f hb hok hk hl h0 h1 hf
    obtain ⟨g, rfl⟩ : ∃ g, f = g + 1 := ⟨f - 1, by omega⟩
    have hne : acc ≠ [] := fun e => by obtain ⟨y, zs, h, _⟩ := h0 e; cases h
    have hto := tailR_ok (xs := acc ++ []) (fun y hy => hok y hy) hl
    rw [List.append_nil] at hto hb ⊢
    have e1 : flatB [] = [] := rfl
    rw [e1, List.nil_append] at hb ⊢
    obtain ⟨r1, r2⟩ := rdRec_app hto []
    rw [List.append_nil] at r1 r2
    unfold whl
    rw [r1, r2]
    have hbl : b.length - (tailR acc).bytes.length = (flatB acc).length := by rw [hb]; simp
    have hbt : b.take (flatB acc).length = flatB acc := by rw [hb]; simp
    rw [if_neg (by simp), if_neg (by rintro (⟨h, _⟩ | ⟨_, h⟩); exact hne h; simp [tailR] at h), if_neg (by simp [tailR]), if_neg, if_neg (by simp)]
    rw [hbl, hbt]
    rintro (h | h | h)
    · exact h rfl
    · exact h rfl
    · exact h rfl
  | cons y ys ih =>
    intro acc f hb hok hk hl h0 h1 hf
    obtain ⟨g, rfl⟩ : ∃ g, f = g + 1 := ⟨f - 1, by simp at hf; omega⟩
    have e1 : flatB (y :: ys) = y.bytes ++ flatB ys := by simp [flatB]
    have e2 : acc ++ y :: ys = (acc ++ [y]) ++ ys := by simp
    have hyo := hok y (by simp)
    rw [e1, List.append_assoc]
    obtain ⟨r1, r2⟩ := rdRec_app hyo (flatB ys ++ (tailR (acc ++ y :: ys)).bytes)
    unfold whl
    rw [r1, r2]
    rw [if_neg (by simp), if_neg, if_pos (hk y (by simp))]
    · rw [e2]
      refine ih (acc ++ [y]) g ?_ ?_ (fun z hz => hk z (by simp [hz])) (by rw [← e2]; exact hl) (fun h => by simp at h) (fun _ z hz => ?_) (by simp at hf; omega)
      · rw [← e2, flatB_append, flatB_one, List.append_assoc, hb, e1, List.append_assoc]
      · rw [← e2]; exact hok
      · by_cases ha : acc = []
        · obtain ⟨y', zs, h, _, h3⟩ := h0 ha
          injection h with h4 h5
          subst h5
          exact h3 z hz
        · exact h1 ha z (by simp [hz])
    · rintro (⟨ha, h⟩ | ⟨ha, h⟩)
      · obtain ⟨y', zs, h4, h5, _⟩ := h0 ha
        injection h4 with h6 h7
        subst h6
        exact h h5
      · exact h1 ha y (by simp) h

theorem bytes_six {x : Rec} (h : x.ok = true) : 6 ≤ x.bytes.length := by
  have h1 := Rec.plain_len h
  have h2 : 1 ≤ (vEnc (x.plain ++ sumB (cSum x.plain)).length).length := vEnc_pos _
  simp only [Rec.bytes, tEnc, List.length_append] at h2 ⊢
  simp [sumB] at h2 ⊢
  omega

/-- A stream that was made is read as its records. -/
theorem strm_made {h : Rec} {t : List Rec} (hh : h.ok = true) (hk : h.k = 1) (ht : ∀ y ∈ t, y.ok = true ∧ y.k ≠ 1 ∧ y.k ≠ 4) (hl : t.length ≤ 5000) : strm (strmB (h :: t)) = (h :: t, 0) := by
  have hok : ∀ y ∈ h :: t, y.ok = true := by
    intro y hy
    simp only [List.mem_cons] at hy
    rcases hy with rfl | hy
    · exact hh
    · exact (ht y hy).1
  have hlen : (h :: t).length ≤ (flatB (h :: t)).length := by
    have : ∀ (xs : List Rec), (∀ y ∈ xs, y.ok = true) → xs.length ≤ (flatB xs).length := by
      intro xs
      induction xs with
      | nil => intro _; simp
      | cons x xs ih =>
        intro h
        have e : flatB (x :: xs) = x.bytes ++ flatB xs := by simp [flatB]
        have := bytes_len (h x (by simp))
        have := ih fun y hy => h y (by simp [hy])
        rw [e, List.length_append, List.length_cons]
        omega
    exact this _ hok
  have := whl_flat (strmB (h :: t)) (h :: t) [] ((strmB (h :: t)).length + 1) (by simp [strmB, flatB]) (by simpa using hok) (by
    intro y hy
    simp only [List.mem_cons] at hy
    rcases hy with rfl | hy
    · omega
    · exact (ht y hy).2.2) (by simp; omega) (fun _ => ⟨h, t, rfl, hk, fun z hz => (ht z hz).2.1⟩) (fun h => absurd rfl h) (by
      simp only [strmB, List.length_append]; omega)
  simpa [strm, strmB] using this

end Go.Proofs.YtaijldcfoaeogaaGreat

/- The chapter's example, in the statements: it holds, over any world. -/
namespace Go.Proofs.YtaijldcfoaeogaaGreat
open Go.RowKit
set_option maxRecDepth 100000
set_option linter.unusedSimpArgs false

theorem recs_parts {F G : List (List Nat)} {M N : List Rn} (hF : okF F) (hG : okF G) (hM : SetF (diffF F G) M) (hN : SetF (goneF F G) N) : ∀ y ∈ ((pcsR M).map (dataR F) ++ N.map holeR), y.ok = true ∧ y.k ≠ 1 ∧ y.k ≠ 4 := by
  intro y hy
  simp only [List.mem_append, List.mem_map] at hy
  rcases hy with ⟨r, hr, rfl⟩ | ⟨r, hr, rfl⟩
  · exact ⟨(dataR_ok hF (diffF_len F G) hM (diff_in hF hG) hr).1, by simp [dataR], by simp [dataR]⟩
  · exact ⟨holeR_ok (goneF_len F G) hN hr, by simp [holeR], by simp [holeR]⟩

/-- What Make makes is read as its records. -/
theorem strm_recs {i bb : Int} {F G : List (List Nat)} {M N : List Rn} (hF : okF F) (hG : okF G) (hh : (headR i bb).ok = true) (hM : SetF (diffF F G) M) (hN : SetF (goneF F G) N) : strm (strmB (recsR i bb F M N)) = (recsR i bb F M N, 0) := by
  have h2 := (recs_ok hF hG hh hM hN).2
  exact strm_made hh (by simp [headR]) (recs_parts hF hG hM hN) (by simp [recsR] at h2 ⊢; omega)

theorem recs_holes (i bb : Int) {M N : List Rn} (hM : SetF (diffF holes holes) M) (hN : SetF (goneF holes holes) N) : recsR i bb holes M N = [headR i bb] := by
  have e : ∀ {H : List (List Nat)} {K : List Rn}, SetF H K → (∀ z : Int, fAt H z = []) → K = [] := by
    intro H K hK h
    cases K with
    | nil => rfl
    | cons r K =>
      obtain ⟨a, ha⟩ := hK.set
      have h1 := (hK.mem r.f).1 ⟨r, by simp, Int.le_refl _, ha.2.1⟩
      exact absurd (h _) h1
  have h1 := e hM fun z => by rw [fAt_diffF holes_ok.1 holes_ok.1]; simp [fAt_holes]
  have h2 := e hN fun z => by rw [fAt_goneF holes_ok.1 holes_ok.1]; simp [fAt_holes]
  subst h1
  subst h2
  simp [recsR, pcsR]

theorem strm_len {xs : List Rec} {x : Rec} (hx : x.ok = true) (h : ∀ y ∈ x :: xs, y.ok = true) (hl : xs.length ≤ 5000) : 12 ≤ (strmB (x :: xs)).length ∧ (strmB (x :: xs)).length ≤ 160 * xs.length + 320 := by
  have h1 := bytes_six hx
  have ht := tailR_ok h (by simp; omega)
  have h2 := bytes_six ht
  have h3 := bytes_len ht
  have h4 := flatB_len h
  have e : flatB (x :: xs) = x.bytes ++ flatB xs := by simp [flatB]
  rw [List.length_cons] at h4
  constructor
  · simp only [strmB, List.length_append, e]; omega
  · simp only [strmB, List.length_append]; omega

set_option maxHeartbeats 2000000 in
set_option maxRecDepth 100000 in
theorem smLives_any (w : World) : Calls Tryz.prog 5 #[] w fun e w' => e = .returned (.bool true) ∧ Below w.heap.size w w' := by
  have hok : (headR 4 0).ok = true := by decide
  have HOK := Lib.hid hok
  clear hok
  go_enter Tryz.func5, Tryz.ntmps5
  go_wp2_with fail
  refine (imgNew_any w).mono ?_
  rintro e w1 ⟨g1, b1, rfl, hg1, hb1, hi1, hw1⟩
  have HW1 := Lib.hid hw1
  have HI1 := Lib.hid hi1
  clear hw1 hi1 hg1 hb1
  go_wp2_with fail
  refine (imgNew_any w1).mono ?_
  rintro e w2 ⟨g2, b2, rfl, hg2, hb2, hi2, hw2⟩
  have HW2 : Hid (Below w.heap.size w w2) := Lib.hid (HW1.out.trans (hw2.mono HW1.out.size))
  have HI2 : Hid (Img w2 g1 b1 0 holes) := Lib.hid (HI1.out.later hw2)
  have HJ2 := Lib.hid hi2
  clear hw2 hi2 hg2 hb2
  have hmk := make_any w2 4 0 g1 b1 0 holes holes (.pointer (some ⟨g2, 0, none⟩)) HI2.out holes_ok fun W hW => diff_any W g1 b1 0 g2 b2 0 holes holes (HI2.out.later hW) (HJ2.out.later hW) (by omega)
  have HMK := Lib.hid hmk
  clear hmk
  go_wp2_with fail
  refine HMK.out.mono ?_
  rintro e w3 ⟨hb3, ⟨hno, _⟩ | ⟨_, M, N, v, hM, hN, rfl, ho⟩⟩
  · rw [HOK.out] at hno; cases hno
  have hst := strm_recs holes_ok holes_ok HOK.out hM hN
  rw [recs_holes 4 0 hM hN] at hst ho
  have hlen := strm_len (x := headR 4 0) (xs := []) HOK.out (by simp [HOK.out]) (by simp)
  obtain ⟨a, c, rfl, hrd, _⟩ := ho.sl
  obtain ⟨B, hB⟩ : ∃ B, B = strmB [headR 4 0] := ⟨_, rfl⟩
  rw [← hB] at hst hrd hlen ⊢
  obtain ⟨bl, hbl⟩ : ∃ bl, bl = B.length := ⟨_, rfl⟩
  rw [← hbl] at hrd hlen ⊢
  have hwh := whole_any w3 a bl c B hrd (by simp at hlen; omega)
  rw [hst] at hwh
  have HWH := Lib.hid hwh
  have HB3 : Hid (Below w.heap.size w w3) := Lib.hid (HW2.out.trans (hb3.mono HW2.out.size))
  have hl10 : 10 < bl := by omega
  clear hwh hst hrd hB hbl hb3 hM hN ho hlen
  go_wp2_with fail
  refine HWH.out.mono ?_
  rintro e w4 ⟨hb4, ⟨hno, _⟩ | ⟨_, x, xs, L, a', c', hx, hL, rfl, hrc⟩⟩
  · simp at hno
  simp only [List.cons.injEq] at hx
  obtain ⟨rfl, rfl⟩ := hx
  have HB4 : Hid (Below w.heap.size w w4) := Lib.hid (HB3.out.trans (hb4.mono HB3.out.size))
  clear hrc hL hb4
  have hi4 : (headR 4 0).i = 4 := rfl
  have hb0 : (headR 4 0).b = 0 := rfl
  have hl10 : ((10 : Int) < (bl : Int)) := by omega
  rw [hi4, hb0]
  go_wp2
  go_ret
  exact ⟨by simp [hl10], HB4.out.alloc HB4.out.size _⟩

end Go.Proofs.YtaijldcfoaeogaaGreat
