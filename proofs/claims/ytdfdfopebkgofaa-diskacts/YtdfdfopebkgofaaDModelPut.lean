/- The contract of the document's own put. -/
import Derived.Test.YtdfdfopebkgofaaDModel
namespace Go.Proofs.Ytdfdfopebkgofaa
open Go.RowKit
set_option linter.unusedSimpArgs false

/-- Whatever power has planned: p writes till it falls (not 0). -/
theorem mput_goes (w : World) (gm gr k : Nat) (L : List Nat) (p p' t : Int) (i : Nat) (a : Option Addr) (n c : Nat) (b : List Nat) (hm : w.heap[gm]? = some (mObj gr (64 * k) true p t)) (hrow : w.heap[gr]? = some (rowObj 5 L)) (hL : L.length = 64 * k) (hk : k ≤ 65536) (hne : gm ≠ gr)
    (hp : p ≠ 0) (hp1 : -1 ≤ p) (hp2 : p < 9223372036854775808) (hp' : p' = max (p - 1) (-1)) (hi : i < k) (hn : n ≤ 64) (hr : Rd w a n b) :
    Calls Try.prog 9 #[.pointer (some ⟨gm, 0, none⟩), .int .i64 (i : Int), .slice a n c] w fun e w' => e = .returned (.int .i64 0) ∧ w'.heap[gm]? = some (mObj gr (64 * k) true p' t) ∧ w'.heap[gr]? = some (rowObj 5 (splice L (64 * i) (secOf b))) ∧ Save [gm, gr] w w' := by
  obtain ⟨c0, c1, c2, _⟩ := mcells hm
  obtain ⟨K, hK⟩ : ∃ K : Nat, K = 64 * k := ⟨_, rfl⟩
  obtain ⟨I, hI⟩ : ∃ I : Nat, I = 64 * i := ⟨_, rfl⟩
  have hdiv : ((64 * k : Nat) : Int) / 64 = (k : Int) := by omega
  rw [← hK] at c0 hdiv hL hm ⊢
  rw [← hI]
  have hz : (p == 0) = false := by simpa using hp
  have hwp : IntKind.i64.wrap (p - 1) = p - 1 := by rw [IntKind.wrap_i64] <;> omega
  have hwi : IntKind.i64.wrap (64 * (i : Int)) = (I : Int) := by rw [IntKind.wrap_i64] <;> omega
  have hwj : IntKind.i64.wrap ((I : Int) + 64) = ((I + 64 : Nat) : Int) := by rw [IntKind.wrap_i64] <;> omega
  have hwn : IntKind.i64.wrap (64 - (n : Int)) = ((64 - n : Nat) : Int) := by rw [IntKind.wrap_i64] <;> omega
  have hcut : cutA (some ⟨gr, 0, none⟩) K I = some ⟨gr, I, none⟩ := by
    unfold cutA
    rw [if_neg (by omega)]
    simp [add_plain]
  have hsl : ∀ W : World, (Instr.slice 32 (.slice (some ⟨gr, 0, none⟩) K K) (some (.int .i64 (I : Int))) (some (.int .i64 ((I + 64 : Nat) : Int))) none).run Try.prog W = .ok (.slice (cutA (some ⟨gr, 0, none⟩) K I) (I + 64 - I) (K - I)) W := fun W => slice_two _ _ _ _ _ .i64 .i64 (by omega) (by omega) W
  rw [hcut, show I + 64 - I = 64 by omega] at hsl
  have hIK : I + 64 ≤ K := by omega
  obtain ⟨J, hJ⟩ : ∃ J : Nat, J = I + 64 := ⟨_, rfl⟩
  obtain ⟨d, hd⟩ : ∃ d : Nat, d = 64 - n := ⟨_, rfl⟩
  rw [← hJ] at hwj hsl
  rw [← hd] at hwn
  have H0 := Lib.hid (And.intro hm (And.intro hrow (And.intro hL (And.intro hr (And.intro hd hp')))))
  clear hm hrow hL hr hd hJ hcut hI hK hp hp1 hp2 hp'
  go_enter Try.func9, Try.ntmps9
  go_wp2_with (at_builtin; have _t := hn; refine wpList_fresh rfl (.tmp 32) (.tmp 33) rfl w.heap.size rfl a n c rfl (heap_alloc_new w _) b (H0.out.2.2.2.1.later (Below.alloc0 _ _)) (by omega) ?next)
  case next =>
    intro gO cO w2 hgO hO hg2
    have HO := Lib.hid hO
    have HB2 : Hid (Below w.heap.size w w2) := Lib.hid ((Below.alloc0 w _).grown hg2 (by simp) (by simp))
    clear hO hg2 hgO
    go_wp2_with (refine wpList_append_zeros rfl (.tmp 34) (.tmp 37) rfl gO n cO rfl d rfl w.heap.size b HO.out H0.out.2.2.2.1.1 HB2.out.size (by have := H0.out.2.2.2.2.1; omega) ?next2)
    case next2 =>
      intro v3 w3 hO3 hb3
      have HB3 : Hid (Below w.heap.size w w3) := Lib.hid (HB2.out.trans hb3)
      have HO3 : Hid (Own w3 w.heap.size v3 (secOf b)) := by
        have e : b ++ List.replicate d 0 = secOf b := by
          unfold secOf
          rw [H0.out.2.2.2.1.1, H0.out.2.2.2.2.1]
        rw [e] at hO3
        exact Lib.hid hO3
      clear hO3 hb3 HO HB2
      have hm3 : w3.heap[gm]? = some (mObj gr K true p t) := (HB3.out.block gm (lt_of_block H0.out.1)).trans H0.out.1
      have hr3 : w3.heap[gr]? = some (rowObj 5 L) := (HB3.out.block gr (lt_of_block H0.out.2.1)).trans H0.out.2.1
      have H3 := Lib.hid (And.intro hm3 hr3)
      obtain ⟨d0, d1, d2, _⟩ := mcells hm3
      have f3 := msoft hm3
      clear hm3 hr3
      go_upto_region 11 with fail
      obtain ⟨w4, h4⟩ : ∃ w4, w4 = w3.setCell ⟨gm, 2, none⟩ (.int .i64 (max (p - 1) (-1))) := ⟨_, rfl⟩
      rw [← h4]
      rw [mlay2 H3.out.1, ← H0.out.2.2.2.2.2] at h4
      have HM4 : Hid (w4.heap[gm]? = some (mObj gr K true p' t)) := by rw [h4]; exact Lib.hid (put_same H3.out.1)
      have HR4 : Hid (w4.heap[gr]? = some (rowObj 5 L)) := by rw [h4]; exact Lib.hid ((put_other (Ne.symm hne)).trans H3.out.2)
      have HS4 : Hid (Save [gm, gr] w w4) := by rw [h4]; exact Lib.hid ((Save.of_below HB3.out _).put (by simp) _)
      obtain ⟨aS, cS, hv, hrS, _, hbase⟩ := HO3.out.lies
      have hsl64 : (secOf b).length = 64 := secOf_length (by rw [H0.out.2.2.2.1.1]; exact hn)
      rw [hsl64] at hv hrS
      subst hv
      have HRS : Hid (Rd w4 aS 64 (secOf b)) := by
        rw [h4]
        have hlt := lt_of_block H0.out.1
        refine Lib.hid (hrS.save (X := [gm]) ((Save.refl _ _).put (by simp) _) (fun b' o' e hb' => ?_))
        have := hbase b' o' e
        simp only [List.mem_singleton] at hb'
        omega
      clear hrS hbase HO3 d0 d1 d2 f3
      obtain ⟨d0, _, _, _⟩ := mcells HM4.out
      have HSL := Lib.hid hsl64
      clear h4 hsl64
      go_wp2_with (refine wpList_copy_bytes rfl (.tmp 72) (.tmp 73) rfl _ _ _ _ _ _ rfl rfl gr I 5 L (secOf b) HR4.out HRS.out (fun _ => rfl) ?fit (splice L I (secOf b)) ?eq ?next4)
      case fit => rw [H0.out.2.2.1]; omega
      case eq => rw [Nat.min_self, List.take_of_length_le (by rw [HSL.out]; exact Nat.le_refl _)]
      case next4 =>
        intro w5 H5
        go_wp2
        go_ret
        have h5 := H5.out
        refine ⟨rfl, ?_, ?_, ?_⟩
        · rw [h5]; exact (put_other hne).trans HM4.out
        · rw [h5]; exact put_same HR4.out
        · rw [h5]; exact HS4.out.put (by simp) _

/-- Power falls at this write: M bytes go through. -/
theorem mput_falls (w : World) (gm gr k : Nat) (L : List Nat) (t : Int) (i M : Nat) (a : Option Addr) (n c : Nat) (b : List Nat) (hm : w.heap[gm]? = some (mObj gr (64 * k) true 0 t)) (hrow : w.heap[gr]? = some (rowObj 5 L)) (hL : L.length = 64 * k) (hk : k ≤ 65536) (hne : gm ≠ gr)
    (hM : (M : Int) = min (max t 0) 64) (hi : i < k) (hn : n ≤ 64) (hr : Rd w a n b) :
    Calls Try.prog 9 #[.pointer (some ⟨gm, 0, none⟩), .int .i64 (i : Int), .slice a n c] w fun e w' => e = .returned (.int .i64 11) ∧ w'.heap[gm]? = some (mObj gr (64 * k) false (-1) t) ∧ w'.heap[gr]? = some (rowObj 5 (splice L (64 * i) ((secOf b).take M))) ∧ Save [gm, gr] w w' := by
  obtain ⟨c0, c1, c2, c3⟩ := mcells hm
  obtain ⟨K, hK⟩ : ∃ K : Nat, K = 64 * k := ⟨_, rfl⟩
  obtain ⟨I, hI⟩ : ∃ I : Nat, I = 64 * i := ⟨_, rfl⟩
  have hdiv : ((64 * k : Nat) : Int) / 64 = (k : Int) := by omega
  rw [← hK] at c0 hdiv hL hm ⊢
  rw [← hI]
  have hM64 : M ≤ 64 := by omega
  have hmm : min (max t 0) 64 = (M : Int) := hM.symm
  have hwi : IntKind.i64.wrap (64 * (i : Int)) = (I : Int) := by rw [IntKind.wrap_i64] <;> omega
  have hwj : IntKind.i64.wrap ((I : Int) + (M : Int)) = ((I + M : Nat) : Int) := by rw [IntKind.wrap_i64] <;> omega
  have hwn : IntKind.i64.wrap (64 - (n : Int)) = ((64 - n : Nat) : Int) := by rw [IntKind.wrap_i64] <;> omega
  have hcut : cutA (some ⟨gr, 0, none⟩) K I = some ⟨gr, I, none⟩ := by
    unfold cutA
    rw [if_neg (by omega)]
    simp [add_plain]
  have hsl : ∀ W : World, (Instr.slice 32 (.slice (some ⟨gr, 0, none⟩) K K) (some (.int .i64 (I : Int))) (some (.int .i64 ((I + M : Nat) : Int))) none).run Try.prog W = .ok (.slice (cutA (some ⟨gr, 0, none⟩) K I) (I + M - I) (K - I)) W := fun W => slice_two _ _ _ _ _ .i64 .i64 (by omega) (by omega) W
  rw [hcut, show I + M - I = M by omega] at hsl
  have hIK : I + 64 ≤ K := by omega
  obtain ⟨J, hJ⟩ : ∃ J : Nat, J = I + M := ⟨_, rfl⟩
  obtain ⟨d, hd⟩ : ∃ d : Nat, d = 64 - n := ⟨_, rfl⟩
  rw [← hJ] at hwj hsl
  rw [← hd] at hwn
  have H0 := Lib.hid (And.intro hm (And.intro hrow (And.intro hL (And.intro hr hd))))
  clear hm hrow hL hr hd hJ hcut hI hK hM
  go_enter Try.func9, Try.ntmps9
  go_wp2_with (at_builtin; have _t := hn; refine wpList_fresh rfl (.tmp 32) (.tmp 33) rfl w.heap.size rfl a n c rfl (heap_alloc_new w _) b (H0.out.2.2.2.1.later (Below.alloc0 _ _)) (by omega) ?next)
  case next =>
    intro gO cO w2 hgO hO hg2
    have HO := Lib.hid hO
    have HB2 : Hid (Below w.heap.size w w2) := Lib.hid ((Below.alloc0 w _).grown hg2 (by simp) (by simp))
    clear hO hg2 hgO
    go_wp2_with (refine wpList_append_zeros rfl (.tmp 34) (.tmp 37) rfl gO n cO rfl d rfl w.heap.size b HO.out H0.out.2.2.2.1.1 HB2.out.size (by have := H0.out.2.2.2.2; omega) ?next2)
    case next2 =>
      intro v3 w3 hO3 hb3
      have HB3 : Hid (Below w.heap.size w w3) := Lib.hid (HB2.out.trans hb3)
      have HO3 : Hid (Own w3 w.heap.size v3 (secOf b)) := by
        have e : b ++ List.replicate d 0 = secOf b := by
          unfold secOf
          rw [H0.out.2.2.2.1.1, H0.out.2.2.2.2]
        rw [e] at hO3
        exact Lib.hid hO3
      clear hO3 hb3 HO HB2
      have hm3 : w3.heap[gm]? = some (mObj gr K true 0 t) := (HB3.out.block gm (lt_of_block H0.out.1)).trans H0.out.1
      have hr3 : w3.heap[gr]? = some (rowObj 5 L) := (HB3.out.block gr (lt_of_block H0.out.2.1)).trans H0.out.2.1
      have H3 := Lib.hid (And.intro hm3 hr3)
      obtain ⟨d0, d1, d2, d3⟩ := mcells hm3
      have f3 := msoft hm3
      clear hm3 hr3
      go_upto_region 11 with fail
      obtain ⟨w4, h4⟩ : ∃ w4, w4 = (w3.setCell ⟨gm, 1, none⟩ (.bool false)).setCell ⟨gm, 2, none⟩ (.int .i64 (-1)) := ⟨_, rfl⟩
      rw [← h4]
      rw [mlay1 H3.out.1, mlay2 (put_same H3.out.1), put_put] at h4
      have HM4 : Hid (w4.heap[gm]? = some (mObj gr K false (-1) t)) := by rw [h4]; exact Lib.hid (put_same H3.out.1)
      have HR4 : Hid (w4.heap[gr]? = some (rowObj 5 L)) := by rw [h4]; exact Lib.hid ((put_other (Ne.symm hne)).trans H3.out.2)
      have HS4 : Hid (Save [gm, gr] w w4) := by rw [h4]; exact Lib.hid ((Save.of_below HB3.out _).put (by simp) _)
      obtain ⟨aS, cS, hv, hrS, _, hbase⟩ := HO3.out.lies
      have hsl64 : (secOf b).length = 64 := secOf_length (by rw [H0.out.2.2.2.1.1]; exact hn)
      rw [hsl64] at hv hrS
      subst hv
      have HRS : Hid (Rd w4 aS 64 (secOf b)) := by
        rw [h4]
        have hlt := lt_of_block H0.out.1
        refine Lib.hid (hrS.save (X := [gm]) ((Save.refl _ _).put (by simp) _) (fun b' o' e hb' => ?_))
        have := hbase b' o' e
        simp only [List.mem_singleton] at hb'
        omega
      clear hrS hbase HO3 d0 d1 d2 d3 f3
      obtain ⟨d0, _, _, _⟩ := mcells HM4.out
      have HSL := Lib.hid hsl64
      clear h4 hsl64
      go_wp2_with (refine wpList_copy_bytes rfl (.tmp 72) (.tmp 73) rfl _ _ _ _ _ _ rfl rfl gr I 5 L (secOf b) HR4.out HRS.out (fun _ => rfl) ?fit (splice L I ((secOf b).take M)) ?eq ?next4)
      case fit => rw [H0.out.2.2.1]; omega
      case eq => rw [Nat.min_eq_right hM64]
      case next4 =>
        intro w5 H5
        go_wp2
        go_ret
        have h5 := H5.out
        refine ⟨rfl, ?_, ?_, ?_⟩
        · rw [h5]; exact (put_other hne).trans HM4.out
        · rw [h5]; exact put_same HR4.out
        · rw [h5]; exact HS4.out.put (by simp) _

theorem till_some {o : Bool} {k c : Nat} {t : Int} : (Pw.mk o (some (k, t)) c).till = (k : Int) := rfl
theorem till_none {o : Bool} {c : Nat} : (Pw.mk o none c).till = -1 := rfl

theorem mput_yes (w : World) (gm gr k : Nat) (s : Pw) (L : List Nat) (i : Nat) (a : Option Addr) (n c : Nat) (b : List Nat) (h : Mod w gm gr s L k) (hok : s.ok) (hi : i < k) (hn : n ≤ 64) (hr : Rd w a n b) :
    Calls Try.prog 9 #[.pointer (some ⟨gm, 0, none⟩), .int .i64 (i : Int), .slice a n c] w fun e w' => e = .returned (.int .i64 ((dPut s L i b).2.2 : Int)) ∧ Mod w' gm gr (dPut s L i b).1 (dPut s L i b).2.1 k ∧ Save [gm, gr] w w' := by
  have hsec : (secOf b).length = 64 := secOf_length (by rw [hr.1]; exact hn)
  have hsb := secOf_byte hr.2.1
  have hlen : ∀ x : List Nat, x.length ≤ 64 → (splice L (64 * i) x).length = 64 * k := by
    intro x hx
    rw [length_splice, h.len]
    rw [h.len]
    omega
  by_cases ho : s.on = false
  · refine (mput_down w gm gr k s L i a n c h hi hn ho).mono ?_
    rintro e w' ⟨rfl, rfl⟩
    have hw := write_off (s := s) (n := 64) (by omega) ho
    have e : dPut s L i b = (s, L, 11) := by
      simp only [dPut, hw]
      simp [splice_nil]
    rw [e]
    exact ⟨rfl, h, Save.refl _ _⟩
  have ho' : s.on = true := by simpa using ho
  obtain ⟨o, p, cn⟩ := s
  simp only at ho'
  subst ho'
  obtain ⟨t, ht, htp⟩ := h.obj
  match p, hok, ht, htp with
  | none, hok, ht, htp =>
    have e : dPut ⟨true, none, cn⟩ L i b = (⟨true, none, cn + 1⟩, splice L (64 * i) (secOf b), 0) := by
      simp only [dPut, write_on (c := cn) (n := 64) (show ¬ (64 : Int) < 0 by omega) rfl]
      simp [List.take_of_length_le (Nat.le_of_eq hsec)]
    rw [e]
    refine (mput_goes w gm gr k L (-1) (-1) t i a n c b ht h.row h.len h.ksmall h.ne (by omega) (by omega) (by omega) (by omega) hi hn hr).mono ?_
    rintro e w' ⟨rfl, h1, h2, h3⟩
    exact ⟨rfl, ⟨⟨t, h1, by simp⟩, h2, hlen _ (Nat.le_of_eq hsec), splice_byte h.byte hsb _, h.ksmall, h.ne⟩, h3⟩
  | some (0, t'), hok, ht, htp =>
    obtain rfl := htp 0 t' rfl
    obtain ⟨M, hM⟩ : ∃ M : Nat, (M : Int) = min (max t 0) 64 := ⟨(min (max t 0) 64).toNat, by omega⟩
    have e : dPut ⟨true, some (0, t), cn⟩ L i b = (⟨false, none, cn + 1⟩, splice L (64 * i) ((secOf b).take M), 11) := by
      simp only [dPut, write_fall (c := cn) (t := t) (n := 64) (show ¬ (64 : Int) < 0 by omega) rfl, ← hM]
      simp
    rw [e]
    refine (mput_falls w gm gr k L t i M a n c b ht h.row h.len h.ksmall h.ne hM hi hn hr).mono ?_
    rintro e w' ⟨rfl, h1, h2, h3⟩
    exact ⟨rfl, ⟨⟨t, h1, by simp⟩, h2, hlen _ (by simp; omega), splice_byte h.byte (fun x hx => hsb x (List.mem_of_mem_take hx)) _, h.ksmall, h.ne⟩, h3⟩
  | some (q + 1, t'), hok, ht, htp =>
    obtain rfl := htp (q + 1) t' rfl
    have hq := hok.1 (q + 1) t rfl
    have e : dPut ⟨true, some (q + 1, t), cn⟩ L i b = (⟨true, some (q, t), cn + 1⟩, splice L (64 * i) (secOf b), 0) := by
      simp only [dPut, write_less (c := cn) (k := q) (t := t) (n := 64) (show ¬ (64 : Int) < 0 by omega) rfl]
      simp [List.take_of_length_le (Nat.le_of_eq hsec)]
    rw [e]
    refine (mput_goes w gm gr k L ((q + 1 : Nat) : Int) (q : Int) t i a n c b ht h.row h.len h.ksmall h.ne (by omega) (by omega) (by omega) (by omega) hi hn hr).mono ?_
    rintro e w' ⟨rfl, h1, h2, h3⟩
    exact ⟨rfl, ⟨⟨t, h1, by rintro j u e; injection e with e; injection e⟩, h2, hlen _ (Nat.le_of_eq hsec), splice_byte h.byte hsb _, h.ksmall, h.ne⟩, h3⟩

end Go.Proofs.Ytdfdfopebkgofaa
