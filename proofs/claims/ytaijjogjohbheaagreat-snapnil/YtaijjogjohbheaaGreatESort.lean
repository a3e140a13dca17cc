/- The contract of slices.SortFunc as package extent calls it, by the library's own, over any world. -/
import Derived.Test.YtaijjogjohbheaaGreatERowAll
import Derived.Test.YtaijjogjohbheaaGreatShelf
namespace Go.Proofs.YtaijjogjohbheaaGreat
open Go.RowKit Go.Shelf Go.Lib Go.Sort

theorem compare_any (x y : Int) (W : World) : Calls Tryz.prog 61 #[.int .i64 x, .int .i64 y] W fun e w' => e = .returned (.int .i64 (if x < y then -1 else if y < x then 1 else 0)) ∧ w' = W := by
  have hnan : ∀ (z : Int) (W : World), Calls Tryz.prog 91 #[.int .i64 z] W fun e w' => e = .returned (.bool false) ∧ w' = W := by
    intro z W
    go_enter Tryz.func91, Tryz.ntmps91
    go_wp2
    go_ret
    exact ⟨rfl, rfl⟩
  by_cases h1 : x < y
  · rw [if_pos h1]
    go_enter Tryz.func61, Tryz.ntmps61
    go_wp2_with fail
    refine (hnan _ _).mono ?_
    rintro e w' ⟨rfl, rfl⟩
    go_wp2_with fail
    refine (hnan _ _).mono ?_
    rintro e w' ⟨rfl, rfl⟩
    go_wp2
    go_ret
    exact ⟨rfl, rfl⟩
  · have h1' : y ≤ x := by omega
    rw [if_neg h1]
    by_cases h2 : y < x
    · rw [if_pos h2]
      clear h1
      go_enter Tryz.func61, Tryz.ntmps61
      go_wp2_with fail
      refine (hnan _ _).mono ?_
      rintro e w' ⟨rfl, rfl⟩
      go_wp2_with fail
      refine (hnan _ _).mono ?_
      rintro e w' ⟨rfl, rfl⟩
      go_wp2
      go_ret
      exact ⟨rfl, rfl⟩
    · have h2' : x ≤ y := by omega
      rw [if_neg h2]
      clear h1 h2
      go_enter Tryz.func61, Tryz.ntmps61
      go_wp2_with fail
      refine (hnan _ _).mono ?_
      rintro e w' ⟨rfl, rfl⟩
      go_wp2_with fail
      refine (hnan _ _).mono ?_
      rintro e w' ⟨rfl, rfl⟩
      go_wp2
      go_ret
      exact ⟨rfl, rfl⟩

/-- A step's two cells. -/
def encR (x : Rn) : List Value := [.int .i64 x.f, .int .i64 x.t]

/-- What cmp says of two numbers. -/
def cmpI (x y : Int) : Int := if x < y then -1 else if y < x then 1 else 0

theorem stepCmp_any (x y : Rn) (W : World) : Calls Tryz.prog 108 #[.agg #[.int .i64 x.f, .int .i64 x.t], .agg #[.int .i64 y.f, .int .i64 y.t]] W fun e w' => e = .returned (.int .i64 (cmpI x.f y.f)) ∧ ∃ q os', w' = grow (W.drewN q) os' := by
  have hcon := fun W' => compare_any x.f y.f W'
  change ∀ W', Calls Tryz.prog 61 _ _ (fun e w' => e = .returned (.int .i64 (cmpI x.f y.f)) ∧ w' = _) at hcon
  generalize cmpI x.f y.f = r at hcon ⊢
  have HC := Lib.hid hcon
  clear hcon
  go_enter Tryz.func108, Tryz.ntmps108
  go_wp2_with fail
  refine (HC.out _).mono ?_
  rintro e w' ⟨rfl, rfl⟩
  go_wp2
  go_ret
  exact ⟨rfl, 0, _, by rw [alloc_eq_grow, alloc_eq_grow, grow_grow]; rfl⟩

theorem ltOf_cmp (x y : Rn) : ltOf (fun x y : Rn => cmpI x.f y.f) x y = decide (x.f < y.f) := by
  unfold ltOf cmpI
  by_cases h1 : x.f < y.f
  · simp [h1]
  · by_cases h2 : y.f < x.f <;> simp [h1, h2]

theorem swoR : SWO (ltOf fun x y : Rn => cmpI x.f y.f) where
  irrefl x := by rw [ltOf_cmp]; simp
  trans x y z h1 h2 := by rw [ltOf_cmp] at *; simp at *; omega
  ntrans x y z h1 h2 := by rw [ltOf_cmp] at *; simp at *; omega

theorem getD_toArray (L : List Rn) (j : Nat) : L.toArray[j]! = L.getD j default := by
  simp [List.getD]

theorem holdsK_of {w : World} {base T g cap : Nat} {L : List Rn} (h : OwnR w base T (.slice (some ⟨g, 0, none⟩) L.length cap) L) : HoldsK encR 2 w g 0 L.toArray := by
  obtain ⟨a, c, hv, hr, _, _⟩ := h.rd
  injection hv with h1 h2 h3
  subst h1
  have hblk : ∃ cur, w.heap[g]? = some (.cells cur T (0, 0)) := by
    rcases h.2 with ⟨hv, _⟩ | ⟨g', cap', cur, hv, _, hgo, _⟩
    · cases hv
    · injection hv with e1 _ _
      injection e1 with e1
      injection e1 with e1 _
      subst e1
      exact ⟨cur, hgo⟩
  obtain ⟨cur, hgo⟩ := hblk
  intro t ht
  rw [size_flatK] at ht
  have ht' : t < L.length * 2 := by simpa using ht
  refine ⟨?_, by simp [World.frozen?, hgo]⟩
  rw [get_flatK _ _ _ t ht, getD_toArray]
  obtain ⟨b, o, he, hc⟩ := hr.2 (by omega)
  injection he with he
  injection he with e1 e2
  subst e1
  subst e2
  have hc' := hc (t / 2) (by omega)
  rcases Nat.mod_two_eq_zero_or_one t with h2 | h2
  · rw [h2]
    have : 0 + t = 0 + t / 2 * 2 := by omega
    rw [this, hc'.1]
    rfl
  · rw [h2]
    have : 0 + t = 0 + t / 2 * 2 + 1 := by omega
    rw [this, hc'.2]
    rfl

theorem rdR_of {w : World} {g n : Nat} {d : Array Rn} (hn : d.size = n) (h : HoldsK encR 2 w g 0 d) : RdR w (some ⟨g, 0, none⟩) n d.toList := by
  refine ⟨by simpa using hn, fun _ => ⟨g, 0, rfl, fun j hj => ?_⟩⟩
  have e : d.toList.getD j default = d[j]! := by
    rw [← getD_toArray]
  rw [e]
  have h0 := (h.cell (i := j) (c := 0) (by omega) (by omega)).1
  have h1 := (h.cell (i := j) (c := 1) (by omega) (by omega)).1
  exact ⟨h0, h1⟩

theorem sort_any (a : Option Addr) (n c : Nat) (S : List Rn) (w : World) (base : Nat) (hbase : base ≤ w.heap.size) (hn : S.length = n) (hb : n < 4611686018427387904) (h : OwnR w base 179 (.slice a n c) S) :
    Calls Tryz.prog 107 #[.slice a n c, .func (.func 108) #[] #[]] w fun e w' => e = .returned (.tuple #[]) ∧ ∃ S', S'.Perm S ∧ RisS S' ∧ RdR w' a n S' ∧ Below base w w' := by
  rcases Nat.eq_zero_or_pos n with h0 | h0
  · subst h0
    have hS : S = [] := List.eq_nil_of_length_eq_zero hn
    subst hS
    have hcon := AnyF.slices_SortFunc_none sortSt a c (.func (.func 108) #[] #[]) w
    change Calls Tryz.prog 107 _ _ _ at hcon
    refine hcon.mono ?_
    rintro e w' ⟨rfl, rfl⟩
    exact ⟨rfl, [], List.Perm.refl _, List.Pairwise.nil, RdR.nil _ _, Below.refl _ _⟩
  · obtain ⟨g, cap, cur, hv, hbg, hgo⟩ : ∃ g cap cur, Value.slice a n c = .slice (some ⟨g, 0, none⟩) n cap ∧ base ≤ g ∧ w.heap[g]? = some (.cells cur 179 (0, 0)) := by
      rcases h.2 with ⟨hv, hl⟩ | ⟨g, cap, cur, hv, hbg, hgo, _⟩
      · omega
      · rw [hn] at hv
        exact ⟨g, cap, cur, hv, hbg, hgo⟩
    injection hv with e1 e2 e3
    subst e1
    subst e3
    subst hn
    have hH : HoldsK encR 2 w g 0 S.toArray := holdsK_of h
    have hlt : g < w.heap.size := lt_of_block hgo
    have eg : ∀ args w, (callFunc 108 args).run Tryz.prog w = .ok (.enter 108 args) w := enters_of Tryz.func108 (by kernel_rfl) rfl
    have hcon := AnyQ.slices_SortFunc sortSt 2 Tryz.isAgg179 Tryz.sizeOf179 encR (fun _ => rfl) (fun x v hv => by simp [encR] at hv; rcases hv with rfl | rfl <;> rfl) (fun x y => cmpI x.f y.f) swoR 108 #[] g 0 c S.toArray w eg (fun _ _ _ _ x y => stepCmp_any x y _) hH hlt (by simpa using hb)
    change Calls Tryz.prog 107 #[.slice (some ⟨g, 0, none⟩) S.length c, _] _ _ at hcon
    refine hcon.mono ?_
    rintro e w' ⟨rfl, d', m, os, hp, hs, rfl⟩
    obtain ⟨hsz, _, hperm⟩ := hp
    have hsz' : d'.size = S.length := by simpa using hsz
    refine ⟨rfl, d'.toList, ?_, ?_, ?_, ?_⟩
    · have e1 : (d'.extract 0 S.toArray.size) = d' := by rw [List.size_toArray, ← hsz']; simp
      rw [e1] at hperm
      simpa using hperm
    · refine List.pairwise_iff_getElem.2 fun i j hi hj hij => ?_
      have h1 := hs i j (Nat.zero_le _) hij (by simp at hj ⊢; omega)
      rw [ltOf_cmp] at h1
      have hi' : i < d'.size := by simpa using hi
      have hj' : j < d'.size := by simpa using hj
      rw [getElem!_pos d' i hi', getElem!_pos d' j hj'] at h1
      simp at h1
      simpa using h1
    · have hH' : HoldsK encR 2 (sortWorldK encR 2 w g 0 m d' os) g 0 d' := by
        unfold sortWorldK
        refine holdsK_grow _ _ _ _ g 0 d' (by simp [putRowK, putRow, mapBlock, Sort.ahead]; exact hlt) ?_
        exact holdsK_putRowK _ _ _ g 0 S.toArray d' (holdsK_ahead _ _ _ _ _ _ _ hH) (by simpa using hsz)
      exact rdR_of hsz' hH'
    · refine ⟨rfl, rfl, rfl, ?_, fun k hk => ?_⟩
      · simp [sortWorldK, grow, putRowK, putRow, mapBlock, Sort.ahead]
      · have hk' : k < w.heap.size := by omega
        have hne : k ≠ g := by omega
        simp [sortWorldK, grow, putRowK, putRow, mapBlock, Sort.ahead, hk', Array.getElem?_append_left, Array.getElem_modify, Ne.symm hne]

end Go.Proofs.YtaijjogjohbheaaGreat
