/- maps.Equal at maps of blocks; the contract of image's Same, over any world. -/
import Derived.Test.YtaijjogjohbheaaGreatGZerosToINew
import Derived.Test.YtaijjogjohbheaaGreatGAppGToIEq
namespace Go.Proofs.YtaijjogjohbheaaGreat
open Go.RowKit
set_option maxRecDepth 100000
open Go.WideElems (Fit rd rg pl rd_key rd_val rg_of)
set_option linter.unusedSimpArgs false

/-- The keys of a map of blocks are numbers. -/
theorem owns_keys {w : World} {b n : Nat} {D : DataW (List Nat)} (h : w.ownsMap Tryz.prog 3 blkR b n D) : ∃ es, D = .map es ∧ (es.map (·.1)).Nodup ∧ ∀ p ∈ es, ∃ y, p.1 = .int .i64 y := by
  have hc := h.canon keyedInt
  obtain ⟨es, rfl, hp, _⟩ := hc
  refine ⟨es, rfl, ?_, ?_⟩
  · have := Maps.apart_of_rising hp
    rw [List.Nodup, List.pairwise_map]
    exact this
  · obtain ⟨es0, clock, _, F, _, hD⟩ := h
    injection hD with hD
    intro p hpm
    rw [hD] at hpm
    obtain ⟨x, hx, rfl⟩ := List.mem_map.1 (mem_sorted.1 hpm)
    obtain ⟨y, hy⟩ := F.reads x hx
    rw [rg_of hy]
    obtain ⟨z, _, e, _⟩ := Maps.keyOf_int_inv Tryz.underlying3 (rd_key hy)
    exact ⟨z, e⟩

theorem has_mem {es : List (Lit × DataW (List Nat))} {z : Int} : Maps.has (.map es) (.int .i64 z) = true ↔ Lit.int .i64 z ∈ es.map (·.1) := by
  rw [Maps.has_eq, List.any_eq_true]
  constructor
  · rintro ⟨p, hp, hs⟩
    rw [← WideAt.sameKey_eq hs]
    exact List.mem_map.2 ⟨p, hp, rfl⟩
  · intro h
    obtain ⟨p, hp, e⟩ := List.mem_map.1 h
    exact ⟨p, hp, by rw [e]; exact WideAt.sameKey_self (isKey_int z)⟩

/-- As many blocks, and each of the one in the other: the same. -/
theorem agr_same {w : World} {b c n m : Nat} {D E : DataW (List Nat)} {F G : List (List Nat)} (h1 : w.ownsMap Tryz.prog 3 blkR b n D) (h2 : w.ownsMap Tryz.prog 3 blkR c m E) (hD : Agr D F) (hE : Agr E G) (hs : Maps.size D = Maps.size E)
    (hall : ∀ x : Int, fAt F x ≠ [] → fAt G x = fAt F x) : ∀ x : Int, fAt F x = fAt G x := by
  intro x
  by_cases hx : fAt F x = []
  · apply Classical.byContradiction
    intro hne
    have hg : fAt G x ≠ [] := fun e => hne (by rw [hx, e])
    obtain ⟨es, rfl, nd1, k1⟩ := owns_keys h1
    obtain ⟨fs, rfl, nd2, k2⟩ := owns_keys h2
    have m2 : Lit.int .i64 x ∈ fs.map (·.1) := has_mem.1 (by rw [(hE x).1]; simp [hg])
    have m1 : Lit.int .i64 x ∉ es.map (·.1) := fun hm => by
      have := has_mem.2 hm
      rw [(hD x).1] at this
      simp [hx] at this
    have hsub : ∀ l ∈ Lit.int .i64 x :: es.map (·.1), l ∈ fs.map (·.1) := by
      intro l hl
      rcases List.mem_cons.1 hl with rfl | hl
      · exact m2
      · obtain ⟨p, hp, rfl⟩ := List.mem_map.1 hl
        obtain ⟨y, hy⟩ := k1 p hp
        rw [hy]
        have hf : fAt F y ≠ [] := by
          have := has_mem.2 (show Lit.int .i64 y ∈ es.map (·.1) by rw [← hy]; exact hl)
          rw [(hD y).1] at this
          simpa using this
        exact has_mem.1 (by rw [(hE y).1, hall y hf]; simp [hf])
    have := List.Nodup.length_le_of_subset (List.nodup_cons.2 ⟨m1, nd1⟩) hsub
    simp only [Maps.size_eq] at hs
    simp at this
    omega
  · exact (hall x hx).symm

theorem agr_size {w : World} {b c n m : Nat} {D E : DataW (List Nat)} {F : List (List Nat)} (h1 : w.ownsMap Tryz.prog 3 blkR b n D) (h2 : w.ownsMap Tryz.prog 3 blkR c m E) (hD : Agr D F) (hE : Agr E F) : Maps.size D = Maps.size E := by
  obtain ⟨es, rfl, nd1, k1⟩ := owns_keys h1
  obtain ⟨fs, rfl, nd2, k2⟩ := owns_keys h2
  have sub : ∀ {es fs : List (Lit × DataW (List Nat))}, Agr (.map es) F → Agr (.map fs) F → (∀ p ∈ es, ∃ y, p.1 = .int .i64 y) → ∀ l ∈ es.map (·.1), l ∈ fs.map (·.1) := by
    intro es fs hA hB hk l hl
    obtain ⟨p, hp, rfl⟩ := List.mem_map.1 hl
    obtain ⟨y, hy⟩ := hk p hp
    rw [hy] at hl ⊢
    have := has_mem.2 hl
    rw [(hA y).1] at this
    exact has_mem.1 (by rw [(hB y).1]; exact this)
  have a := List.Nodup.length_le_of_subset nd1 (sub hD hE k1)
  have c := List.Nodup.length_le_of_subset nd2 (sub hE hD k2)
  simp only [List.length_map] at a c
  simp only [Maps.size_eq]
  omega

end Go.Proofs.YtaijjogjohbheaaGreat
