/- Arrays compared: blocks of 32 bytes, the document's images. -/
import Derived.Test.YtaijldcfoaeogaaGreatGKeepToINew
import Derived.DeepKeys
import Derived.Laws.StructEq
namespace Go.Proofs.YtaijldcfoaeogaaGreat
open Go.RowKit
set_option maxRecDepth 100000
set_option linter.unusedSimpArgs false

theorem eqItems_any {P : Program} (w : World) (d : Nat) (e : TypeId) (hagg : (isAgg e).run P w = .ok false w) (xs ys : Array Value) (f : Nat → Bool) : ∀ (is : List Nat),
    (∀ i ∈ is, ∃ a b, xs[i]? = some a ∧ ys[i]? = some b ∧ (Op.equalIn d e a b).run P w = .ok (f i) w) → (Op.eqItems d e 1 xs ys is).run P w = .ok (is.all f) w
  | [], _ => by simp [Op.eqItems]
  | i :: is, h => by
    obtain ⟨a, b, h1, h2, h3⟩ := h i (by simp)
    have ih := eqItems_any w d e hagg xs ys f is fun j hj => h j (by simp [hj])
    have p1 : (part e xs (i * 1)).run P w = .ok a w := by simp [part, hagg, Nat.mul_one, h1]
    have p2 : (part e ys (i * 1)).run P w = .ok b w := by simp [part, hagg, Nat.mul_one, h2]
    simp only [Op.eqItems, Sem.run_bind, p1, p2, h3, Result.andThen_ok, List.all_cons]
    cases f i
    · simp
    · simpa using ih

theorem all_eq {α : Type} [DecidableEq α] {A B : List α} {n : Nat} (d : α) (hA : A.length = n) (hB : B.length = n) : (List.range n).all (fun i => decide (A.getD i d = B.getD i d)) = decide (A = B) := by
  by_cases h : A = B
  · subst h; simp
  · have : ¬ ∀ i, i < n → A.getD i d = B.getD i d := fun hall => h (by
      apply List.ext_getElem (by omega)
      intro i h1 h2
      have := hall i (by omega)
      simpa [List.getD, h1, h2] using this)
    rw [decide_eq_false h, Bool.eq_false_iff]
    intro ht
    rw [List.all_eq_true] at ht
    exact this fun i hi => by simpa using ht i (by simpa using hi)

theorem equalIn_blk (l m : List Nat) (hl : l.length = 32) (hm : m.length = 32) (w : World) (d : Nat) : (Op.equalIn (d + 1 + 1) 105 (.agg (cB l).toArray) (.agg (cB m).toArray)).run Tryz.prog w = .ok (decide (l = m)) w := by
  obtain ⟨i0, hi0, hz0, hz1, hz2⟩ := info_parts info5
  rw [run_equalIn_array w (d + 1) _ _ Tryz.underlying105 hi0]
  rw [show Tryz.prog.cellsOf 5 = 1 by kernel_rfl]
  rw [eqItems_any w (d + 1) 5 (Tryz.isAgg5 w) _ _ (fun i => decide (l.getD i 0 = m.getD i 0)) (List.range 32) (fun i hi => by
    have hi' : i < 32 := by simpa using hi
    refine ⟨.int .u8 ((l.getD i 0 : Nat) : Int), .int .u8 ((m.getD i 0 : Nat) : Int), ?_, ?_, ?_⟩
    · simp [cB, List.getD, show i < l.length by omega]
    · simp [cB, List.getD, show i < m.length by omega]
    · rw [run_equalIn_int w d 5 .u8 .u8 _ _ Tryz.underlying5]
      refine congrArg (fun b => Result.ok b w) ?_
      by_cases h : l.getD i 0 = m.getD i 0
      · rw [h]; simp
      · rw [decide_eq_false h]
        simp only [beq_eq_false_iff_ne, ne_eq]
        omega)]
  rw [all_eq 0 hl hm]

theorem eql_blk (l m : List Nat) (hl : l.length = 32) (hm : m.length = 32) (w : World) : (binOp .eql 105 (.agg (cB l).toArray) (.agg (cB m).toArray)).run Tryz.prog w = .ok (.bool (decide (l = m))) w := by
  rw [run_eql_struct, show (10000 : Nat) = 9998 + 1 + 1 from rfl, equalIn_blk l m hl hm w 9998]
  rfl

theorem neq_blk (l m : List Nat) (hl : l.length = 32) (hm : m.length = 32) (w : World) : (binOp .neq 105 (.agg (cB l).toArray) (.agg (cB m).toArray)).run Tryz.prog w = .ok (.bool !(decide (l = m))) w := by
  rw [run_neq_struct, show (10000 : Nat) = 9998 + 1 + 1 from rfl, equalIn_blk l m hl hm w 9998]
  rfl

theorem strB_same {A B : List Nat} (hA : ∀ x ∈ A, x < 256) (hB : ∀ x ∈ B, x < 256) : ((strB A).toList == (strB B).toList) = decide (A = B) := by
  rw [ByteArray.toList_eq, ByteArray.toList_eq]
  by_cases h : A = B
  · subst h; simp
  · have hne : ¬ (strB A).data = (strB B).data := fun e => h (strB_inj hA hB (ByteArray.ext e))
    rw [decide_eq_false h]
    simp only [beq_eq_false_iff_ne, ne_eq]
    exact fun e => hne (Array.ext' e)

theorem okF.byte {F : List (List Nat)} (h : okF F) : ∀ l ∈ F, ∀ x ∈ l, x < 256 := fun l hl x hx => by
  rcases h.2 l hl with rfl | h1
  · cases hx
  · exact h1.2 x hx

theorem eql_img (F G : List (List Nat)) (hF : okF F) (hG : okF G) (w : World) : (binOp .eql 28 (.agg (cS F).toArray) (.agg (cS G).toArray)).run Tryz.prog w = .ok (.bool (decide (F = G))) w := by
  have info9 : (Tryz.prog.info? 9).map (fun i => (i.zero, i.size, i.bytes)) = some (some (.string { data := #[] }), 1, 16) := by kernel_rfl
  obtain ⟨i0, hi0, hz0, hz1, hz2⟩ := info_parts info9
  rw [run_eql_struct, show (10000 : Nat) = 9998 + 1 + 1 from rfl, run_equalIn_array w (9998 + 1) _ _ Tryz.underlying28 hi0]
  rw [show Tryz.prog.cellsOf 9 = 1 by kernel_rfl]
  rw [eqItems_any w (9998 + 1) 9 (Tryz.isAgg9 w) _ _ (fun i => decide (F.getD i [] = G.getD i [])) (List.range 256) (fun i hi => by
    have hi' : i < 256 := by simpa using hi
    have hF1 : i < F.length := by rw [hF.1]; exact hi'
    have hG1 : i < G.length := by rw [hG.1]; exact hi'
    refine ⟨.string (strB (F.getD i [])), .string (strB (G.getD i [])), ?_, ?_, ?_⟩
    · simp [cS, List.getD, hF1]
    · simp [cS, List.getD, hG1]
    · rw [run_equalIn_string w 9998 9 _ _ Tryz.underlying9, strB_same (hF.byte _ (by simp [List.getD, hF1])) (hG.byte _ (by simp [List.getD, hG1]))])]
  rw [all_eq [] hF.1 hG.1]
  rfl

end Go.Proofs.YtaijldcfoaeogaaGreat

/- maps.Equal at maps of blocks; the contract of image's Same, over any world. -/
namespace Go.Proofs.YtaijldcfoaeogaaGreat
open Go.RowKit
set_option maxRecDepth 100000
open Go.WideElems (Fit rd rg pl rd_key rd_val rg_of)
set_option linter.unusedSimpArgs false

/-- The keys of a map of blocks are numbers. -/
theorem owns_keys {w : World} {b n : Nat} {D : DataW (List Nat)} (h : w.ownsMap Tryz.prog 3 blkR b n D) : ∃ es, D = .map es ∧ (es.map (·.1)).Nodup ∧ ∀ p ∈ es, ∃ y, p.1 = .int .i64 y := by
  have hc := h.canon keyedInt
  obtain ⟨es, rfl, hp, _⟩ := hc
  refine ⟨es, rfl, ?_, ?_⟩
  · have := Maps.apart_of_rising hp
    rw [List.Nodup, List.pairwise_map]
    exact this
  · obtain ⟨es0, clock, _, F, _, hD⟩ := h
    injection hD with hD
    intro p hpm
    rw [hD] at hpm
    obtain ⟨x, hx, rfl⟩ := List.mem_map.1 (mem_sorted.1 hpm)
    obtain ⟨y, hy⟩ := F.reads x hx
    rw [rg_of hy]
    obtain ⟨z, _, e, _⟩ := Maps.keyOf_int_inv Tryz.underlying3 (rd_key hy)
    exact ⟨z, e⟩

theorem has_mem {es : List (Lit × DataW (List Nat))} {z : Int} : Maps.has (.map es) (.int .i64 z) = true ↔ Lit.int .i64 z ∈ es.map (·.1) := by
  rw [Maps.has_eq, List.any_eq_true]
  constructor
  · rintro ⟨p, hp, hs⟩
    rw [← WideAt.sameKey_eq hs]
    exact List.mem_map.2 ⟨p, hp, rfl⟩
  · intro h
    obtain ⟨p, hp, e⟩ := List.mem_map.1 h
    exact ⟨p, hp, by rw [e]; exact WideAt.sameKey_self (isKey_int z)⟩

/-- As many blocks, and each of the one in the other: the same. -/
theorem agr_same {w : World} {b c n m : Nat} {D E : DataW (List Nat)} {F G : List (List Nat)} (h1 : w.ownsMap Tryz.prog 3 blkR b n D) (h2 : w.ownsMap Tryz.prog 3 blkR c m E) (hD : Agr D F) (hE : Agr E G) (hs : Maps.size D = Maps.size E)
    (hall : ∀ x : Int, fAt F x ≠ [] → fAt G x = fAt F x) : ∀ x : Int, fAt F x = fAt G x := by
  intro x
  by_cases hx : fAt F x = []
  · apply Classical.byContradiction
    intro hne
    have hg : fAt G x ≠ [] := fun e => hne (by rw [hx, e])
    obtain ⟨es, rfl, nd1, k1⟩ := owns_keys h1
    obtain ⟨fs, rfl, nd2, k2⟩ := owns_keys h2
    have m2 : Lit.int .i64 x ∈ fs.map (·.1) := has_mem.1 (by rw [(hE x).1]; simp [hg])
    have m1 : Lit.int .i64 x ∉ es.map (·.1) := fun hm => by
      have := has_mem.2 hm
      rw [(hD x).1] at this
      simp [hx] at this
    have hsub : ∀ l ∈ Lit.int .i64 x :: es.map (·.1), l ∈ fs.map (·.1) := by
      intro l hl
      rcases List.mem_cons.1 hl with rfl | hl
      · exact m2
      · obtain ⟨p, hp, rfl⟩ := List.mem_map.1 hl
        obtain ⟨y, hy⟩ := k1 p hp
        rw [hy]
        have hf : fAt F y ≠ [] := by
          have := has_mem.2 (show Lit.int .i64 y ∈ es.map (·.1) by rw [← hy]; exact hl)
          rw [(hD y).1] at this
          simpa using this
        exact has_mem.1 (by rw [(hE y).1, hall y hf]; simp [hf])
    have := List.Nodup.length_le_of_subset (List.nodup_cons.2 ⟨m1, nd1⟩) hsub
    simp only [Maps.size_eq] at hs
    simp at this
    omega
  · exact (hall x hx).symm

theorem agr_size {w : World} {b c n m : Nat} {D E : DataW (List Nat)} {F : List (List Nat)} (h1 : w.ownsMap Tryz.prog 3 blkR b n D) (h2 : w.ownsMap Tryz.prog 3 blkR c m E) (hD : Agr D F) (hE : Agr E F) : Maps.size D = Maps.size E := by
  obtain ⟨es, rfl, nd1, k1⟩ := owns_keys h1
  obtain ⟨fs, rfl, nd2, k2⟩ := owns_keys h2
  have sub : ∀ {es fs : List (Lit × DataW (List Nat))}, Agr (.map es) F → Agr (.map fs) F → (∀ p ∈ es, ∃ y, p.1 = .int .i64 y) → ∀ l ∈ es.map (·.1), l ∈ fs.map (·.1) := by
    intro es fs hA hB hk l hl
    obtain ⟨p, hp, rfl⟩ := List.mem_map.1 hl
    obtain ⟨y, hy⟩ := hk p hp
    rw [hy] at hl ⊢
    have := has_mem.2 hl
    rw [(hA y).1] at this
    exact has_mem.1 (by rw [(hB y).1]; exact this)
  have a := List.Nodup.length_le_of_subset nd1 (sub hD hE k1)
  have c := List.Nodup.length_le_of_subset nd2 (sub hE hD k2)
  simp only [List.length_map] at a c
  simp only [Maps.size_eq]
  omega

end Go.Proofs.YtaijldcfoaeogaaGreat
