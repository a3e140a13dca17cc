/- A label's block: the contract of Bytes, over any world. -/
import Derived.Test.YtcmbnijjkpfhlaaLbStr
import Derived.Test.YtcmbnijjkpfhlaaLbRight
namespace Go.Proofs.Ytcmbnijjkpfhlaa
open Go.RowKit
set_option linter.unusedSimpArgs false

theorem rdU_two {w : World} {ty : TypeId} {x y g : Nat} (hx : x ≤ 18446744073709551615) (hy : y ≤ 18446744073709551615) (hg : g = w.heap.size) :
    RdU (w.alloc (.cells #[.int .u64 (x : Int), .int .u64 (y : Int)] ty)) (some ⟨g, 0, none⟩) 2 [x, y] := by
  subst hg
  refine ⟨rfl, by simp; omega, fun _ => ⟨_, _, rfl, fun j hj => ?_⟩⟩
  rw [World.cell?_alloc_new]
  rcases (by omega : j = 0 ∨ j = 1) with rfl | rfl <;> rfl

theorem rd_oneB {w : World} {x g : Nat} (hx : x < 256) (hg : g = w.heap.size) : Rd (w.alloc (.cells #[.int .u8 (x : Int)] 5)) (some ⟨g, 0, none⟩) 1 [x] := by
  subst hg
  exact rd_new w [x] (by simpa using hx)

theorem wrap_u64 {m : Nat} (h : m ≤ 18446744073709551615) : IntKind.u64.wrap (m : Int) = m := by rw [IntKind.wrap_u64]; omega

set_option maxHeartbeats 2000000 in
set_option maxRecDepth 100000 in
theorem lbytes_any (x : Lab) (w : World) (hf : x.fits) (hl : x.p.length ≤ 1000000) :
    Calls Try.prog 8 #[lbV x] w fun e w' => Below w.heap.size w w' ∧ ((x.ok = false ∧ e = .returned (.tuple #[.slice none 0 0, .int .i64 1])) ∨ (x.ok = true ∧ ∃ a c, e = .returned (.tuple #[.slice a x.bytes.length c, .int .i64 0]) ∧ Own w' w.heap.size (.slice a x.bytes.length c) x.bytes)) := by
  have HR : Hid (∀ W, Below w.heap.size w W → Calls Try.prog 11 #[lbV x] W fun e w' => e = .returned (.bool x.ok) ∧ Hid (Below w.heap.size w w' ∧ Below W.heap.size W w')) := by
    refine Lib.hid fun W hW => (right_any x W hf hl).mono ?_
    rintro e w' ⟨rfl, hb⟩
    exact ⟨rfl, Lib.hid ⟨hW.trans (hb.mono hW.size), hb⟩⟩
  obtain ⟨B, hB⟩ : ∃ B, B = x.ok := ⟨_, rfl⟩
  rw [← hB] at HR ⊢
  cases B with
  | false =>
    clear hB hf hl
    obtain ⟨p, g, m⟩ := x
    simp only [lbV] at HR ⊢
    go_enter Try.func8, Try.ntmps8
    go_wp2_with fail
    refine (HR.out _ (Below.alloc0 _ _)).mono ?_
    rintro e w1 ⟨rfl, hb⟩
    go_wp2
    go_ret2
    exact ⟨hb.out.1, .inl ⟨trivial, rfl⟩⟩
  | true =>
    obtain ⟨l1, l2⟩ := Lab.plain_len hB.symm
    obtain ⟨p, g, m, rfl, hp, g1, g2, m2⟩ := Lab.ok_parts hB.symm
    obtain ⟨p1, p2, p3⟩ := poolB_byte hp
    have HPL : Hid ((([76] ++ tEnc p) ++ (vEnc g ++ vEnc m)) = Lab.plain ⟨p, g, m⟩) := Lib.hid (by simp [Lab.plain])
    have HBY : Hid (Lab.bytes ⟨p, g, m⟩ = Lab.plain ⟨p, g, m⟩ ++ sumB (cSum (Lab.plain ⟨p, g, m⟩))) := Lib.hid rfl
    obtain ⟨Y, hY⟩ : ∃ Y, Y = Lab.bytes ⟨p, g, m⟩ := ⟨_, rfl⟩
    obtain ⟨P, hP⟩ : ∃ P, P = Lab.plain ⟨p, g, m⟩ := ⟨_, rfl⟩
    rw [← hY] at HBY ⊢
    rw [← hP] at HPL HBY l1 l2
    have HLP := Lib.hid (And.intro l1 l2)
    have HPB := Lib.hid (And.intro p2 p3)
    have hu1 := wrap_u64 (m := g) (by omega)
    have hu2 := wrap_u64 (m := m) (by omega)
    have hcs := fun W => conv_str W (strB p)
    have HSR : Hid (∀ W, Rd (strW W (strB p)) (some ⟨W.heap.size, 0, none⟩) p.length p ∧ Below W.heap.size W (strW W (strB p)) ∧ (strW W (strB p)).heap.size = W.heap.size + 1) := Lib.hid fun W => ⟨strW_rd W p3, strW_below _ _, strW_size _ _⟩
    have hss : (strB p).size = p.length := strB_size p
    rw [hss] at hcs
    have HG := Lib.hid (And.intro g2 m2)
    simp only [lbV] at HR ⊢
    obtain ⟨s, hs⟩ : ∃ s, s = strB p := ⟨_, rfl⟩
    obtain ⟨n, hn⟩ : ∃ n, n = p.length := ⟨_, rfl⟩
    rw [← hs] at HR hcs HSR ⊢
    rw [← hn] at hcs HSR
    have HN := Lib.hid hn
    clear hB hf hl hY hP l1 l2 hp g1 g2 m2 p1 p2 p3 hss hs hn
    go_enter Try.func8, Try.ntmps8
    go_wp2_with fail
    refine (HR.out _ (Below.alloc0 _ _)).mono ?_
    rintro e w1 ⟨rfl, HB⟩
    have hq1 := (HB.out.2.block w.heap.size (by simp)).trans (heap_alloc_new w _)
    have HQ1 := Lib.hid hq1
    have hc0 : ∀ o, (w1.alloc o).cell? ⟨w.heap.size, 0, none⟩ = some (.string s) := fun o => (lab_cells (((Below.alloc0 w1 o).block _ (lt_of_block hq1)).trans hq1)).1
    clear hq1
    go_wp2_with fail
    obtain ⟨x2, hx2⟩ : ∃ x2, x2 = strW (w1.alloc (.cells #[.int .u8 76] 5)) s := ⟨_, rfl⟩
    have hsr := HSR.out (w1.alloc (.cells #[.int .u8 76] 5))
    rw [← hx2] at hsr ⊢
    obtain ⟨hr2, hb2, hz2⟩ := hsr
    have hb12 : Below w1.heap.size w1 x2 := (Below.alloc0 w1 _).trans (hb2.mono (by simp))
    have hl76 : Rd x2 (some ⟨w1.heap.size, 0, none⟩) 1 [76] := (rd_oneB (x := 76) (by omega) rfl).later hb2
    simp only [World.size_alloc] at hr2 hb2 hz2 ⊢
    have hb1x : Below w.heap.size w x2 := HB.out.1.trans (hb12.mono HB.out.1.size)
    have HBX := Lib.hid hb1x
    have HQX : Hid (x2.heap[w.heap.size]? = some (.cells #[.string s, .int .i64 (g : Int), .int .i64 (m : Int)] 23 (0, 0))) := Lib.hid ((hb12.block _ (lt_of_block HQ1.out)).trans HQ1.out)
    clear hx2 hb12 hb1x hc0
    refine (bytesPut_any (some ⟨w1.heap.size, 0, none⟩) 1 1 [76] _ 1 1 [p] _ (hl76.later (Below.alloc0 _ _)) (rdT_one hr2 _) (by omega) (by omega) ?h5).mono ?_
    case h5 =>
      intro t ht
      simp only [List.mem_singleton] at ht
      rw [ht]
      have := HPB.out.1
      omega
    rintro e w3 ⟨v3, rfl, ho3, hb3⟩
    have HB3 : Hid (Below w.heap.size w w3) := Lib.hid ((HBX.out.alloc HBX.out.size _).trans (hb3.mono (by have := HBX.out.size; simp; omega)))
    have hq3 : w3.heap[w.heap.size]? = some (.cells #[.string s, .int .i64 (g : Int), .int .i64 (m : Int)] 23 (0, 0)) := (hb3.block _ (by have := lt_of_block HQX.out; simp; omega)).trans ((heap_alloc_old _ _ (lt_of_block HQX.out)).trans HQX.out)
    have e3 : [76] ++ [p].flatMap tEnc = [76] ++ tEnc p := by simp
    rw [e3] at ho3
    obtain ⟨a3, c3, rfl, hr3, hc3⟩ := ho3.sl
    have HR3 := Lib.hid hr3
    have HL3 : Hid (([76] ++ tEnc p).length ≤ 10) := Lib.hid (by have := tEnc_len HPB.out.1; have := HPB.out.1; simp; omega)
    obtain ⟨P3, hP3⟩ : ∃ P3, P3 = [76] ++ tEnc p := ⟨_, rfl⟩
    rw [← hP3] at HR3 HL3 HPL ⊢
    obtain ⟨c0, c1, c2⟩ := lab_cells hq3
    clear hl76 hr2 hb2 hz2 ho3 hb3 hr3 hc3 hq3 hP3 e3
    go_wp2_with fail
    refine (put_any a3 _ c3 P3 _ 2 2 [g, m] _ (HR3.out.later (Below.alloc0 _ _)) (rdU_two (by have := HG.out; omega) (by have := HG.out; omega) rfl) (by have := HL3.out; omega) (by omega)).mono ?_
    rintro e w4 ⟨v4, rfl, ho4, hb4⟩
    have e4 : P3 ++ [g, m].flatMap vEnc = P := by rw [← HPL.out]; simp
    rw [e4] at ho4
    have HB4 : Hid (Below w.heap.size w w4) := Lib.hid ((HB3.out.alloc HB3.out.size _).trans (hb4.mono (by have := HB3.out.size; simp; omega)))
    obtain ⟨a4, c4, rfl, hr4, hc4⟩ := ho4.sl
    have HR4 := Lib.hid hr4
    clear ho4 hb4 hr4 hc4 e4 c0 c1 c2
    go_wp2_with fail
    refine (seal_any a4 _ c4 P w4 HR4.out (by have := HLP.out; omega)).mono ?_
    rintro e w5 ⟨v5, rfl, ho5, hb5⟩
    rw [← HBY.out] at ho5
    have ho6 := ho5.mono (base' := w.heap.size) HB4.out.size
    obtain ⟨a5, c5, rfl, hr5, hc5⟩ := ho6.sl
    have HO5 := Lib.hid ho6
    have HB5 : Hid (Below w.heap.size w w5) := Lib.hid (HB4.out.trans (hb5.mono HB4.out.size))
    clear ho5 ho6 hb5 hr5 hc5
    go_wp2
    go_ret2
    exact ⟨HB5.out, .inr ⟨trivial, _, _, rfl, HO5.out⟩⟩

end Go.Proofs.Ytcmbnijjkpfhlaa
