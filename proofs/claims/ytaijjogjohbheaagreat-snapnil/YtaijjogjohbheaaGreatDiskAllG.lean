/- A disk in memory: its block, its power, its bytes; Len, room, New. -/
import Derived.Test.YtaijjogjohbheaaGreatMade
import Derived.Test.YtaijjogjohbheaaGreatMemAll
import Derived.Test.YtaijjogjohbheaaGreatPow
import Derived.Test.YtaijjogjohbheaaGreatClone
import Derived.Deep.DeepCutAuto
import Derived.StillTailTactics
import Derived.BigRegion
namespace Go.Proofs.YtaijjogjohbheaaGreat
open Go.RowKit
set_option maxRecDepth 100000
set_option linter.unusedSimpArgs false

def dskObj (gp gb n : Nat) : Obj := .cells #[.pointer (some ⟨gp, 0, none⟩), .slice (some ⟨gb, 0, none⟩) n n] 45 (0, 0)

/-- Block gd is a disk of k sectors, with the power in block gp, in state s, and the bytes L in block gb. -/
structure Dsk (w : World) (gd gp gb : Nat) (s : Pw) (L : List Nat) (k : Nat) : Prop where
  obj : w.heap[gd]? = some (dskObj gp gb (64 * k))
  pow : Pow w gp s
  row : w.heap[gb]? = some (rowObj 5 L)
  len : L.length = 64 * k
  byte : ∀ x ∈ L, x < 256
  kpos : 0 < k
  ksmall : k ≤ 65536
  np : gd ≠ gp
  nb : gd ≠ gb
  pb : gp ≠ gb

theorem Dsk.cells {w : World} {gd gp gb k : Nat} {s : Pw} {L : List Nat} (h : Dsk w gd gp gb s L k) : w.cell? ⟨gd, 0, none⟩ = some (.pointer (some ⟨gp, 0, none⟩)) ∧ w.cell? ⟨gd, 1, none⟩ = some (.slice (some ⟨gb, 0, none⟩) (64 * k) (64 * k)) := by
  constructor <;> rw [cell_of_row w gd _ _ 45 (0, 0) h.obj] <;> rfl

theorem Dsk.kept {w w' : World} {gd gp gb k : Nat} {s : Pw} {L : List Nat} (h : Dsk w gd gp gb s L k) (hd : w'.heap[gd]? = w.heap[gd]?) (hp : w'.heap[gp]? = w.heap[gp]?) (hb : w'.heap[gb]? = w.heap[gb]?) : Dsk w' gd gp gb s L k :=
  ⟨hd.trans h.obj, hp.trans h.pow, hb.trans h.row, h.len, h.byte, h.kpos, h.ksmall, h.np, h.nb, h.pb⟩

theorem Dsk.lts {w : World} {gd gp gb k : Nat} {s : Pw} {L : List Nat} (h : Dsk w gd gp gb s L k) : gd < w.heap.size ∧ gp < w.heap.size ∧ gb < w.heap.size := ⟨lt_of_block h.obj, lt_of_block h.pow, lt_of_block h.row⟩

theorem Dsk.save {w w' : World} {gd gp gb k : Nat} {s : Pw} {L : List Nat} {X : List Nat} (h : Dsk w gd gp gb s L k) (hs : Save X w w') (hX : gd ∉ X ∧ gp ∉ X ∧ gb ∉ X) : Dsk w' gd gp gb s L k :=
  h.kept (hs.block _ h.lts.1 hX.1) (hs.block _ h.lts.2.1 hX.2.1) (hs.block _ h.lts.2.2 hX.2.2)

theorem Dsk.later {w w' : World} {gd gp gb k : Nat} {s : Pw} {L : List Nat} (h : Dsk w gd gp gb s L k) (hs : Below w.heap.size w w') : Dsk w' gd gp gb s L k := h.save (X := []) (Save.of_below hs _) (by simp)

theorem Dsk.setPow {w : World} {gd gp gb k : Nat} {s : Pw} {L : List Nat} (h : Dsk w gd gp gb s L k) (s' : Pw) : Dsk (put w gp (powObj s')) gd gp gb s' L k :=
  ⟨(put_other h.np).trans h.obj, put_same h.pow, (put_other (Ne.symm h.pb)).trans h.row, h.len, h.byte, h.kpos, h.ksmall, h.np, h.nb, h.pb⟩

theorem Dsk.setRow {w : World} {gd gp gb k : Nat} {s : Pw} {L : List Nat} (h : Dsk w gd gp gb s L k) {L' : List Nat} (hl : L'.length = 64 * k) (hb : ∀ x ∈ L', x < 256) : Dsk (put w gb (rowObj 5 L')) gd gp gb s L' k :=
  ⟨(put_other h.nb).trans h.obj, (put_other h.pb).trans h.pow, put_same h.row, hl, hb, h.kpos, h.ksmall, h.np, h.nb, h.pb⟩

theorem rd_rowObj {w : World} {g n : Nat} {T : TypeId} {L : List Nat} (hg : w.heap[g]? = some (rowObj T L)) (hl : L.length = n) (hb : ∀ x ∈ L, x < 256) : Rd w (some ⟨g, 0, none⟩) n L := by
  refine ⟨hl, hb, fun _ => ⟨g, 0, rfl, fun j hj => ?_⟩⟩
  rw [Nat.zero_add, cell_of_row w g j (cB L).toArray T (0, 0) hg]
  simp [cB, List.getD, show j < L.length by omega]

theorem Dsk.rd {w : World} {gd gp gb k : Nat} {s : Pw} {L : List Nat} (h : Dsk w gd gp gb s L k) : Rd w (some ⟨gb, 0, none⟩) (64 * k) L := rd_rowObj h.row h.len h.byte

theorem len_any (w : World) (gd gp gb k : Nat) (s : Pw) (L : List Nat) (h : Dsk w gd gp gb s L k) :
    Calls Tryz.prog 42 #[.pointer (some ⟨gd, 0, none⟩)] w fun e w' => e = .returned (.int .i64 (k : Int)) ∧ w' = w := by
  have h1 := h.cells.2
  have hk := h.ksmall
  clear h
  go_enter Tryz.func42, Tryz.ntmps42
  go_wp2
  go_ret
  refine ⟨?_, rfl⟩
  go_num

theorem room_no (w : World) (gd gp gb k : Nat) (s : Pw) (L : List Nat) (i : Int) (h : Dsk w gd gp gb s L k) (hi : i < 0 ∨ (k : Int) < i) :
    Calls Tryz.prog 96 #[.pointer (some ⟨gd, 0, none⟩), .int .i64 i] w fun e w' => e = .returned (.int .i64 (-1)) ∧ w' = w := by
  have HL := Lib.hid (len_any w gd gp gb k s L h)
  clear h
  rcases hi with hi | hi
  · go_enter Tryz.func96, Tryz.ntmps96
    go_wp2
    go_ret
    exact ⟨rfl, rfl⟩
  · have h0 : ¬ i < 0 := by omega
    go_enter Tryz.func96, Tryz.ntmps96
    go_wp2_with fail
    refine HL.out.mono ?_
    rintro e w1 ⟨rfl, rfl⟩
    go_wp2
    go_ret
    exact ⟨rfl, rfl⟩

theorem room_yes (w : World) (gd gp gb k : Nat) (s : Pw) (L : List Nat) (i : Nat) (h : Dsk w gd gp gb s L k) (hi : i ≤ k) :
    Calls Tryz.prog 96 #[.pointer (some ⟨gd, 0, none⟩), .int .i64 (i : Int)] w fun e w' => e = .returned (.int .i64 ((64 * (k - i) : Nat) : Int)) ∧ w' = w := by
  have HL := Lib.hid (len_any w gd gp gb k s L h)
  have hk := h.ksmall
  clear h
  go_enter Tryz.func96, Tryz.ntmps96
  go_wp2_with fail
  refine HL.out.mono ?_
  rintro e w1 ⟨rfl, rfl⟩
  go_wp2_with fail
  refine HL.out.mono ?_
  rintro e w1 ⟨rfl, rfl⟩
  go_wp2
  go_ret
  refine ⟨?_, rfl⟩
  go_num

theorem dnew_any (w : World) (n gp : Nat) (hn : 0 < n) (hn' : n ≤ 65536) :
    Calls Tryz.prog 6 #[.int .i64 (n : Int), .pointer (some ⟨gp, 0, none⟩)] w fun e w' => e = .returned (.tuple #[.pointer (some ⟨w.heap.size + 1, 0, none⟩), .int .i64 0]) ∧ w' = (w.alloc (rowObj 5 (List.replicate (64 * n) 0))).alloc (dskObj gp w.heap.size (64 * n)) := by
  have hm := run_mkN (64 * n) (by omega) w
  obtain ⟨N, hN⟩ : ∃ N : Nat, N = 64 * n := ⟨_, rfl⟩
  have hw : IntKind.i64.wrap ((n : Int) * 64) = (N : Int) := by rw [IntKind.wrap_i64] <;> omega
  rw [← hN] at hm ⊢
  obtain ⟨o, ho⟩ : ∃ o, o = rowObj 5 (List.replicate N 0) := ⟨_, rfl⟩
  rw [← ho] at hm ⊢
  clear ho hN
  go_enter Tryz.func6, Tryz.ntmps6
  go_wp2
  go_ret2
  exact ⟨by simp, rfl⟩

theorem dsk_new (w : World) (n gp : Nat) (s : Pw) (h : Pow w gp s) (hn : 0 < n) (hn' : n ≤ 65536) : Dsk ((w.alloc (rowObj 5 (List.replicate (64 * n) 0))).alloc (dskObj gp w.heap.size (64 * n))) (w.heap.size + 1) gp w.heap.size s (List.replicate (64 * n) 0) n := by
  have hlt := h.lt
  refine ⟨?_, ?_, ?_, by simp, byte_zeros _, hn, hn', by omega, by omega, by omega⟩
  · have := heap_alloc_new (w.alloc (rowObj 5 (List.replicate (64 * n) 0))) (dskObj gp w.heap.size (64 * n))
    simpa using this
  · have hb : Below w.heap.size w ((w.alloc (rowObj 5 (List.replicate (64 * n) 0))).alloc (dskObj gp w.heap.size (64 * n))) := (Below.alloc0 _ _).alloc (by simp) _
    exact h.below hb hlt
  · have hb : Below (w.heap.size + 1) (w.alloc (rowObj 5 (List.replicate (64 * n) 0))) ((w.alloc (rowObj 5 (List.replicate (64 * n) 0))).alloc (dskObj gp w.heap.size (64 * n))) := by simpa using Below.alloc0 (w.alloc (rowObj 5 (List.replicate (64 * n) 0))) (dskObj gp w.heap.size (64 * n))
    exact (hb.block w.heap.size (by omega)).trans (heap_alloc_new w _)

end Go.Proofs.YtaijjogjohbheaaGreat

/- The contract of a disk's Put. -/
namespace Go.Proofs.YtaijjogjohbheaaGreat
open Go.RowKit
set_option maxRecDepth 100000
set_option linter.unusedSimpArgs false

/-- A sector's bytes: those of b, and bytes 0 behind them. -/
def secOf (b : List Nat) : List Nat := b ++ List.replicate (64 - b.length) 0

theorem secOf_length {b : List Nat} (h : b.length ≤ 64) : (secOf b).length = 64 := by simp [secOf]; omega

theorem secOf_byte {b : List Nat} (h : ∀ x ∈ b, x < 256) : ∀ x ∈ secOf b, x < 256 := by
  intro x hx
  simp only [secOf, List.mem_append] at hx
  rcases hx with hx | hx
  · exact h x hx
  · exact byte_zeros _ x hx

/-- A sector put: power behind it, the bytes, the error. -/
def dPut (s : Pw) (L : List Nat) (i : Nat) (b : List Nat) : Pw × List Nat × Nat :=
  ((s.write 64).1, splice L (64 * i) ((secOf b).take (s.write 64).2.1.toNat), (s.write 64).2.2)

theorem put_no (w : World) (gd gp gb k : Nat) (s : Pw) (L : List Nat) (i : Int) (a : Option Addr) (n c : Nat) (h : Dsk w gd gp gb s L k) (hi : i < 0 ∨ (k : Int) ≤ i ∨ 64 < n) :
    Calls Tryz.prog 87 #[.pointer (some ⟨gd, 0, none⟩), .int .i64 i, .slice a n c] w fun e w' => e = .returned (.int .i64 1) ∧ w' = w := by
  by_cases h1 : i < 0 ∨ (k : Int) < i
  · have HR := Lib.hid (room_no w gd gp gb k s L i h h1)
    clear h h1 hi
    go_enter Tryz.func87, Tryz.ntmps87
    go_wp2_with fail
    refine HR.out.mono ?_
    rintro e w1 ⟨rfl, rfl⟩
    go_wp2
    go_ret
    exact ⟨rfl, rfl⟩
  · obtain ⟨j, rfl⟩ : ∃ j : Nat, i = (j : Int) := ⟨i.toNat, by omega⟩
    have hj : j ≤ k := by omega
    have HR := Lib.hid (room_yes w gd gp gb k s L j h hj)
    obtain ⟨R, hR⟩ : ∃ R : Nat, R = 64 * (k - j) := ⟨_, rfl⟩
    rw [← hR] at HR
    have hor : R < 64 ∨ 64 < n := by omega
    clear h h1 hi hR hj
    by_cases h2 : R < 64
    · clear hor
      go_enter Tryz.func87, Tryz.ntmps87
      go_wp2_with fail
      refine HR.out.mono ?_
      rintro e w1 ⟨rfl, rfl⟩
      go_wp2
      go_ret
      exact ⟨rfl, rfl⟩
    · have h3 : 64 < n := by omega
      have h4 : 64 ≤ R := by omega
      clear hor h2
      go_enter Tryz.func87, Tryz.ntmps87
      go_wp2_with fail
      refine HR.out.mono ?_
      rintro e w1 ⟨rfl, rfl⟩
      go_wp2
      go_ret
      exact ⟨rfl, rfl⟩

theorem write_range (s : Pw) : ∃ M : Nat, (s.write 64).2.1 = (M : Int) ∧ M ≤ 64 := by
  unfold Pw.write
  rw [if_neg (by omega)]
  split
  · exact ⟨0, rfl, by omega⟩
  · split
    · exact ⟨64, rfl, by omega⟩
    · rename_i t _
      exact ⟨(min (max t 0) 64).toNat, by simp only; omega, by omega⟩
    · exact ⟨64, rfl, by omega⟩

theorem splice_byte {L x : List Nat} (hL : ∀ y ∈ L, y < 256) (hx : ∀ y ∈ x, y < 256) (o : Nat) : ∀ y ∈ splice L o x, y < 256 := by
  intro y hy
  simp only [splice, List.mem_append] at hy
  rcases hy with hy | hy | hy
  · exact hL y (List.mem_of_mem_take hy)
  · exact hx y hy
  · exact hL y (List.mem_of_mem_drop hy)

theorem arr_all (g : Nat) (W : World) : (Instr.sliceAt 172 (.pointer (some ⟨g, 0, none⟩)) none none none).run Tryz.prog W = .ok (.slice (some ⟨g, 0, none⟩) 64 64) W := by
  obtain ⟨i0, hi0, hz0, hz1, hz2⟩ := info_parts info5
  rw [run_sliceAt_array_all (P := Tryz.prog) W 172 ⟨g, 0, none⟩ (by kernel_rfl)]
  simp [sizeOf, typeInfo, show Tryz.prog.elem 172 = 5 by kernel_rfl, show Tryz.prog.arrayLen 172 = 64 by kernel_rfl, hi0, slicedAt, sliced, Addr.add]

theorem arr_to (g M : Nat) (hM : M ≤ 64) (W : World) : (Instr.sliceAt 172 (.pointer (some ⟨g, 0, none⟩)) none (some (.int .i64 (M : Int))) none).run Tryz.prog W = .ok (.slice (some ⟨g, 0, none⟩) M 64) W := by
  obtain ⟨i0, hi0, hz0, hz1, hz2⟩ := info_parts info5
  rw [run_sliceAt_array_h (P := Tryz.prog) W 172 ⟨g, 0, none⟩ (by kernel_rfl) .i64 (M : Int) (by omega) (by rw [show Tryz.prog.arrayLen 172 = 64 by kernel_rfl]; omega)]
  simp [sizeOf, typeInfo, show Tryz.prog.elem 172 = 5 by kernel_rfl, show Tryz.prog.arrayLen 172 = 64 by kernel_rfl, hi0, slicedAt, sliced, Addr.add]

theorem sec_spliced {b : List Nat} (h : b.length ≤ 64) : splice (List.replicate 64 0) 0 (b.take (min b.length 64)) = secOf b := by
  rw [show min b.length 64 = b.length by omega, List.take_length]
  unfold splice secOf
  rw [List.take_zero, List.nil_append, Nat.zero_add, List.drop_replicate]

set_option maxRecDepth 100000 in
theorem put_yes (w : World) (gd gp gb k : Nat) (s : Pw) (L : List Nat) (i : Nat) (a : Option Addr) (n c : Nat) (b : List Nat) (h : Dsk w gd gp gb s L k) (hok : s.ok) (hi : i < k) (hn : n ≤ 64) (hr : Rd w a n b) :
    Calls Tryz.prog 87 #[.pointer (some ⟨gd, 0, none⟩), .int .i64 (i : Int), .slice a n c] w fun e w' => e = .returned (.int .i64 ((dPut s L i b).2.2 : Int)) ∧ Dsk w' gd gp gb (dPut s L i b).1 (dPut s L i b).2.1 k ∧ Save [gp, gb] w w' := by
  have HR := Lib.hid (room_yes w gd gp gb k s L i h (by omega))
  obtain ⟨R, hR⟩ : ∃ R : Nat, R = 64 * (k - i) := ⟨_, rfl⟩
  rw [← hR] at HR
  have hR64 : 64 ≤ R := by omega
  have HH := Lib.hid h
  have HI := Lib.hid hi
  have HRD := Lib.hid hr
  have HWA : Hid (∀ W, Pow W gp s → _) := Lib.hid fun W hW => write_any W gp s 64 hW hok
  obtain ⟨M, hM, hM64⟩ := write_range s
  obtain ⟨E, hE2⟩ : ∃ E, E = (s.write 64).2.2 := ⟨_, rfl⟩
  obtain ⟨s', hs'⟩ : ∃ s', s' = (s.write 64).1 := ⟨_, rfl⟩
  have hD : dPut s L i b = (s', splice L (64 * i) ((secOf b).take M), E) := by
    simp only [dPut, hM, hE2, hs']
    simp
  rw [hD]
  rw [hM, ← hE2, ← hs'] at HWA
  obtain ⟨I, hI⟩ : ∃ I : Nat, I = 64 * i := ⟨_, rfl⟩
  rw [← hI]
  have HI0 := Lib.hid hI
  clear hR h hr hi hM hE2 hs' hD hI
  go_enter Tryz.func87, Tryz.ntmps87
  go_wp2_with fail
  refine HR.out.mono ?_
  rintro e w1 ⟨rfl, rfl⟩
  go_upto_region 4 with fail
  change Code.wp _ _ _ _ (w1.alloc (rowObj 172 (List.replicate 64 0)))
  obtain ⟨w2, h2⟩ : ∃ w2, w2 = w1.alloc (rowObj 172 (List.replicate 64 0)) := ⟨_, rfl⟩
  obtain ⟨g7, hg7⟩ : ∃ g7, g7 = w1.heap.size := ⟨_, rfl⟩
  rw [← h2, ← hg7]
  have HB2 : Hid (Below w1.heap.size w1 w2) := by rw [h2]; exact Lib.hid (Below.alloc0 _ _)
  have HS2 : Hid (w2.heap[g7]? = some (rowObj 172 (List.replicate 64 0))) := by rw [h2, hg7]; exact Lib.hid (heap_alloc_new _ _)
  have HG7 := Lib.hid hg7
  have HRD2 := Lib.hid (HRD.out.later HB2.out)
  clear h2 hg7
  have HE : Hid (splice (List.replicate 64 0) 0 (b.take (min n 64)) = secOf b) := by
    have := sec_spliced (b := b) (by rw [HRD.out.1]; exact hn)
    rw [HRD.out.1] at this
    exact Lib.hid this
  have hs1 := arr_all g7
  go_wp2_with (refine wpList_copy_bytes rfl (.tmp 19) (.tmp 20) rfl _ _ _ _ _ _ rfl rfl g7 0 172 (List.replicate 64 0) b HS2.out HRD2.out (fun _ => rfl) ?fit (secOf b) HE.out ?next)
  case fit => simp; omega
  case next =>
    intro w3 H3
    have h3 := H3.out
    clear H3
    have hlt := HH.out.lts
    have HS3 : Hid (w3.heap[g7]? = some (rowObj 172 (secOf b))) := by rw [h3]; exact Lib.hid (put_same HS2.out)
    have HB3 : Hid (Below w1.heap.size w1 w3) := by rw [h3]; exact Lib.hid (HB2.out.trans (put_below _ (by rw [HG7.out]; exact Nat.le_refl _)))
    have HH3 := Lib.hid (HH.out.later HB3.out)
    obtain ⟨c0, c1⟩ := HH3.out.cells
    have HW := Lib.hid (HWA.out w3 HH3.out.pow)
    clear h3 hlt
    go_wp2_with fail
    refine HW.out.mono ?_
    rintro e w4 ⟨rfl, h4⟩
    have HH4 : Hid (Dsk w4 gd gp gb s' L k) := by rw [h4]; exact Lib.hid (HH3.out.setPow s')
    have HSV4 : Hid (Save [gp, gb] w1 w4) := by rw [h4]; exact Lib.hid ((Save.of_below HB3.out _).put (by simp) _)
    have HS4 : Hid (w4.heap[g7]? = some (rowObj 172 (secOf b))) := by
      rw [h4]
      exact Lib.hid ((put_other (by have := HH.out.lts; have := HG7.out; omega)).trans HS3.out)
    clear h4 HW c0 c1
    obtain ⟨c0, c1⟩ := HH4.out.cells
    obtain ⟨K, hK⟩ : ∃ K : Nat, K = 64 * k := ⟨_, rfl⟩
    have hI := HI0.out
    have hik := HI.out
    have hk := HH4.out.ksmall
    have hw : IntKind.i64.wrap ((i : Int) * 64) = (I : Int) := by rw [IntKind.wrap_i64] <;> omega
    have hIK : I + 64 ≤ K := by omega
    rw [← hK] at c1
    have hsl : ∀ W : World, (Instr.slice 40 (.slice (some ⟨gb, 0, none⟩) K K) (some (.int .i64 (I : Int))) none none).run Tryz.prog W = .ok (.slice (cutA (some ⟨gb, 0, none⟩) K I) (K - I) (K - I)) W := fun W => slice_from _ _ _ _ .i64 (by omega) W
    have hcut : cutA (some ⟨gb, 0, none⟩) K I = some ⟨gb, I, none⟩ := by
      unfold cutA
      rw [if_neg (by omega)]
      simp [add_plain]
    rw [hcut] at hsl
    have hs2 := arr_to g7 M hM64
    have HIK := Lib.hid (And.intro hI (And.intro hK (And.intro hk hik)))
    clear hcut hI hK hk hik hs1
    go_upto_region 6 with fail
    refine wp_region_still_tail 9 (by kernel_rfl) (by kernel_rfl) ?_
    simp only [List.take_succ_cons, List.take_zero, List.drop_succ_cons, List.drop_zero]
    change wpStill _ _ w4.drew _ _ _
    have e0 : w4.drew.cell? ⟨gd, 1, none⟩ = some (.slice (some ⟨gb, 0, none⟩) K K) := c1
    obtain ⟨w5, h5⟩ : ∃ w5, w5 = w4.drew := ⟨_, rfl⟩
    have HH5 : Hid (Dsk w5 gd gp gb s' L k) := by rw [h5]; exact Lib.hid (HH4.out.kept rfl rfl rfl)
    have HSV5 : Hid (Save [gp, gb] w1 w5) := by rw [h5]; exact Lib.hid HSV4.out.drew
    have HS5 : Hid (Rd w5 (some ⟨g7, 0, none⟩) M ((secOf b).take M)) := by
      rw [h5]
      exact Lib.hid ((rd_rowObj (w := w4.drew) HS4.out (secOf_length (by rw [HRD.out.1]; exact hn)) (secOf_byte HRD.out.2.1)).first hM64)
    rw [← h5] at e0 ⊢
    have H5 := Lib.hid h5
    clear h5 c0 c1
    repeat still_step
    refine wpStill_nil ?_
    change wpList _ _ _ _ _ w4.drew
    rw [← H5.out]
    refine wpList_copy_bytes rfl (.tmp 36) (.tmp 38) rfl _ _ _ _ _ _ rfl rfl gb I 5 L ((secOf b).take M) HH5.out.row HS5.out (fun _ => rfl) ?fit2 (splice L I ((secOf b).take M)) ?eq2 ?next2
    case fit2 => rw [HH5.out.len, ← HIK.out.2.1]; omega
    case eq2 =>
      have hmin : min M (K - I) = M := by omega
      rw [hmin, List.take_take, Nat.min_self]
    case next2 =>
      intro w6 H6
      have h6 := H6.out
      clear H6
      have hlen : (splice L I ((secOf b).take M)).length = 64 * k := by
        rw [length_splice, HH5.out.len]
        rw [HH5.out.len, List.length_take]
        have := HIK.out.2.1
        omega
      have HH6 : Hid (Dsk w6 gd gp gb s' (splice L I ((secOf b).take M)) k) := by
        rw [h6]
        exact Lib.hid (HH5.out.setRow hlen (splice_byte HH5.out.byte (fun y hy => secOf_byte HRD.out.2.1 y (List.mem_of_mem_take hy)) I))
      have HSV6 : Hid (Save [gp, gb] w1 w6) := by rw [h6]; exact Lib.hid (HSV5.out.put (by simp) _)
      clear h6 hlen
      go_wp2
      go_ret
      exact ⟨rfl, HH6.out, HSV6.out⟩
end Go.Proofs.YtaijjogjohbheaaGreat

/- The contracts of a disk's GetAll, Get, PutAll, Erase. -/
namespace Go.Proofs.YtaijjogjohbheaaGreat
open Go.RowKit
set_option maxRecDepth 100000
set_option linter.unusedSimpArgs false

theorem slice_two (a : Option Addr) (n c k m : Nat) (q r : IntKind) (hk : k ≤ m) (hm : m ≤ c) (w : World) :
    (Instr.slice 40 (.slice a n c) (some (.int q (k : Int))) (some (.int r (m : Int))) none).run Tryz.prog w = .ok (.slice (cutA a c k) (m - k) (c - k)) w := by
  obtain ⟨i0, hi0, hz0, hz1, hz2⟩ := info_parts info5
  rw [run_slice_lh w 40 a n c (by kernel_rfl) q r k m (by omega) (by omega) (by omega)]
  simp [sizeOf, typeInfo, elem22, hi0, hz1, sliced, cutA]

/-- The bytes that are read. -/
def dCut (L : List Nat) (i n : Nat) : List Nat := (L.drop (64 * i)).take n

theorem getAll_no (w : World) (gd gp gb k : Nat) (s : Pw) (L : List Nat) (i z : Int) (h : Dsk w gd gp gb s L k) (hi : z < 0 ∨ i < 0 ∨ (k : Int) < i ∨ 64 * ((k : Int) - i) < z) :
    Calls Tryz.prog 67 #[.pointer (some ⟨gd, 0, none⟩), .int .i64 i, .int .i64 z] w fun e w' => e = .returned (.tuple #[.slice none 0 0, .int .i64 1]) ∧ w' = w := by
  by_cases h0 : z < 0
  · clear h hi
    go_enter Tryz.func67, Tryz.ntmps67
    go_wp2
    go_ret2
    exact ⟨rfl, rfl⟩
  by_cases h1 : i < 0 ∨ (k : Int) < i
  · have HR := Lib.hid (room_no w gd gp gb k s L i h h1)
    have hz : 0 ≤ z := by omega
    have hd : decide (-1 < z) = true := by simp; omega
    clear h h1 hi h0
    go_enter Tryz.func67, Tryz.ntmps67
    go_wp2_with fail
    refine HR.out.mono ?_
    rintro e w1 ⟨rfl, rfl⟩
    go_wp2
    go_ret2
    exact ⟨rfl, rfl⟩
  · obtain ⟨j, rfl⟩ : ∃ j : Nat, i = (j : Int) := ⟨i.toNat, by omega⟩
    have hj : j ≤ k := by omega
    have HR := Lib.hid (room_yes w gd gp gb k s L j h hj)
    obtain ⟨R, hR⟩ : ∃ R : Nat, R = 64 * (k - j) := ⟨_, rfl⟩
    rw [← hR] at HR
    have hor : (R : Int) < z := by omega
    have hz : 0 ≤ z := by omega
    clear h h1 hi hR hj h0
    go_enter Tryz.func67, Tryz.ntmps67
    go_wp2_with fail
    refine HR.out.mono ?_
    rintro e w1 ⟨rfl, rfl⟩
    go_wp2
    go_ret2
    exact ⟨rfl, rfl⟩

theorem getAll_down (w : World) (gd gp gb k : Nat) (s : Pw) (L : List Nat) (i n : Nat) (h : Dsk w gd gp gb s L k) (hi : i ≤ k) (hn : n ≤ 64 * (k - i)) (ho : s.on = false) :
    Calls Tryz.prog 67 #[.pointer (some ⟨gd, 0, none⟩), .int .i64 (i : Int), .int .i64 (n : Int)] w fun e w' => e = .returned (.tuple #[.slice none 0 0, .int .i64 11]) ∧ w' = w := by
  have HR := Lib.hid (room_yes w gd gp gb k s L i h hi)
  obtain ⟨R, hR⟩ : ∃ R : Nat, R = 64 * (k - i) := ⟨_, rfl⟩
  rw [← hR] at HR hn
  have HO := Lib.hid (on_any w gp s h.pow)
  rw [ho] at HO
  have c0 := h.cells.1
  clear h hR hi ho
  go_enter Tryz.func67, Tryz.ntmps67
  go_wp2_with fail
  refine HR.out.mono ?_
  rintro e w1 ⟨rfl, rfl⟩
  go_wp2_with fail
  refine HO.out.mono ?_
  rintro e w1 ⟨rfl, rfl⟩
  go_wp2
  go_ret2
  exact ⟨rfl, rfl⟩

theorem getAll_yes (w : World) (gd gp gb k : Nat) (s : Pw) (L : List Nat) (i n : Nat) (h : Dsk w gd gp gb s L k) (hi : i ≤ k) (hn : n ≤ 64 * (k - i)) (ho : s.on = true) (hn1 : n ≤ 1000000) :
    Calls Tryz.prog 67 #[.pointer (some ⟨gd, 0, none⟩), .int .i64 (i : Int), .int .i64 (n : Int)] w fun e w' => ∃ v, e = .returned (.tuple #[v, .int .i64 0]) ∧ Own w' w.heap.size v (dCut L i n) ∧ Below w.heap.size w w' := by
  have HR := Lib.hid (room_yes w gd gp gb k s L i h hi)
  obtain ⟨R, hR⟩ : ∃ R : Nat, R = 64 * (k - i) := ⟨_, rfl⟩
  have hlen := h.len
  rw [← hR] at HR
  have HO := Lib.hid (on_any w gp s h.pow)
  rw [ho] at HO
  obtain ⟨c0, c1⟩ := h.cells
  obtain ⟨K, hK⟩ : ∃ K : Nat, K = 64 * k := ⟨_, rfl⟩
  obtain ⟨I, hI⟩ : ∃ I : Nat, I = 64 * i := ⟨_, rfl⟩
  have hk := h.ksmall
  have hw : IntKind.i64.wrap ((i : Int) * 64) = (I : Int) := by rw [IntKind.wrap_i64] <;> omega
  have hw2 : IntKind.i64.wrap ((I : Int) + (n : Int)) = ((I + n : Nat) : Int) := by rw [IntKind.wrap_i64] <;> omega
  rw [← hK] at c1
  have hsl : ∀ W : World, (Instr.slice 40 (.slice (some ⟨gb, 0, none⟩) K K) (some (.int .i64 (I : Int))) (some (.int .i64 ((I + n : Nat) : Int))) none).run Tryz.prog W = .ok (.slice (cutA (some ⟨gb, 0, none⟩) K I) (I + n - I) (K - I)) W := fun W => slice_two _ _ _ _ _ .i64 .i64 (by omega) (by omega) W
  rw [show I + n - I = n by omega] at hsl
  have hrd := h.rd
  rw [← hK] at hrd
  have hrd2 : Rd w (cutA (some ⟨gb, 0, none⟩) K I) n (dCut L i n) := by
    unfold dCut
    rw [← hI]
    exact (hrd.cut (by omega) (Nat.le_refl _)).first (by omega)
  have HC := Lib.hid (clone_any _ n (K - I) _ w hrd2 hn1)
  have hnR : (n : Int) ≤ (R : Int) := by omega
  obtain ⟨A, hA⟩ : ∃ A, A = cutA (some ⟨gb, 0, none⟩) K I := ⟨_, rfl⟩
  obtain ⟨J, hJ⟩ : ∃ J : Nat, J = I + n := ⟨_, rfl⟩
  obtain ⟨D, hD⟩ : ∃ D : Nat, D = K - I := ⟨_, rfl⟩
  obtain ⟨l, hl⟩ : ∃ l, l = dCut L i n := ⟨_, rfl⟩
  rw [← hA, ← hJ, ← hD] at hsl
  rw [← hA, ← hD, ← hl] at HC
  rw [← hJ] at hw2
  rw [← hl]
  clear hA hJ hD hl hrd2 hrd hK hI hk hR hi ho hlen h hn
  go_enter Tryz.func67, Tryz.ntmps67
  go_wp2_with fail
  refine HR.out.mono ?_
  rintro e w1 ⟨rfl, rfl⟩
  go_wp2_with fail
  refine HO.out.mono ?_
  rintro e w1 ⟨rfl, rfl⟩
  go_wp2_with fail
  refine HC.out.mono ?_
  rintro e w2 ⟨v, rfl, hv, hb⟩
  have HV := Lib.hid (And.intro hv hb)
  clear hv hb HC HO HR
  go_wp2
  go_ret2
  exact ⟨v, rfl, HV.out.1, HV.out.2⟩

/-- Get is GetAll of 64 bytes. -/
theorem get_of (w : World) (gd : Nat) (i : Int) (Q : Ending → World → Prop) (h : Calls Tryz.prog 67 #[.pointer (some ⟨gd, 0, none⟩), .int .i64 i, .int .i64 64] w fun e w' => ∃ v E, e = .returned (.tuple #[v, .int .i64 E]) ∧ Q e w') :
    Calls Tryz.prog 43 #[.pointer (some ⟨gd, 0, none⟩), .int .i64 i] w Q := by
  have H := Lib.hid h
  clear h
  go_enter Tryz.func43, Tryz.ntmps43
  go_wp2_with fail
  refine H.out.mono ?_
  rintro e w2 ⟨v, E, rfl, hq⟩
  have HQ := Lib.hid hq
  clear hq H
  go_wp2
  exact HQ.out

end Go.Proofs.YtaijjogjohbheaaGreat

/- The contract of a disk's PutAll. -/
namespace Go.Proofs.YtaijjogjohbheaaGreat
open Go.RowKit
set_option maxRecDepth 100000
set_option linter.unusedSimpArgs false

/-- Bytes put, sector by sector: power behind it, the bytes, the error. -/
def dAll (s : Pw) (L : List Nat) (i : Nat) (b : List Nat) : Pw × List Nat × Nat :=
  if 0 < b.length then
    if (dPut s L i (b.take 64)).2.2 = 0 then dAll (dPut s L i (b.take 64)).1 (dPut s L i (b.take 64)).2.1 (i + 1) (b.drop 64) else dPut s L i (b.take 64)
  else (s, L, 0)
termination_by b.length
decreasing_by simp; omega

theorem dAll_nil (s : Pw) (L : List Nat) (i : Nat) (b : List Nat) (h : b.length = 0) : dAll s L i b = (s, L, 0) := by
  rw [dAll, if_neg (by omega)]

theorem dAll_err (s : Pw) (L : List Nat) (i : Nat) (b : List Nat) (h : 0 < b.length) (he : (dPut s L i (b.take 64)).2.2 ≠ 0) : dAll s L i b = dPut s L i (b.take 64) := by
  rw [dAll, if_pos h, if_neg he]

theorem dAll_go (s : Pw) (L : List Nat) (i : Nat) (b : List Nat) (h : 0 < b.length) (he : (dPut s L i (b.take 64)).2.2 = 0) : dAll s L i b = dAll (dPut s L i (b.take 64)).1 (dPut s L i (b.take 64)).2.1 (i + 1) (b.drop 64) := by
  rw [dAll, if_pos h, if_pos he]

/-- What a write does to power's bounds. -/
def Pw.within (s : Pw) (N : Nat) : Prop := (∀ k t, s.plan = some (k, t) → k < 9223372036854775808) ∧ s.count ≤ N

theorem Pw.within.ok {s : Pw} {N : Nat} (h : s.within N) (hN : N < 4611686018427387904) : s.ok := ⟨h.1, Nat.lt_of_le_of_lt h.2 hN⟩

theorem Pw.within.write {s : Pw} {N : Nat} (h : s.within N) : (s.write 64).1.within (N + 1) := by
  obtain ⟨o, p, c⟩ := s
  obtain ⟨h1, h2⟩ := h
  unfold Pw.write
  rw [if_neg (by omega)]
  split
  · exact ⟨h1, by simp only at h2 ⊢; omega⟩
  · split
    · exact ⟨by simp, by simp only at h2 ⊢; omega⟩
    · exact ⟨by simp, by simp only at h2 ⊢; omega⟩
    · rename_i k t hk
      refine ⟨?_, by simp only at h2 ⊢; omega⟩
      intro k' t' e
      simp only at hk e
      injection e with e
      injection e with e1 e2
      have := h1 (k + 1) t hk
      omega

theorem Pw.within.mono {s : Pw} {N M : Nat} (h : s.within N) (hN : N ≤ M) : s.within M := ⟨h.1, Nat.le_trans h.2 hN⟩

theorem putAll_no (w : World) (gd gp gb k : Nat) (s : Pw) (L : List Nat) (i : Int) (a : Option Addr) (n c : Nat) (h : Dsk w gd gp gb s L k) (hi : i < 0 ∨ (k : Int) < i ∨ 64 * ((k : Int) - i) < n) :
    Calls Tryz.prog 86 #[.pointer (some ⟨gd, 0, none⟩), .int .i64 i, .slice a n c] w fun e w' => e = .returned (.int .i64 1) ∧ w' = w := by
  by_cases h1 : i < 0 ∨ (k : Int) < i
  · have HR := Lib.hid (room_no w gd gp gb k s L i h h1)
    have hd : decide ((-1 : Int) < (n : Int)) = true := by simp; omega
    clear h h1 hi
    go_enter Tryz.func86, Tryz.ntmps86
    go_wp2_with fail
    refine HR.out.mono ?_
    rintro e w1 ⟨rfl, rfl⟩
    go_wp2
    go_ret
    exact ⟨rfl, rfl⟩
  · obtain ⟨j, rfl⟩ : ∃ j : Nat, i = (j : Int) := ⟨i.toNat, by omega⟩
    have hj : j ≤ k := by omega
    have HR := Lib.hid (room_yes w gd gp gb k s L j h hj)
    obtain ⟨R, hR⟩ : ∃ R : Nat, R = 64 * (k - j) := ⟨_, rfl⟩
    rw [← hR] at HR
    have hor : R < n := by omega
    clear h h1 hi hR hj
    go_enter Tryz.func86, Tryz.ntmps86
    go_wp2_with fail
    refine HR.out.mono ?_
    rintro e w1 ⟨rfl, rfl⟩
    go_wp2
    go_ret
    exact ⟨rfl, rfl⟩

theorem add_block (ad : Addr) (q : Nat) : (ad.add q).block = ad.block := by unfold Addr.add; split <;> rfl

theorem cutA_block {a : Option Addr} {c q : Nat} {ad : Addr} (h : cutA a c q = some ad) : ∃ ad', a = some ad' ∧ ad'.block = ad.block := by
  unfold cutA at h
  split at h
  · exact ⟨ad, h, rfl⟩
  · cases a with
    | none => simp at h
    | some ad' =>
      simp only [Option.map_some] at h
      injection h with h
      exact ⟨ad', rfl, by rw [← h, add_block]⟩

/-- The bytes at 'a' lie in neither of the blocks. -/
def Off (a : Option Addr) (X : List Nat) : Prop := ∀ ad, a = some ad → ad.block ∉ X

theorem Off.cut {a : Option Addr} {X : List Nat} (h : Off a X) (c q : Nat) : Off (cutA a c q) X := fun _ e => (cutA_block e).elim fun ad' e' => e'.2 ▸ h ad' e'.1

set_option maxRecDepth 100000 in
theorem putAll_yes (w : World) (gd gp gb k : Nat) (s : Pw) (L : List Nat) (i : Nat) (a : Option Addr) (n c N : Nat) (b : List Nat) (h : Dsk w gd gp gb s L k) (hok : s.within N) (hN : N + n < 4611686018427387904) (hi : i ≤ k) (hn : n ≤ 64 * (k - i)) (hr : Rd w a n b) (hnc : n ≤ c) (hoff : 0 < n → Off a [gp, gb]) :
    Calls Tryz.prog 86 #[.pointer (some ⟨gd, 0, none⟩), .int .i64 (i : Int), .slice a n c] w fun e w' => e = .returned (.int .i64 ((dAll s L i b).2.2 : Int)) ∧ Dsk w' gd gp gb (dAll s L i b).1 (dAll s L i b).2.1 k ∧ Save [gp, gb] w w' ∧ (dAll s L i b).1.within (N + n) := by
  have HR := Lib.hid (room_yes w gd gp gb k s L i h hi)
  obtain ⟨R, hR⟩ : ∃ R : Nat, R = 64 * (k - i) := ⟨_, rfl⟩
  rw [← hR] at HR
  have hdR : decide (R < n) = false := by simp; omega
  have hks := h.ksmall
  obtain ⟨D, hD⟩ : ∃ D, D = dAll s L i b := ⟨_, rfl⟩
  rw [← hD]
  have H0 := Lib.hid (And.intro h (And.intro hok (And.intro hN (And.intro hi (And.intro hn (And.intro hr (And.intro hnc hoff)))))))
  have HD := Lib.hid hD
  clear h hok hN hi hn hr hnc hoff hD hR
  go_enter Tryz.func86, Tryz.ntmps86
  go_wp2_with fail
  refine HR.out.mono ?_
  rintro e w1 ⟨rfl, rfl⟩
  go_wp2
  clear hdR
  go_loopg [1, 2] n (fun gm v1 v2 wr => ∃ (m j : Nat) (aa : Option Addr) (cc : Nat) (bb : List Nat) (s' : Pw) (L' : List Nat), gm = m ∧ v1 = .int .i64 (j : Int) ∧ v2 = .slice aa m cc ∧ m ≤ n ∧ Hid (Dsk wr gd gp gb s' L' k ∧ Save [gp, gb] w1 wr ∧ s'.within (N + (n - m)) ∧ j ≤ k ∧ m ≤ 64 * (k - j) ∧ Rd wr aa m bb ∧ m ≤ cc ∧ (0 < m → Off aa [gp, gb]) ∧ D = dAll s' L' j bb))
  case atStart =>
    obtain ⟨h, hok, hN, hi, hn, hr, hnc, hoff⟩ := H0.out
    exact ⟨n, i, a, c, b, s, L, rfl, rfl, rfl, Nat.le_refl _, Lib.hid ⟨h, Save.refl _ _, by simpa using hok, hi, hn, hr, hnc, hoff, HD.out⟩⟩
  case round =>
    obtain ⟨m, j, aa, cc, bb, s', L', hgm, rfl, rfl, hmn, HI⟩ := hrel
    have HGM := Lib.hid hgm
    clear hgm
    rcases Nat.eq_zero_or_pos m with h0 | h0
    · subst h0
      have HE : Hid (D = (s', L', 0)) := by
        rw [HI.out.2.2.2.2.2.2.2.2]
        exact Lib.hid (dAll_nil _ _ _ _ HI.out.2.2.2.2.2.1.1)
      go_wp2
      go_ret
      have hE := HE.out
      rw [hE]
      exact ⟨rfl, HI.out.1, HI.out.2.1, HI.out.2.2.1.mono (by omega)⟩
    · obtain ⟨hd, hsv, hwi, hjk, hm, hrd, hmc, hof, hDD⟩ := HI.out
      have hks := hd.ksmall
      obtain ⟨q, hq⟩ : ∃ q, q = min m 64 := ⟨_, rfl⟩
      have hmin : min (m : Int) 64 = (q : Int) := by omega
      have htake : bb.take q = bb.take 64 := by
        rw [hq]
        rcases Nat.le_total m 64 with h | h
        · rw [Nat.min_eq_left h, List.take_of_length_le (by rw [hrd.1]; exact Nat.le_refl _), List.take_of_length_le (by rw [hrd.1]; exact h)]
        · rw [Nat.min_eq_right h]
      have hdrop : bb.drop q = bb.drop 64 := by
        rw [hq]
        rcases Nat.le_total m 64 with h | h
        · rw [Nat.min_eq_left h, List.drop_eq_nil_of_le (by rw [hrd.1]; exact Nat.le_refl _), List.drop_eq_nil_of_le (by rw [hrd.1]; exact h)]
        · rw [Nat.min_eq_right h]
      have hN := H0.out.2.2.1
      have hput := put_yes wr gd gp gb k s' L' j aa q cc (bb.take q) hd (hwi.ok (by omega)) (by omega) (by omega) (hrd.first (by omega))
      rw [htake] at hput
      have hwi' : (dPut s' L' j (bb.take 64)).1.within (N + (n - m) + 1) := hwi.write
      have hDe : (dPut s' L' j (bb.take 64)).2.2 ≠ 0 → D = dPut s' L' j (bb.take 64) := fun he => hDD.trans (dAll_err _ _ _ _ (by rw [hrd.1]; exact h0) he)
      have hDg : (dPut s' L' j (bb.take 64)).2.2 = 0 → D = dAll (dPut s' L' j (bb.take 64)).1 (dPut s' L' j (bb.take 64)).2.1 (j + 1) (bb.drop 64) := fun he => hDD.trans (dAll_go _ _ _ _ (by rw [hrd.1]; exact h0) he)
      rw [← hdrop] at hDg
      obtain ⟨P, hP⟩ : ∃ P, P = dPut s' L' j (bb.take 64) := ⟨_, rfl⟩
      rw [← hP] at hput hDe hDg hwi'
      clear hP
      obtain ⟨s2, L2, E⟩ := P
      simp only at hput hDe hDg hwi'
      have hsl1 : ∀ W : World, (Instr.slice 40 (.slice aa m cc) none (some (.int .i64 (q : Int))) none).run Tryz.prog W = .ok (.slice aa q cc) W := fun W => slice_to aa m cc q .i64 (by omega) W
      have hsl2 : ∀ W : World, (Instr.slice 40 (.slice aa m cc) (some (.int .i64 (q : Int))) none none).run Tryz.prog W = .ok (.slice (cutA aa cc q) (m - q) (cc - q)) W := fun W => slice_from aa m cc q .i64 (by omega) W
      have hw1 : IntKind.i64.wrap ((j : Int) + 1) = ((j + 1 : Nat) : Int) := by rw [IntKind.wrap_i64] <;> omega
      have HPUT := Lib.hid hput
      have HX := Lib.hid (And.intro hwi' (And.intro hDe (And.intro hDg (And.intro hq (And.intro htake hdrop)))))
      clear hput hwi' hDe hDg htake hdrop hq hwi hd hsv hjk hm hrd hmc hof hDD hks hN
      by_cases hE : E = 0
      · subst hE
        obtain ⟨m', hm'⟩ : ∃ m', m' = m - q := ⟨_, rfl⟩
        obtain ⟨c', hc'⟩ : ∃ c', c' = cc - q := ⟨_, rfl⟩
        rw [← hm', ← hc'] at hsl2
        have HM := Lib.hid (And.intro hm' hc')
        clear hm' hc'
        go_wp2_with fail
        refine HPUT.out.mono ?_
        rintro e w2 ⟨rfl, hd2, hsv2⟩
        have H2 := Lib.hid (And.intro hd2 hsv2)
        clear hd2 hsv2
        go_wp2
        go_roundg m'
        case measure => have := HGM.out; have := HM.out.1; have := HX.out.2.2.2.1; omega
        case rel =>
          obtain ⟨hd, hsv, hwi, hjk, hm, hrd, hmc, hof, hDD⟩ := HI.out
          obtain ⟨hwi', hDe, hDg, hq, htake, hdrop⟩ := HX.out
          obtain ⟨hm', hc'⟩ := HM.out
          have hrd2 := (hrd.cut (k := q) (by omega) hmc).save H2.out.2 (fun b o e => ((hof h0).cut cc q) _ e)
          rw [← hm'] at hrd2
          exact ⟨m', j + 1, cutA aa cc q, c', bb.drop q, s2, L2, rfl, by go_num, rfl, by omega, Lib.hid ⟨H2.out.1, hsv.trans H2.out.2, hwi'.mono (by omega), by omega, by omega, hrd2, by omega, fun _ => (hof h0).cut cc q, hDg trivial⟩⟩
      · have hne : ((E : Int) != 0) = true := by simp; exact hE
        have HE := Lib.hid hE
        clear hE
        go_wp2_with fail
        refine HPUT.out.mono ?_
        rintro e w2 ⟨rfl, hd2, hsv2⟩
        have H2 := Lib.hid (And.intro hd2 hsv2)
        clear hd2 hsv2
        go_wp2
        go_ret
        have hD2 := HX.out.2.1 HE.out
        rw [hD2]
        exact ⟨rfl, H2.out.1, HI.out.2.1.trans H2.out.2, HX.out.1.mono (by omega)⟩
end Go.Proofs.YtaijjogjohbheaaGreat
