/- A disk in memory: its block, its power, its bytes; Len, room, New. -/
import Derived.Test.YtaijjogjohbheaaGreatGRGenToPow
import Derived.Test.YtaijjogjohbheaaGreatGZerosToINew
import Derived.Test.YtaijjogjohbheaaGreatClone
import Derived.Test.YtaijjogjohbheaaGreatGMemToKeep
import Derived.Deep.DeepCutAuto
import Derived.StillTailTactics
import Derived.BigRegion
import Derived.Test.YtaijjogjohbheaaGreatGRdTToVBytesL
import Derived.Test.YtaijjogjohbheaaGreatGCheckMathToRMath
import Derived.Laws.BitsAllLaws
import Derived.Lib.EndianBits
import Derived.Deep.QuietTactic
import Derived.BigQuiet
import Derived.Test.YtaijjogjohbheaaGreatVPut
namespace Go.Proofs.YtaijjogjohbheaaGreat
open Go.RowKit
set_option maxRecDepth 100000
set_option linter.unusedSimpArgs false

def dskObj (gp gb n : Nat) : Obj := .cells #[.pointer (some ⟨gp, 0, none⟩), .slice (some ⟨gb, 0, none⟩) n n] 45 (0, 0)

/-- Block gd is a disk of k sectors, with the power in block gp, in state s, and the bytes L in block gb. -/
structure Dsk (w : World) (gd gp gb : Nat) (s : Pw) (L : List Nat) (k : Nat) : Prop where
  obj : w.heap[gd]? = some (dskObj gp gb (64 * k))
  pow : Pow w gp s
  row : w.heap[gb]? = some (rowObj 5 L)
  len : L.length = 64 * k
  byte : ∀ x ∈ L, x < 256
  kpos : 0 < k
  ksmall : k ≤ 65536
  np : gd ≠ gp
  nb : gd ≠ gb
  pb : gp ≠ gb

theorem Dsk.cells {w : World} {gd gp gb k : Nat} {s : Pw} {L : List Nat} (h : Dsk w gd gp gb s L k) : w.cell? ⟨gd, 0, none⟩ = some (.pointer (some ⟨gp, 0, none⟩)) ∧ w.cell? ⟨gd, 1, none⟩ = some (.slice (some ⟨gb, 0, none⟩) (64 * k) (64 * k)) := by
  constructor <;> rw [cell_of_row w gd _ _ 45 (0, 0) h.obj] <;> rfl

theorem Dsk.kept {w w' : World} {gd gp gb k : Nat} {s : Pw} {L : List Nat} (h : Dsk w gd gp gb s L k) (hd : w'.heap[gd]? = w.heap[gd]?) (hp : w'.heap[gp]? = w.heap[gp]?) (hb : w'.heap[gb]? = w.heap[gb]?) : Dsk w' gd gp gb s L k :=
  ⟨hd.trans h.obj, hp.trans h.pow, hb.trans h.row, h.len, h.byte, h.kpos, h.ksmall, h.np, h.nb, h.pb⟩

theorem Dsk.lts {w : World} {gd gp gb k : Nat} {s : Pw} {L : List Nat} (h : Dsk w gd gp gb s L k) : gd < w.heap.size ∧ gp < w.heap.size ∧ gb < w.heap.size := ⟨lt_of_block h.obj, lt_of_block h.pow, lt_of_block h.row⟩

theorem Dsk.save {w w' : World} {gd gp gb k : Nat} {s : Pw} {L : List Nat} {X : List Nat} (h : Dsk w gd gp gb s L k) (hs : Save X w w') (hX : gd ∉ X ∧ gp ∉ X ∧ gb ∉ X) : Dsk w' gd gp gb s L k :=
  h.kept (hs.block _ h.lts.1 hX.1) (hs.block _ h.lts.2.1 hX.2.1) (hs.block _ h.lts.2.2 hX.2.2)

theorem Dsk.later {w w' : World} {gd gp gb k : Nat} {s : Pw} {L : List Nat} (h : Dsk w gd gp gb s L k) (hs : Below w.heap.size w w') : Dsk w' gd gp gb s L k := h.save (X := []) (Save.of_below hs _) (by simp)

theorem Dsk.setPow {w : World} {gd gp gb k : Nat} {s : Pw} {L : List Nat} (h : Dsk w gd gp gb s L k) (s' : Pw) : Dsk (put w gp (powObj s')) gd gp gb s' L k :=
  ⟨(put_other h.np).trans h.obj, put_same h.pow, (put_other (Ne.symm h.pb)).trans h.row, h.len, h.byte, h.kpos, h.ksmall, h.np, h.nb, h.pb⟩

theorem Dsk.setRow {w : World} {gd gp gb k : Nat} {s : Pw} {L : List Nat} (h : Dsk w gd gp gb s L k) {L' : List Nat} (hl : L'.length = 64 * k) (hb : ∀ x ∈ L', x < 256) : Dsk (put w gb (rowObj 5 L')) gd gp gb s L' k :=
  ⟨(put_other h.nb).trans h.obj, (put_other h.pb).trans h.pow, put_same h.row, hl, hb, h.kpos, h.ksmall, h.np, h.nb, h.pb⟩

theorem rd_rowObj {w : World} {g n : Nat} {T : TypeId} {L : List Nat} (hg : w.heap[g]? = some (rowObj T L)) (hl : L.length = n) (hb : ∀ x ∈ L, x < 256) : Rd w (some ⟨g, 0, none⟩) n L := by
  refine ⟨hl, hb, fun _ => ⟨g, 0, rfl, fun j hj => ?_⟩⟩
  rw [Nat.zero_add, cell_of_row w g j (cB L).toArray T (0, 0) hg]
  simp [cB, List.getD, show j < L.length by omega]

theorem Dsk.rd {w : World} {gd gp gb k : Nat} {s : Pw} {L : List Nat} (h : Dsk w gd gp gb s L k) : Rd w (some ⟨gb, 0, none⟩) (64 * k) L := rd_rowObj h.row h.len h.byte

theorem len_any (w : World) (gd gp gb k : Nat) (s : Pw) (L : List Nat) (h : Dsk w gd gp gb s L k) :
    Calls Tryz.prog 42 #[.pointer (some ⟨gd, 0, none⟩)] w fun e w' => e = .returned (.int .i64 (k : Int)) ∧ w' = w := by
  have h1 := h.cells.2
  have hk := h.ksmall
  clear h
  go_enter Tryz.func42, Tryz.ntmps42
  go_wp2
  go_ret
  refine ⟨?_, rfl⟩
  go_num

theorem room_no (w : World) (gd gp gb k : Nat) (s : Pw) (L : List Nat) (i : Int) (h : Dsk w gd gp gb s L k) (hi : i < 0 ∨ (k : Int) < i) :
    Calls Tryz.prog 96 #[.pointer (some ⟨gd, 0, none⟩), .int .i64 i] w fun e w' => e = .returned (.int .i64 (-1)) ∧ w' = w := by
  have HL := Lib.hid (len_any w gd gp gb k s L h)
  clear h
  rcases hi with hi | hi
  · go_enter Tryz.func96, Tryz.ntmps96
    go_wp2
    go_ret
    exact ⟨rfl, rfl⟩
  · have h0 : ¬ i < 0 := by omega
    go_enter Tryz.func96, Tryz.ntmps96
    go_wp2_with fail
    refine HL.out.mono ?_
    rintro e w1 ⟨rfl, rfl⟩
    go_wp2
    go_ret
    exact ⟨rfl, rfl⟩

theorem room_yes (w : World) (gd gp gb k : Nat) (s : Pw) (L : List Nat) (i : Nat) (h : Dsk w gd gp gb s L k) (hi : i ≤ k) :
    Calls Tryz.prog 96 #[.pointer (some ⟨gd, 0, none⟩), .int .i64 (i : Int)] w fun e w' => e = .returned (.int .i64 ((64 * (k - i) : Nat) : Int)) ∧ w' = w := by
  have HL := Lib.hid (len_any w gd gp gb k s L h)
  have hk := h.ksmall
  clear h
  go_enter Tryz.func96, Tryz.ntmps96
  go_wp2_with fail
  refine HL.out.mono ?_
  rintro e w1 ⟨rfl, rfl⟩
  go_wp2_with fail
  refine HL.out.mono ?_
  rintro e w1 ⟨rfl, rfl⟩
  go_wp2
  go_ret
  refine ⟨?_, rfl⟩
  go_num

theorem dnew_any (w : World) (n gp : Nat) (hn : 0 < n) (hn' : n ≤ 65536) :
    Calls Tryz.prog 6 #[.int .i64 (n : Int), .pointer (some ⟨gp, 0, none⟩)] w fun e w' => e = .returned (.tuple #[.pointer (some ⟨w.heap.size + 1, 0, none⟩), .int .i64 0]) ∧ w' = (w.alloc (rowObj 5 (List.replicate (64 * n) 0))).alloc (dskObj gp w.heap.size (64 * n)) := by
  have hm := run_mkN (64 * n) (by omega) w
  obtain ⟨N, hN⟩ : ∃ N : Nat, N = 64 * n := ⟨_, rfl⟩
  have hw : IntKind.i64.wrap ((n : Int) * 64) = (N : Int) := by rw [IntKind.wrap_i64] <;> omega
  rw [← hN] at hm ⊢
  obtain ⟨o, ho⟩ : ∃ o, o = rowObj 5 (List.replicate N 0) := ⟨_, rfl⟩
  rw [← ho] at hm ⊢
  clear ho hN
  go_enter Tryz.func6, Tryz.ntmps6
  go_wp2
  go_ret2
  exact ⟨by simp, rfl⟩

theorem dsk_new (w : World) (n gp : Nat) (s : Pw) (h : Pow w gp s) (hn : 0 < n) (hn' : n ≤ 65536) : Dsk ((w.alloc (rowObj 5 (List.replicate (64 * n) 0))).alloc (dskObj gp w.heap.size (64 * n))) (w.heap.size + 1) gp w.heap.size s (List.replicate (64 * n) 0) n := by
  have hlt := h.lt
  refine ⟨?_, ?_, ?_, by simp, byte_zeros _, hn, hn', by omega, by omega, by omega⟩
  · have := heap_alloc_new (w.alloc (rowObj 5 (List.replicate (64 * n) 0))) (dskObj gp w.heap.size (64 * n))
    simpa using this
  · have hb : Below w.heap.size w ((w.alloc (rowObj 5 (List.replicate (64 * n) 0))).alloc (dskObj gp w.heap.size (64 * n))) := (Below.alloc0 _ _).alloc (by simp) _
    exact h.below hb hlt
  · have hb : Below (w.heap.size + 1) (w.alloc (rowObj 5 (List.replicate (64 * n) 0))) ((w.alloc (rowObj 5 (List.replicate (64 * n) 0))).alloc (dskObj gp w.heap.size (64 * n))) := by simpa using Below.alloc0 (w.alloc (rowObj 5 (List.replicate (64 * n) 0))) (dskObj gp w.heap.size (64 * n))
    exact (hb.block w.heap.size (by omega)).trans (heap_alloc_new w _)

end Go.Proofs.YtaijjogjohbheaaGreat

/- The contract of a disk's Put. -/
namespace Go.Proofs.YtaijjogjohbheaaGreat
open Go.RowKit
set_option maxRecDepth 100000
set_option linter.unusedSimpArgs false

/-- A sector's bytes: those of b, and bytes 0 behind them. -/
def secOf (b : List Nat) : List Nat := b ++ List.replicate (64 - b.length) 0

theorem secOf_length {b : List Nat} (h : b.length ≤ 64) : (secOf b).length = 64 := by simp [secOf]; omega

theorem secOf_byte {b : List Nat} (h : ∀ x ∈ b, x < 256) : ∀ x ∈ secOf b, x < 256 := by
  intro x hx
  simp only [secOf, List.mem_append] at hx
  rcases hx with hx | hx
  · exact h x hx
  · exact byte_zeros _ x hx

/-- A sector put: power behind it, the bytes, the error. -/
def dPut (s : Pw) (L : List Nat) (i : Nat) (b : List Nat) : Pw × List Nat × Nat :=
  ((s.write 64).1, splice L (64 * i) ((secOf b).take (s.write 64).2.1.toNat), (s.write 64).2.2)

theorem put_no (w : World) (gd gp gb k : Nat) (s : Pw) (L : List Nat) (i : Int) (a : Option Addr) (n c : Nat) (h : Dsk w gd gp gb s L k) (hi : i < 0 ∨ (k : Int) ≤ i ∨ 64 < n) :
    Calls Tryz.prog 87 #[.pointer (some ⟨gd, 0, none⟩), .int .i64 i, .slice a n c] w fun e w' => e = .returned (.int .i64 1) ∧ w' = w := by
  by_cases h1 : i < 0 ∨ (k : Int) < i
  · have HR := Lib.hid (room_no w gd gp gb k s L i h h1)
    clear h h1 hi
    go_enter Tryz.func87, Tryz.ntmps87
    go_wp2_with fail
    refine HR.out.mono ?_
    rintro e w1 ⟨rfl, rfl⟩
    go_wp2
    go_ret
    exact ⟨rfl, rfl⟩
  · obtain ⟨j, rfl⟩ : ∃ j : Nat, i = (j : Int) := ⟨i.toNat, by omega⟩
    have hj : j ≤ k := by omega
    have HR := Lib.hid (room_yes w gd gp gb k s L j h hj)
    obtain ⟨R, hR⟩ : ∃ R : Nat, R = 64 * (k - j) := ⟨_, rfl⟩
    rw [← hR] at HR
    have hor : R < 64 ∨ 64 < n := by omega
    clear h h1 hi hR hj
    by_cases h2 : R < 64
    · clear hor
      go_enter Tryz.func87, Tryz.ntmps87
      go_wp2_with fail
      refine HR.out.mono ?_
      rintro e w1 ⟨rfl, rfl⟩
      go_wp2
      go_ret
      exact ⟨rfl, rfl⟩
    · have h3 : 64 < n := by omega
      have h4 : 64 ≤ R := by omega
      clear hor h2
      go_enter Tryz.func87, Tryz.ntmps87
      go_wp2_with fail
      refine HR.out.mono ?_
      rintro e w1 ⟨rfl, rfl⟩
      go_wp2
      go_ret
      exact ⟨rfl, rfl⟩

theorem write_range (s : Pw) : ∃ M : Nat, (s.write 64).2.1 = (M : Int) ∧ M ≤ 64 := by
  unfold Pw.write
  rw [if_neg (by omega)]
  split
  · exact ⟨0, rfl, by omega⟩
  · split
    · exact ⟨64, rfl, by omega⟩
    · rename_i t _
      exact ⟨(min (max t 0) 64).toNat, by simp only; omega, by omega⟩
    · exact ⟨64, rfl, by omega⟩

theorem splice_byte {L x : List Nat} (hL : ∀ y ∈ L, y < 256) (hx : ∀ y ∈ x, y < 256) (o : Nat) : ∀ y ∈ splice L o x, y < 256 := by
  intro y hy
  simp only [splice, List.mem_append] at hy
  rcases hy with hy | hy | hy
  · exact hL y (List.mem_of_mem_take hy)
  · exact hx y hy
  · exact hL y (List.mem_of_mem_drop hy)

theorem arr_all (g : Nat) (W : World) : (Instr.sliceAt 172 (.pointer (some ⟨g, 0, none⟩)) none none none).run Tryz.prog W = .ok (.slice (some ⟨g, 0, none⟩) 64 64) W := by
  obtain ⟨i0, hi0, hz0, hz1, hz2⟩ := info_parts info5
  rw [run_sliceAt_array_all (P := Tryz.prog) W 172 ⟨g, 0, none⟩ (by kernel_rfl)]
  simp [sizeOf, typeInfo, show Tryz.prog.elem 172 = 5 by kernel_rfl, show Tryz.prog.arrayLen 172 = 64 by kernel_rfl, hi0, slicedAt, sliced, Addr.add]

theorem arr_to (g M : Nat) (hM : M ≤ 64) (W : World) : (Instr.sliceAt 172 (.pointer (some ⟨g, 0, none⟩)) none (some (.int .i64 (M : Int))) none).run Tryz.prog W = .ok (.slice (some ⟨g, 0, none⟩) M 64) W := by
  obtain ⟨i0, hi0, hz0, hz1, hz2⟩ := info_parts info5
  rw [run_sliceAt_array_h (P := Tryz.prog) W 172 ⟨g, 0, none⟩ (by kernel_rfl) .i64 (M : Int) (by omega) (by rw [show Tryz.prog.arrayLen 172 = 64 by kernel_rfl]; omega)]
  simp [sizeOf, typeInfo, show Tryz.prog.elem 172 = 5 by kernel_rfl, show Tryz.prog.arrayLen 172 = 64 by kernel_rfl, hi0, slicedAt, sliced, Addr.add]

theorem sec_spliced {b : List Nat} (h : b.length ≤ 64) : splice (List.replicate 64 0) 0 (b.take (min b.length 64)) = secOf b := by
  rw [show min b.length 64 = b.length by omega, List.take_length]
  unfold splice secOf
  rw [List.take_zero, List.nil_append, Nat.zero_add, List.drop_replicate]

set_option maxRecDepth 100000 in
theorem put_yes (w : World) (gd gp gb k : Nat) (s : Pw) (L : List Nat) (i : Nat) (a : Option Addr) (n c : Nat) (b : List Nat) (h : Dsk w gd gp gb s L k) (hok : s.ok) (hi : i < k) (hn : n ≤ 64) (hr : Rd w a n b) :
    Calls Tryz.prog 87 #[.pointer (some ⟨gd, 0, none⟩), .int .i64 (i : Int), .slice a n c] w fun e w' => e = .returned (.int .i64 ((dPut s L i b).2.2 : Int)) ∧ Dsk w' gd gp gb (dPut s L i b).1 (dPut s L i b).2.1 k ∧ Save [gp, gb] w w' := by
  have HR := Lib.hid (room_yes w gd gp gb k s L i h (by omega))
  obtain ⟨R, hR⟩ : ∃ R : Nat, R = 64 * (k - i) := ⟨_, rfl⟩
  rw [← hR] at HR
  have hR64 : 64 ≤ R := by omega
  have HH := Lib.hid h
  have HI := Lib.hid hi
  have HRD := Lib.hid hr
  have HWA : Hid (∀ W, Pow W gp s → _) := Lib.hid fun W hW => write_any W gp s 64 hW hok
  obtain ⟨M, hM, hM64⟩ := write_range s
  obtain ⟨E, hE2⟩ : ∃ E, E = (s.write 64).2.2 := ⟨_, rfl⟩
  obtain ⟨s', hs'⟩ : ∃ s', s' = (s.write 64).1 := ⟨_, rfl⟩
  have hD : dPut s L i b = (s', splice L (64 * i) ((secOf b).take M), E) := by
    simp only [dPut, hM, hE2, hs']
    simp
  rw [hD]
  rw [hM, ← hE2, ← hs'] at HWA
  obtain ⟨I, hI⟩ : ∃ I : Nat, I = 64 * i := ⟨_, rfl⟩
  rw [← hI]
  have HI0 := Lib.hid hI
  clear hR h hr hi hM hE2 hs' hD hI
  go_enter Tryz.func87, Tryz.ntmps87
  go_wp2_with fail
  refine HR.out.mono ?_
  rintro e w1 ⟨rfl, rfl⟩
  go_upto_region 4 with fail
  change Code.wp _ _ _ _ (w1.alloc (rowObj 172 (List.replicate 64 0)))
  obtain ⟨w2, h2⟩ : ∃ w2, w2 = w1.alloc (rowObj 172 (List.replicate 64 0)) := ⟨_, rfl⟩
  obtain ⟨g7, hg7⟩ : ∃ g7, g7 = w1.heap.size := ⟨_, rfl⟩
  rw [← h2, ← hg7]
  have HB2 : Hid (Below w1.heap.size w1 w2) := by rw [h2]; exact Lib.hid (Below.alloc0 _ _)
  have HS2 : Hid (w2.heap[g7]? = some (rowObj 172 (List.replicate 64 0))) := by rw [h2, hg7]; exact Lib.hid (heap_alloc_new _ _)
  have HG7 := Lib.hid hg7
  have HRD2 := Lib.hid (HRD.out.later HB2.out)
  clear h2 hg7
  have HE : Hid (splice (List.replicate 64 0) 0 (b.take (min n 64)) = secOf b) := by
    have := sec_spliced (b := b) (by rw [HRD.out.1]; exact hn)
    rw [HRD.out.1] at this
    exact Lib.hid this
  have hs1 := arr_all g7
  go_wp2_with (refine wpList_copy_bytes rfl (.tmp 19) (.tmp 20) rfl _ _ _ _ _ _ rfl rfl g7 0 172 (List.replicate 64 0) b HS2.out HRD2.out (fun _ => rfl) ?fit (secOf b) HE.out ?next)
  case fit => simp; omega
  case next =>
    intro w3 H3
    have h3 := H3.out
    clear H3
    have hlt := HH.out.lts
    have HS3 : Hid (w3.heap[g7]? = some (rowObj 172 (secOf b))) := by rw [h3]; exact Lib.hid (put_same HS2.out)
    have HB3 : Hid (Below w1.heap.size w1 w3) := by rw [h3]; exact Lib.hid (HB2.out.trans (put_below _ (by rw [HG7.out]; exact Nat.le_refl _)))
    have HH3 := Lib.hid (HH.out.later HB3.out)
    obtain ⟨c0, c1⟩ := HH3.out.cells
    have HW := Lib.hid (HWA.out w3 HH3.out.pow)
    clear h3 hlt
    go_wp2_with fail
    refine HW.out.mono ?_
    rintro e w4 ⟨rfl, h4⟩
    have HH4 : Hid (Dsk w4 gd gp gb s' L k) := by rw [h4]; exact Lib.hid (HH3.out.setPow s')
    have HSV4 : Hid (Save [gp, gb] w1 w4) := by rw [h4]; exact Lib.hid ((Save.of_below HB3.out _).put (by simp) _)
    have HS4 : Hid (w4.heap[g7]? = some (rowObj 172 (secOf b))) := by
      rw [h4]
      exact Lib.hid ((put_other (by have := HH.out.lts; have := HG7.out; omega)).trans HS3.out)
    clear h4 HW c0 c1
    obtain ⟨c0, c1⟩ := HH4.out.cells
    obtain ⟨K, hK⟩ : ∃ K : Nat, K = 64 * k := ⟨_, rfl⟩
    have hI := HI0.out
    have hik := HI.out
    have hk := HH4.out.ksmall
    have hw : IntKind.i64.wrap ((i : Int) * 64) = (I : Int) := by rw [IntKind.wrap_i64] <;> omega
    have hIK : I + 64 ≤ K := by omega
    rw [← hK] at c1
    have hsl : ∀ W : World, (Instr.slice 40 (.slice (some ⟨gb, 0, none⟩) K K) (some (.int .i64 (I : Int))) none none).run Tryz.prog W = .ok (.slice (cutA (some ⟨gb, 0, none⟩) K I) (K - I) (K - I)) W := fun W => slice_from _ _ _ _ .i64 (by omega) W
    have hcut : cutA (some ⟨gb, 0, none⟩) K I = some ⟨gb, I, none⟩ := by
      unfold cutA
      rw [if_neg (by omega)]
      simp [add_plain]
    rw [hcut] at hsl
    have hs2 := arr_to g7 M hM64
    have HIK := Lib.hid (And.intro hI (And.intro hK (And.intro hk hik)))
    clear hcut hI hK hk hik hs1
    go_upto_region 6 with fail
    refine wp_region_still_tail 9 (by kernel_rfl) (by kernel_rfl) ?_
    simp only [List.take_succ_cons, List.take_zero, List.drop_succ_cons, List.drop_zero]
    change wpStill _ _ w4.drew _ _ _
    have e0 : w4.drew.cell? ⟨gd, 1, none⟩ = some (.slice (some ⟨gb, 0, none⟩) K K) := c1
    obtain ⟨w5, h5⟩ : ∃ w5, w5 = w4.drew := ⟨_, rfl⟩
    have HH5 : Hid (Dsk w5 gd gp gb s' L k) := by rw [h5]; exact Lib.hid (HH4.out.kept rfl rfl rfl)
    have HSV5 : Hid (Save [gp, gb] w1 w5) := by rw [h5]; exact Lib.hid HSV4.out.drew
    have HS5 : Hid (Rd w5 (some ⟨g7, 0, none⟩) M ((secOf b).take M)) := by
      rw [h5]
      exact Lib.hid ((rd_rowObj (w := w4.drew) HS4.out (secOf_length (by rw [HRD.out.1]; exact hn)) (secOf_byte HRD.out.2.1)).first hM64)
    rw [← h5] at e0 ⊢
    have H5 := Lib.hid h5
    clear h5 c0 c1
    repeat still_step
    refine wpStill_nil ?_
    change wpList _ _ _ _ _ w4.drew
    rw [← H5.out]
    refine wpList_copy_bytes rfl (.tmp 36) (.tmp 38) rfl _ _ _ _ _ _ rfl rfl gb I 5 L ((secOf b).take M) HH5.out.row HS5.out (fun _ => rfl) ?fit2 (splice L I ((secOf b).take M)) ?eq2 ?next2
    case fit2 => rw [HH5.out.len, ← HIK.out.2.1]; omega
    case eq2 =>
      have hmin : min M (K - I) = M := by omega
      rw [hmin, List.take_take, Nat.min_self]
    case next2 =>
      intro w6 H6
      have h6 := H6.out
      clear H6
      have hlen : (splice L I ((secOf b).take M)).length = 64 * k := by
        rw [length_splice, HH5.out.len]
        rw [HH5.out.len, List.length_take]
        have := HIK.out.2.1
        omega
      have HH6 : Hid (Dsk w6 gd gp gb s' (splice L I ((secOf b).take M)) k) := by
        rw [h6]
        exact Lib.hid (HH5.out.setRow hlen (splice_byte HH5.out.byte (fun y hy => secOf_byte HRD.out.2.1 y (List.mem_of_mem_take hy)) I))
      have HSV6 : Hid (Save [gp, gb] w1 w6) := by rw [h6]; exact Lib.hid (HSV5.out.put (by simp) _)
      clear h6 hlen
      go_wp2
      go_ret
      exact ⟨rfl, HH6.out, HSV6.out⟩
end Go.Proofs.YtaijjogjohbheaaGreat

/- The contracts of a disk's GetAll, Get, PutAll, Erase. -/
namespace Go.Proofs.YtaijjogjohbheaaGreat
open Go.RowKit
set_option maxRecDepth 100000
set_option linter.unusedSimpArgs false

theorem slice_two (a : Option Addr) (n c k m : Nat) (q r : IntKind) (hk : k ≤ m) (hm : m ≤ c) (w : World) :
    (Instr.slice 40 (.slice a n c) (some (.int q (k : Int))) (some (.int r (m : Int))) none).run Tryz.prog w = .ok (.slice (cutA a c k) (m - k) (c - k)) w := by
  obtain ⟨i0, hi0, hz0, hz1, hz2⟩ := info_parts info5
  rw [run_slice_lh w 40 a n c (by kernel_rfl) q r k m (by omega) (by omega) (by omega)]
  simp [sizeOf, typeInfo, elem22, hi0, hz1, sliced, cutA]

/-- The bytes that are read. -/
def dCut (L : List Nat) (i n : Nat) : List Nat := (L.drop (64 * i)).take n

theorem getAll_no (w : World) (gd gp gb k : Nat) (s : Pw) (L : List Nat) (i z : Int) (h : Dsk w gd gp gb s L k) (hi : z < 0 ∨ i < 0 ∨ (k : Int) < i ∨ 64 * ((k : Int) - i) < z) :
    Calls Tryz.prog 67 #[.pointer (some ⟨gd, 0, none⟩), .int .i64 i, .int .i64 z] w fun e w' => e = .returned (.tuple #[.slice none 0 0, .int .i64 1]) ∧ w' = w := by
  by_cases h0 : z < 0
  · clear h hi
    go_enter Tryz.func67, Tryz.ntmps67
    go_wp2
    go_ret2
    exact ⟨rfl, rfl⟩
  by_cases h1 : i < 0 ∨ (k : Int) < i
  · have HR := Lib.hid (room_no w gd gp gb k s L i h h1)
    have hz : 0 ≤ z := by omega
    have hd : decide (-1 < z) = true := by simp; omega
    clear h h1 hi h0
    go_enter Tryz.func67, Tryz.ntmps67
    go_wp2_with fail
    refine HR.out.mono ?_
    rintro e w1 ⟨rfl, rfl⟩
    go_wp2
    go_ret2
    exact ⟨rfl, rfl⟩
  · obtain ⟨j, rfl⟩ : ∃ j : Nat, i = (j : Int) := ⟨i.toNat, by omega⟩
    have hj : j ≤ k := by omega
    have HR := Lib.hid (room_yes w gd gp gb k s L j h hj)
    obtain ⟨R, hR⟩ : ∃ R : Nat, R = 64 * (k - j) := ⟨_, rfl⟩
    rw [← hR] at HR
    have hor : (R : Int) < z := by omega
    have hz : 0 ≤ z := by omega
    clear h h1 hi hR hj h0
    go_enter Tryz.func67, Tryz.ntmps67
    go_wp2_with fail
    refine HR.out.mono ?_
    rintro e w1 ⟨rfl, rfl⟩
    go_wp2
    go_ret2
    exact ⟨rfl, rfl⟩

theorem getAll_down (w : World) (gd gp gb k : Nat) (s : Pw) (L : List Nat) (i n : Nat) (h : Dsk w gd gp gb s L k) (hi : i ≤ k) (hn : n ≤ 64 * (k - i)) (ho : s.on = false) :
    Calls Tryz.prog 67 #[.pointer (some ⟨gd, 0, none⟩), .int .i64 (i : Int), .int .i64 (n : Int)] w fun e w' => e = .returned (.tuple #[.slice none 0 0, .int .i64 11]) ∧ w' = w := by
  have HR := Lib.hid (room_yes w gd gp gb k s L i h hi)
  obtain ⟨R, hR⟩ : ∃ R : Nat, R = 64 * (k - i) := ⟨_, rfl⟩
  rw [← hR] at HR hn
  have HO := Lib.hid (on_any w gp s h.pow)
  rw [ho] at HO
  have c0 := h.cells.1
  clear h hR hi ho
  go_enter Tryz.func67, Tryz.ntmps67
  go_wp2_with fail
  refine HR.out.mono ?_
  rintro e w1 ⟨rfl, rfl⟩
  go_wp2_with fail
  refine HO.out.mono ?_
  rintro e w1 ⟨rfl, rfl⟩
  go_wp2
  go_ret2
  exact ⟨rfl, rfl⟩

theorem getAll_yes (w : World) (gd gp gb k : Nat) (s : Pw) (L : List Nat) (i n : Nat) (h : Dsk w gd gp gb s L k) (hi : i ≤ k) (hn : n ≤ 64 * (k - i)) (ho : s.on = true) (hn1 : n ≤ 1000000) :
    Calls Tryz.prog 67 #[.pointer (some ⟨gd, 0, none⟩), .int .i64 (i : Int), .int .i64 (n : Int)] w fun e w' => ∃ v, e = .returned (.tuple #[v, .int .i64 0]) ∧ Own w' w.heap.size v (dCut L i n) ∧ Below w.heap.size w w' := by
  have HR := Lib.hid (room_yes w gd gp gb k s L i h hi)
  obtain ⟨R, hR⟩ : ∃ R : Nat, R = 64 * (k - i) := ⟨_, rfl⟩
  have hlen := h.len
  rw [← hR] at HR
  have HO := Lib.hid (on_any w gp s h.pow)
  rw [ho] at HO
  obtain ⟨c0, c1⟩ := h.cells
  obtain ⟨K, hK⟩ : ∃ K : Nat, K = 64 * k := ⟨_, rfl⟩
  obtain ⟨I, hI⟩ : ∃ I : Nat, I = 64 * i := ⟨_, rfl⟩
  have hk := h.ksmall
  have hw : IntKind.i64.wrap ((i : Int) * 64) = (I : Int) := by rw [IntKind.wrap_i64] <;> omega
  have hw2 : IntKind.i64.wrap ((I : Int) + (n : Int)) = ((I + n : Nat) : Int) := by rw [IntKind.wrap_i64] <;> omega
  rw [← hK] at c1
  have hsl : ∀ W : World, (Instr.slice 40 (.slice (some ⟨gb, 0, none⟩) K K) (some (.int .i64 (I : Int))) (some (.int .i64 ((I + n : Nat) : Int))) none).run Tryz.prog W = .ok (.slice (cutA (some ⟨gb, 0, none⟩) K I) (I + n - I) (K - I)) W := fun W => slice_two _ _ _ _ _ .i64 .i64 (by omega) (by omega) W
  rw [show I + n - I = n by omega] at hsl
  have hrd := h.rd
  rw [← hK] at hrd
  have hrd2 : Rd w (cutA (some ⟨gb, 0, none⟩) K I) n (dCut L i n) := by
    unfold dCut
    rw [← hI]
    exact (hrd.cut (by omega) (Nat.le_refl _)).first (by omega)
  have HC := Lib.hid (clone_any _ n (K - I) _ w hrd2 hn1)
  have hnR : (n : Int) ≤ (R : Int) := by omega
  obtain ⟨A, hA⟩ : ∃ A, A = cutA (some ⟨gb, 0, none⟩) K I := ⟨_, rfl⟩
  obtain ⟨J, hJ⟩ : ∃ J : Nat, J = I + n := ⟨_, rfl⟩
  obtain ⟨D, hD⟩ : ∃ D : Nat, D = K - I := ⟨_, rfl⟩
  obtain ⟨l, hl⟩ : ∃ l, l = dCut L i n := ⟨_, rfl⟩
  rw [← hA, ← hJ, ← hD] at hsl
  rw [← hA, ← hD, ← hl] at HC
  rw [← hJ] at hw2
  rw [← hl]
  clear hA hJ hD hl hrd2 hrd hK hI hk hR hi ho hlen h hn
  go_enter Tryz.func67, Tryz.ntmps67
  go_wp2_with fail
  refine HR.out.mono ?_
  rintro e w1 ⟨rfl, rfl⟩
  go_wp2_with fail
  refine HO.out.mono ?_
  rintro e w1 ⟨rfl, rfl⟩
  go_wp2_with fail
  refine HC.out.mono ?_
  rintro e w2 ⟨v, rfl, hv, hb⟩
  have HV := Lib.hid (And.intro hv hb)
  clear hv hb HC HO HR
  go_wp2
  go_ret2
  exact ⟨v, rfl, HV.out.1, HV.out.2⟩

/-- Get is GetAll of 64 bytes. -/
theorem get_of (w : World) (gd : Nat) (i : Int) (Q : Ending → World → Prop) (h : Calls Tryz.prog 67 #[.pointer (some ⟨gd, 0, none⟩), .int .i64 i, .int .i64 64] w fun e w' => ∃ v E, e = .returned (.tuple #[v, .int .i64 E]) ∧ Q e w') :
    Calls Tryz.prog 43 #[.pointer (some ⟨gd, 0, none⟩), .int .i64 i] w Q := by
  have H := Lib.hid h
  clear h
  go_enter Tryz.func43, Tryz.ntmps43
  go_wp2_with fail
  refine H.out.mono ?_
  rintro e w2 ⟨v, E, rfl, hq⟩
  have HQ := Lib.hid hq
  clear hq H
  go_wp2
  exact HQ.out

end Go.Proofs.YtaijjogjohbheaaGreat

/- The contract of a disk's PutAll. -/
namespace Go.Proofs.YtaijjogjohbheaaGreat
open Go.RowKit
set_option maxRecDepth 100000
set_option linter.unusedSimpArgs false

/-- Bytes put, sector by sector: power behind it, the bytes, the error. -/
def dAll (s : Pw) (L : List Nat) (i : Nat) (b : List Nat) : Pw × List Nat × Nat :=
  if 0 < b.length then
    if (dPut s L i (b.take 64)).2.2 = 0 then dAll (dPut s L i (b.take 64)).1 (dPut s L i (b.take 64)).2.1 (i + 1) (b.drop 64) else dPut s L i (b.take 64)
  else (s, L, 0)
termination_by b.length
decreasing_by simp; omega

theorem dAll_nil (s : Pw) (L : List Nat) (i : Nat) (b : List Nat) (h : b.length = 0) : dAll s L i b = (s, L, 0) := by
  rw [dAll, if_neg (by omega)]

theorem dAll_err (s : Pw) (L : List Nat) (i : Nat) (b : List Nat) (h : 0 < b.length) (he : (dPut s L i (b.take 64)).2.2 ≠ 0) : dAll s L i b = dPut s L i (b.take 64) := by
  rw [dAll, if_pos h, if_neg he]

theorem dAll_go (s : Pw) (L : List Nat) (i : Nat) (b : List Nat) (h : 0 < b.length) (he : (dPut s L i (b.take 64)).2.2 = 0) : dAll s L i b = dAll (dPut s L i (b.take 64)).1 (dPut s L i (b.take 64)).2.1 (i + 1) (b.drop 64) := by
  rw [dAll, if_pos h, if_pos he]

/-- What a write does to power's bounds. -/
def Pw.within (s : Pw) (N : Nat) : Prop := (∀ k t, s.plan = some (k, t) → k < 9223372036854775808) ∧ s.count ≤ N

theorem Pw.within.ok {s : Pw} {N : Nat} (h : s.within N) (hN : N < 4611686018427387904) : s.ok := ⟨h.1, Nat.lt_of_le_of_lt h.2 hN⟩

theorem Pw.within.write {s : Pw} {N : Nat} (h : s.within N) : (s.write 64).1.within (N + 1) := by
  obtain ⟨o, p, c⟩ := s
  obtain ⟨h1, h2⟩ := h
  unfold Pw.write
  rw [if_neg (by omega)]
  split
  · exact ⟨h1, by simp only at h2 ⊢; omega⟩
  · split
    · exact ⟨by simp, by simp only at h2 ⊢; omega⟩
    · exact ⟨by simp, by simp only at h2 ⊢; omega⟩
    · rename_i k t hk
      refine ⟨?_, by simp only at h2 ⊢; omega⟩
      intro k' t' e
      simp only at hk e
      injection e with e
      injection e with e1 e2
      have := h1 (k + 1) t hk
      omega

theorem Pw.within.mono {s : Pw} {N M : Nat} (h : s.within N) (hN : N ≤ M) : s.within M := ⟨h.1, Nat.le_trans h.2 hN⟩

theorem putAll_no (w : World) (gd gp gb k : Nat) (s : Pw) (L : List Nat) (i : Int) (a : Option Addr) (n c : Nat) (h : Dsk w gd gp gb s L k) (hi : i < 0 ∨ (k : Int) < i ∨ 64 * ((k : Int) - i) < n) :
    Calls Tryz.prog 86 #[.pointer (some ⟨gd, 0, none⟩), .int .i64 i, .slice a n c] w fun e w' => e = .returned (.int .i64 1) ∧ w' = w := by
  by_cases h1 : i < 0 ∨ (k : Int) < i
  · have HR := Lib.hid (room_no w gd gp gb k s L i h h1)
    have hd : decide ((-1 : Int) < (n : Int)) = true := by simp; omega
    clear h h1 hi
    go_enter Tryz.func86, Tryz.ntmps86
    go_wp2_with fail
    refine HR.out.mono ?_
    rintro e w1 ⟨rfl, rfl⟩
    go_wp2
    go_ret
    exact ⟨rfl, rfl⟩
  · obtain ⟨j, rfl⟩ : ∃ j : Nat, i = (j : Int) := ⟨i.toNat, by omega⟩
    have hj : j ≤ k := by omega
    have HR := Lib.hid (room_yes w gd gp gb k s L j h hj)
    obtain ⟨R, hR⟩ : ∃ R : Nat, R = 64 * (k - j) := ⟨_, rfl⟩
    rw [← hR] at HR
    have hor : R < n := by omega
    clear h h1 hi hR hj
    go_enter Tryz.func86, Tryz.ntmps86
    go_wp2_with fail
    refine HR.out.mono ?_
    rintro e w1 ⟨rfl, rfl⟩
    go_wp2
    go_ret
    exact ⟨rfl, rfl⟩

theorem add_block (ad : Addr) (q : Nat) : (ad.add q).block = ad.block := by unfold Addr.add; split <;> rfl

theorem cutA_block {a : Option Addr} {c q : Nat} {ad : Addr} (h : cutA a c q = some ad) : ∃ ad', a = some ad' ∧ ad'.block = ad.block := by
  unfold cutA at h
  split at h
  · exact ⟨ad, h, rfl⟩
  · cases a with
    | none => simp at h
    | some ad' =>
      simp only [Option.map_some] at h
      injection h with h
      exact ⟨ad', rfl, by rw [← h, add_block]⟩

/-- The bytes at 'a' lie in neither of the blocks. -/
def Off (a : Option Addr) (X : List Nat) : Prop := ∀ ad, a = some ad → ad.block ∉ X

theorem Off.cut {a : Option Addr} {X : List Nat} (h : Off a X) (c q : Nat) : Off (cutA a c q) X := fun _ e => (cutA_block e).elim fun ad' e' => e'.2 ▸ h ad' e'.1

set_option maxRecDepth 100000 in
theorem putAll_yes (w : World) (gd gp gb k : Nat) (s : Pw) (L : List Nat) (i : Nat) (a : Option Addr) (n c N : Nat) (b : List Nat) (h : Dsk w gd gp gb s L k) (hok : s.within N) (hN : N + n < 4611686018427387904) (hi : i ≤ k) (hn : n ≤ 64 * (k - i)) (hr : Rd w a n b) (hnc : n ≤ c) (hoff : 0 < n → Off a [gp, gb]) :
    Calls Tryz.prog 86 #[.pointer (some ⟨gd, 0, none⟩), .int .i64 (i : Int), .slice a n c] w fun e w' => e = .returned (.int .i64 ((dAll s L i b).2.2 : Int)) ∧ Dsk w' gd gp gb (dAll s L i b).1 (dAll s L i b).2.1 k ∧ Save [gp, gb] w w' ∧ (dAll s L i b).1.within (N + n) := by
  have HR := Lib.hid (room_yes w gd gp gb k s L i h hi)
  obtain ⟨R, hR⟩ : ∃ R : Nat, R = 64 * (k - i) := ⟨_, rfl⟩
  rw [← hR] at HR
  have hdR : decide (R < n) = false := by simp; omega
  have hks := h.ksmall
  obtain ⟨D, hD⟩ : ∃ D, D = dAll s L i b := ⟨_, rfl⟩
  rw [← hD]
  have H0 := Lib.hid (And.intro h (And.intro hok (And.intro hN (And.intro hi (And.intro hn (And.intro hr (And.intro hnc hoff)))))))
  have HD := Lib.hid hD
  clear h hok hN hi hn hr hnc hoff hD hR
  go_enter Tryz.func86, Tryz.ntmps86
  go_wp2_with fail
  refine HR.out.mono ?_
  rintro e w1 ⟨rfl, rfl⟩
  go_wp2
  clear hdR
  go_loopg [1, 2] n (fun gm v1 v2 wr => ∃ (m j : Nat) (aa : Option Addr) (cc : Nat) (bb : List Nat) (s' : Pw) (L' : List Nat), gm = m ∧ v1 = .int .i64 (j : Int) ∧ v2 = .slice aa m cc ∧ m ≤ n ∧ Hid (Dsk wr gd gp gb s' L' k ∧ Save [gp, gb] w1 wr ∧ s'.within (N + (n - m)) ∧ j ≤ k ∧ m ≤ 64 * (k - j) ∧ Rd wr aa m bb ∧ m ≤ cc ∧ (0 < m → Off aa [gp, gb]) ∧ D = dAll s' L' j bb))
  case atStart =>
    obtain ⟨h, hok, hN, hi, hn, hr, hnc, hoff⟩ := H0.out
    exact ⟨n, i, a, c, b, s, L, rfl, rfl, rfl, Nat.le_refl _, Lib.hid ⟨h, Save.refl _ _, by simpa using hok, hi, hn, hr, hnc, hoff, HD.out⟩⟩
  case round =>
    obtain ⟨m, j, aa, cc, bb, s', L', hgm, rfl, rfl, hmn, HI⟩ := hrel
    have HGM := Lib.hid hgm
    clear hgm
    rcases Nat.eq_zero_or_pos m with h0 | h0
    · subst h0
      have HE : Hid (D = (s', L', 0)) := by
        rw [HI.out.2.2.2.2.2.2.2.2]
        exact Lib.hid (dAll_nil _ _ _ _ HI.out.2.2.2.2.2.1.1)
      go_wp2
      go_ret
      have hE := HE.out
      rw [hE]
      exact ⟨rfl, HI.out.1, HI.out.2.1, HI.out.2.2.1.mono (by omega)⟩
    · obtain ⟨hd, hsv, hwi, hjk, hm, hrd, hmc, hof, hDD⟩ := HI.out
      have hks := hd.ksmall
      obtain ⟨q, hq⟩ : ∃ q, q = min m 64 := ⟨_, rfl⟩
      have hmin : min (m : Int) 64 = (q : Int) := by omega
      have htake : bb.take q = bb.take 64 := by
        rw [hq]
        rcases Nat.le_total m 64 with h | h
        · rw [Nat.min_eq_left h, List.take_of_length_le (by rw [hrd.1]; exact Nat.le_refl _), List.take_of_length_le (by rw [hrd.1]; exact h)]
        · rw [Nat.min_eq_right h]
      have hdrop : bb.drop q = bb.drop 64 := by
        rw [hq]
        rcases Nat.le_total m 64 with h | h
        · rw [Nat.min_eq_left h, List.drop_eq_nil_of_le (by rw [hrd.1]; exact Nat.le_refl _), List.drop_eq_nil_of_le (by rw [hrd.1]; exact h)]
        · rw [Nat.min_eq_right h]
      have hN := H0.out.2.2.1
      have hput := put_yes wr gd gp gb k s' L' j aa q cc (bb.take q) hd (hwi.ok (by omega)) (by omega) (by omega) (hrd.first (by omega))
      rw [htake] at hput
      have hwi' : (dPut s' L' j (bb.take 64)).1.within (N + (n - m) + 1) := hwi.write
      have hDe : (dPut s' L' j (bb.take 64)).2.2 ≠ 0 → D = dPut s' L' j (bb.take 64) := fun he => hDD.trans (dAll_err _ _ _ _ (by rw [hrd.1]; exact h0) he)
      have hDg : (dPut s' L' j (bb.take 64)).2.2 = 0 → D = dAll (dPut s' L' j (bb.take 64)).1 (dPut s' L' j (bb.take 64)).2.1 (j + 1) (bb.drop 64) := fun he => hDD.trans (dAll_go _ _ _ _ (by rw [hrd.1]; exact h0) he)
      rw [← hdrop] at hDg
      obtain ⟨P, hP⟩ : ∃ P, P = dPut s' L' j (bb.take 64) := ⟨_, rfl⟩
      rw [← hP] at hput hDe hDg hwi'
      clear hP
      obtain ⟨s2, L2, E⟩ := P
      simp only at hput hDe hDg hwi'
      have hsl1 : ∀ W : World, (Instr.slice 40 (.slice aa m cc) none (some (.int .i64 (q : Int))) none).run Tryz.prog W = .ok (.slice aa q cc) W := fun W => slice_to aa m cc q .i64 (by omega) W
      have hsl2 : ∀ W : World, (Instr.slice 40 (.slice aa m cc) (some (.int .i64 (q : Int))) none none).run Tryz.prog W = .ok (.slice (cutA aa cc q) (m - q) (cc - q)) W := fun W => slice_from aa m cc q .i64 (by omega) W
      have hw1 : IntKind.i64.wrap ((j : Int) + 1) = ((j + 1 : Nat) : Int) := by rw [IntKind.wrap_i64] <;> omega
      have HPUT := Lib.hid hput
      have HX := Lib.hid (And.intro hwi' (And.intro hDe (And.intro hDg (And.intro hq (And.intro htake hdrop)))))
      clear hput hwi' hDe hDg htake hdrop hq hwi hd hsv hjk hm hrd hmc hof hDD hks hN
      by_cases hE : E = 0
      · subst hE
        obtain ⟨m', hm'⟩ : ∃ m', m' = m - q := ⟨_, rfl⟩
        obtain ⟨c', hc'⟩ : ∃ c', c' = cc - q := ⟨_, rfl⟩
        rw [← hm', ← hc'] at hsl2
        have HM := Lib.hid (And.intro hm' hc')
        clear hm' hc'
        go_wp2_with fail
        refine HPUT.out.mono ?_
        rintro e w2 ⟨rfl, hd2, hsv2⟩
        have H2 := Lib.hid (And.intro hd2 hsv2)
        clear hd2 hsv2
        go_wp2
        go_roundg m'
        case measure => have := HGM.out; have := HM.out.1; have := HX.out.2.2.2.1; omega
        case rel =>
          obtain ⟨hd, hsv, hwi, hjk, hm, hrd, hmc, hof, hDD⟩ := HI.out
          obtain ⟨hwi', hDe, hDg, hq, htake, hdrop⟩ := HX.out
          obtain ⟨hm', hc'⟩ := HM.out
          have hrd2 := (hrd.cut (k := q) (by omega) hmc).save H2.out.2 (fun b o e => ((hof h0).cut cc q) _ e)
          rw [← hm'] at hrd2
          exact ⟨m', j + 1, cutA aa cc q, c', bb.drop q, s2, L2, rfl, by go_num, rfl, by omega, Lib.hid ⟨H2.out.1, hsv.trans H2.out.2, hwi'.mono (by omega), by omega, by omega, hrd2, by omega, fun _ => (hof h0).cut cc q, hDg trivial⟩⟩
      · have hne : ((E : Int) != 0) = true := by simp; exact hE
        have HE := Lib.hid hE
        clear hE
        go_wp2_with fail
        refine HPUT.out.mono ?_
        rintro e w2 ⟨rfl, hd2, hsv2⟩
        have H2 := Lib.hid (And.intro hd2 hsv2)
        clear hd2 hsv2
        go_wp2
        go_ret
        have hD2 := HX.out.2.1 HE.out
        rw [hD2]
        exact ⟨rfl, H2.out.1, HI.out.2.1.trans H2.out.2, HX.out.1.mono (by omega)⟩
end Go.Proofs.YtaijjogjohbheaaGreat

/- A root in memory, and the contracts of its small functions: place, sectors, area, Room, Gen. -/
namespace Go.Proofs.YtaijjogjohbheaaGreat
open Go.RowKit
set_option maxRecDepth 100000
set_option linter.unusedSimpArgs false

def rootObj (gd G : Nat) : Obj := .cells #[.pointer (some ⟨gd, 0, none⟩), .int .u64 (G : Int)] 106 (0, 0)

/-- How many sectors an area has. -/
def sect (k : Nat) : Nat := (k - 2) / 2

theorem root_cells {w : World} {gr gd G : Nat} (h : w.heap[gr]? = some (rootObj gd G)) : w.cell? ⟨gr, 0, none⟩ = some (.pointer (some ⟨gd, 0, none⟩)) ∧ w.cell? ⟨gr, 1, none⟩ = some (.int .u64 (G : Int)) := by
  constructor <;> rw [cell_of_row w gr _ _ 106 (0, 0) h] <;> rfl

theorem root_soft {w : World} {gr gd G : Nat} (h : w.heap[gr]? = some (rootObj gd G)) (i : Nat) : w.frozen? ⟨gr, i, none⟩ = false := by
  simp [World.frozen?, h, rootObj]

theorem root_set {w : World} {gr gd G : Nat} (h : w.heap[gr]? = some (rootObj gd G)) (G' : Nat) : w.setCell ⟨gr, 1, none⟩ (.int .u64 (G' : Int)) = put w gr (rootObj gd G') := set_put _ h

theorem place_any (G : Nat) (w : World) (hG : G < 18446744073709551616) : Calls Tryz.prog 69 #[.int .u64 (G : Int)] w fun e w' => e = .returned (.int .i64 ((G % 2 : Nat) : Int)) ∧ w' = w := by
  go_enter Tryz.func69, Tryz.ntmps69
  go_wp2
  go_ret
  refine ⟨?_, rfl⟩
  go_num

theorem sectors_any (w : World) (gr gd gp gb k G : Nat) (s : Pw) (L : List Nat) (hr : w.heap[gr]? = some (rootObj gd G)) (h : Dsk w gd gp gb s L k) (hk : 4 ≤ k) :
    Calls Tryz.prog 97 #[.pointer (some ⟨gr, 0, none⟩)] w fun e w' => e = .returned (.int .i64 (sect k : Int)) ∧ w' = w := by
  have c0 := (root_cells hr).1
  have hk2 := h.ksmall
  have HL := Lib.hid (len_any w gd gp gb k s L h)
  clear hr h
  go_enter Tryz.func97, Tryz.ntmps97
  go_wp2_with fail
  refine HL.out.mono ?_
  rintro e w1 ⟨rfl, rfl⟩
  go_wp2
  go_ret
  refine ⟨?_, rfl⟩
  unfold sect
  go_num

theorem area_any (w : World) (gr gd gp gb k G i : Nat) (s : Pw) (L : List Nat) (hr : w.heap[gr]? = some (rootObj gd G)) (h : Dsk w gd gp gb s L k) (hk : 4 ≤ k) (hi : i < 2) :
    Calls Tryz.prog 72 #[.pointer (some ⟨gr, 0, none⟩), .int .i64 (i : Int)] w fun e w' => e = .returned (.int .i64 ((2 + i * sect k : Nat) : Int)) ∧ w' = w := by
  have HS := Lib.hid (sectors_any w gr gd gp gb k G s L hr h hk)
  have hs : sect k ≤ 32768 := by have := h.ksmall; unfold sect; omega
  obtain ⟨S, hS⟩ : ∃ S, S = sect k := ⟨_, rfl⟩
  rw [← hS] at HS hs ⊢
  have e1 : i = 0 ∨ i = 1 := by omega
  clear hr h hS
  rcases e1 with rfl | rfl
  all_goals
    go_enter Tryz.func72, Tryz.ntmps72
    go_wp2_with fail
    refine HS.out.mono ?_
    rintro e w1 ⟨rfl, rfl⟩
    go_wp2
    go_ret
    exact ⟨by simp, rfl⟩

theorem room_any (w : World) (gr gd gp gb k G : Nat) (s : Pw) (L : List Nat) (hr : w.heap[gr]? = some (rootObj gd G)) (h : Dsk w gd gp gb s L k) (hk : 4 ≤ k) :
    Calls Tryz.prog 70 #[.pointer (some ⟨gr, 0, none⟩)] w fun e w' => e = .returned (.int .i64 ((64 * sect k : Nat) : Int)) ∧ w' = w := by
  have HS := Lib.hid (sectors_any w gr gd gp gb k G s L hr h hk)
  have hs : sect k ≤ 32768 := by have := h.ksmall; unfold sect; omega
  obtain ⟨S, hS⟩ : ∃ S, S = sect k := ⟨_, rfl⟩
  rw [← hS] at HS hs ⊢
  clear hr h hS
  go_enter Tryz.func70, Tryz.ntmps70
  go_wp2_with fail
  refine HS.out.mono ?_
  rintro e w1 ⟨rfl, rfl⟩
  go_wp2
  go_ret
  refine ⟨?_, rfl⟩
  go_num

theorem room_nil (w : World) : Calls Tryz.prog 70 #[.pointer none] w fun e w' => e = .returned (.int .i64 0) ∧ w' = w := by
  go_enter Tryz.func70, Tryz.ntmps70
  go_wp2
  go_ret
  exact ⟨rfl, rfl⟩

theorem commit_nil (w : World) (a : Option Addr) (n c : Nat) : Calls Tryz.prog 56 #[.pointer none, .slice a n c] w fun e w' => e = .returned (.int .i64 1) ∧ w' = w := by
  go_enter Tryz.func56, Tryz.ntmps56
  go_wp2
  go_ret
  exact ⟨rfl, rfl⟩

end Go.Proofs.YtaijjogjohbheaaGreat

/- The contracts of the functions of package check, over any world: shift, feed, Of, appendSum, sumOf, Seal, Open. -/
namespace Go.Proofs.YtaijjogjohbheaaGreat
open Go.RowKit
set_option maxRecDepth 100000

theorem Below.drewN' {B : Nat} {a w : World} (h : Below B a w) (n : Nat) : Below B a (w.drewN n) := ⟨h.os, h.tape, h.output, h.size, h.block⟩

theorem step_u32 {x : Nat} (hx : x < 4294967296) : bits .xor .u32 ((x : Int) / 2) (bits .and .u32 3945912366 (-bits .and .u32 (x : Int) 1 % 4294967296)) = ((cStep x : Nat) : Int) := by
  have h1 : bits .and .u32 (x : Int) 1 = ((x % 2 : Nat) : Int) := by
    have := u32_and_nat x 1 hx (by omega)
    rw [Nat.and_one_is_mod] at this
    exact this
  have hd : (x : Int) / 2 = ((x / 2 : Nat) : Int) := by omega
  rw [h1, hd]
  have h2 : x % 2 = 0 ∨ x % 2 = 1 := by omega
  unfold cStep
  rcases h2 with h2 | h2
  · rw [h2, if_neg (by omega)]
    have h3 : bits .and .u32 3945912366 (-((0 : Nat) : Int) % 4294967296) = ((0 : Nat) : Int) := u32_and_nat 3945912366 0 (by omega) (by omega)
    rw [h3, u32_xor_nat _ _ (by omega) (by omega), Nat.xor_zero]
  · rw [h2, if_pos rfl]
    have h3 : bits .and .u32 3945912366 (-((1 : Nat) : Int) % 4294967296) = ((3945912366 : Nat) : Int) := u32_and_nat 3945912366 4294967295 (by omega) (by omega)
    rw [h3, u32_xor_nat _ _ (by omega) (by omega)]

theorem cSteps_next {j : Nat} (h : j < 8) (x : Nat) : cSteps (8 - j) x = cSteps (8 - (j + 1)) (cStep x) := by
  obtain ⟨k, hk⟩ : ∃ k, 8 - j = k + 1 := ⟨7 - j, by omega⟩
  have hk' : 8 - (j + 1) = k := by omega
  rw [hk, hk']; rfl

set_option maxHeartbeats 400000 in
set_option maxRecDepth 100000 in
theorem shift_any (n : Nat) (w : World) (hn : n < 4294967296) :
    Calls Tryz.prog 109 #[.int .u32 (n : Int)] w fun e w' => e = .returned (.int .u32 ((cSteps 8 n : Nat) : Int)) ∧ w' = w := by
  go_enter Tryz.func109, Tryz.ntmps109
  go_wp2
  go_loopg [0, 3] 8 (fun k d i wr => ∃ j x : Nat, k = 8 - j ∧ j ≤ 8 ∧ i = .int .i64 (j : Int) ∧ d = .int .u32 (x : Int) ∧ x < 4294967296 ∧ cSteps (8 - j) x = cSteps 8 n ∧ wr = w)
  case atStart => exact ⟨0, n, rfl, Nat.zero_le _, rfl, rfl, hn, rfl, rfl⟩
  case round =>
    obtain ⟨j, x, hk, hj, rfl, rfl, hx, hs, rfl⟩ := hrel
    have HK := Lib.hid hk
    have HS := Lib.hid hs
    clear hk hs
    by_cases hlt : j < 8
    · go_wp2
      go_roundg (8 - (j + 1))
      case measure => have := HK.out; omega
      case rel => exact ⟨j + 1, cStep x, rfl, by omega, by go_num, by rw [step_u32 hx], cStep_lt hx, by rw [← cSteps_next hlt]; exact HS.out, rfl⟩
    · have : j = 8 := by omega
      subst this
      go_wp2
      go_ret
      have := HS.out
      exact ⟨by rw [← this]; rfl, rfl⟩

theorem cState_byte (n : Nat) {c : Nat} (hc : c < 256) : cState n [c] = cSteps 8 (n ^^^ c) := by
  have : cState n [c] = cBits n (nBits 8 c) := by simp [cState, bitsOf]
  rw [this, cBits_nBits 8 n c (by omega)]

theorem cState_take {n j : Nat} {l : List Nat} (hb : ∀ x ∈ l, x < 256) (hj : j < l.length) : cState n (l.take (j + 1)) = cSteps 8 (cState n (l.take j) ^^^ l.getD j 0) := by
  rw [List.take_succ_eq_append_getElem hj, cState_append, cState_byte _ (hb _ (List.getElem_mem hj))]
  simp [List.getD, hj]

set_option maxHeartbeats 400000 in
set_option maxRecDepth 100000 in
theorem feed_any (n : Nat) (a : Option Addr) (m c : Nat) (l : List Nat) (w : World) (hn : n < 4294967296) (h : Rd w a m l) (hm : m ≤ 3000000) :
    Calls Tryz.prog 98 #[.int .u32 (n : Int), .slice a m c] w fun e w' => e = .returned (.int .u32 ((cState n l : Nat) : Int)) ∧ w' = w := by
  have HR := Lib.hid h
  clear h
  go_enter Tryz.func98, Tryz.ntmps98
  go_wp2
  go_loopg [0, 9] m (fun k d i wr => ∃ j x : Nat, k = m - j ∧ j ≤ m ∧ i = .int .i64 (j : Int) ∧ d = .int .u32 (x : Int) ∧ x < 4294967296 ∧ x = cState n (l.take j) ∧ wr = w)
  case atStart => exact ⟨0, n, rfl, Nat.zero_le _, rfl, rfl, hn, by simp [cState, bitsOf, cBits], rfl⟩
  case round =>
    obtain ⟨j, x, hk, hj, rfl, rfl, hx, hs, rfl⟩ := hrel
    have HK := Lib.hid hk
    have HS := Lib.hid hs
    clear hk hs
    by_cases hlt : j < m
    · obtain ⟨b, o, rfl, hc⟩ := HR.out.2.2 (by omega)
      have hcell := hc j hlt
      have hl := HR.out.1
      have hy : l.getD j 0 < 256 := HR.out.2.1 _ (by simp [List.getD, show j < l.length by omega])
      obtain ⟨y, hye⟩ : ∃ y, y = l.getD j 0 := ⟨_, rfl⟩
      rw [← hye] at hcell hy
      have HY := Lib.hid hye
      have HL := Lib.hid hl
      have hxor : bits .xor .u32 (x : Int) (y : Int) = ((x ^^^ y : Nat) : Int) := u32_xor_nat x y hx (by omega)
      have hlt2 : x ^^^ y < 4294967296 := Nat.xor_lt_two_pow (n := 32) hx (by omega)
      clear hye hl hc
      have HSH := Lib.hid (shift_any (x ^^^ y) wr hlt2)
      rw [← hxor] at HSH
      have HX := Lib.hid hxor
      have HLT := Lib.hid hlt2
      clear hxor hlt2
      go_wp2_with fail
      refine HSH.out.mono ?_
      rintro e w1 ⟨rfl, rfl⟩
      go_wp2
      go_roundg (m - (j + 1))
      case measure => have := HK.out; omega
      case rel => exact ⟨j + 1, cSteps 8 (x ^^^ y), rfl, by omega, by go_num, rfl, cSteps_lt 8 HLT.out, by rw [cState_take HR.out.2.1 (by have := HL.out; omega), ← HS.out, ← HY.out], rfl⟩
    · have : j = m := by omega
      subst this
      go_wp2
      go_ret
      have h1 := HS.out
      rw [List.take_of_length_le (by have := HR.out.1; omega)] at h1
      exact ⟨by rw [← h1]; rfl, rfl⟩


theorem xor_ones {x : Nat} (h : x < 4294967296) : 4294967295 ^^^ x = 4294967295 - x := by
  apply Nat.eq_of_testBit_eq
  intro i
  have e1 : 4294967295 - x = 2 ^ 32 - (x + 1) := by omega
  have e2 : (4294967295 : Nat) = 2 ^ 32 - 1 := rfl
  rw [Nat.testBit_xor, e1, Nat.testBit_two_pow_sub_succ (by omega), e2, Nat.testBit_two_pow_sub_one]
  by_cases hi : i < 32
  · simp [hi]
  · have : x.testBit i = false := Nat.testBit_lt_two_pow (Nat.lt_of_lt_of_le h (by
      have : (2 : Nat) ^ 32 ≤ 2 ^ i := Nat.pow_le_pow_right (by omega) (by omega)
      omega))
    simp [hi, this]

theorem not_u32 {x : Nat} (h : x < 4294967296) : bits .xor .u32 IntKind.u32.max (x : Int) = ((4294967295 - x : Nat) : Int) := by
  have := u32_xor_nat 4294967295 x (by omega) h
  rw [xor_ones h] at this
  exact this

theorem cState_rows {n j : Nat} {T : List (List Nat)} (hj : j < T.length) : cState n (T.take (j + 1)).flatten = cState (cState n (T.take j).flatten) (T.getD j []) := by
  rw [take_snocT hj, List.flatten_append, cState_append]; simp

set_option maxHeartbeats 400000 in
set_option maxRecDepth 100000 in
theorem chk_any (ua : Option Addr) (un uc : Nat) (T : List (List Nat)) (w : World) (h : RdT w ua un T) (hm : un ≤ 1000) (h5 : ∀ t ∈ T, t.length ≤ 3000000) :
    Calls Tryz.prog 73 #[.slice ua un uc] w fun e w' => e = .returned (.int .u32 ((cSum T.flatten : Nat) : Int)) ∧ w' = w := by
  have HT := Lib.hid h
  have H5 := Lib.hid h5
  clear h h5
  go_enter Tryz.func73, Tryz.ntmps73
  go_wp2
  go_loopg [3, 8] un (fun k d i wr => ∃ j x : Nat, k = un - j ∧ j ≤ un ∧ i = .int .i64 (j : Int) ∧ d = .int .u32 (x : Int) ∧ x < 4294967296 ∧ x = cState 4294967295 (T.take j).flatten ∧ wr = w)
  case atStart => exact ⟨0, 4294967295, rfl, Nat.zero_le _, rfl, rfl, by omega, by simp [cState, bitsOf, cBits], rfl⟩
  case round =>
    obtain ⟨j, x, hk, hj, rfl, rfl, hx, hs, rfl⟩ := hrel
    have HK := Lib.hid hk
    have HS := Lib.hid hs
    clear hk hs
    by_cases hlt : j < un
    · obtain ⟨tb, t0, aj, cj, rfl, hcell, hrj⟩ := HT.out.at_ (Below.refl _ _) hlt
      have hT := HT.out.1
      obtain ⟨t, hte⟩ : ∃ t, t = T.getD j [] := ⟨_, rfl⟩
      rw [← hte] at hcell hrj
      have ht5 : t.length ≤ 3000000 := by rw [hte]; exact H5.out _ (by simp [List.getD, show j < T.length by omega])
      have HF := Lib.hid (feed_any x aj t.length cj t wr hx hrj ht5)
      have HTE := Lib.hid hte
      have HTL := Lib.hid hT
      clear hte hT hrj ht5
      go_wp2_with fail
      refine HF.out.mono ?_
      rintro e w1 ⟨rfl, rfl⟩
      go_wp2
      go_roundg (un - (j + 1))
      case measure => have := HK.out; omega
      case rel => exact ⟨j + 1, cState x t, rfl, by omega, by go_num, rfl, cState_lt hx t, by rw [cState_rows (by have := HTL.out; omega), ← HS.out, ← HTE.out], rfl⟩
    · have : j = un := by omega
      subst this
      go_wp2
      go_ret
      have h1 := HS.out
      rw [List.take_of_length_le (by have := HT.out.1; omega)] at h1
      refine ⟨?_, rfl⟩
      unfold cSum
      rw [← h1]
      exact congrArg (fun z : Int => Ending.returned (.int .u32 z)) (not_u32 hx)

/-- A checksum's four bytes, and what four bytes come to. -/
def sumB (N : Nat) : List Nat := [N % 256, N / 256 % 256, N / 65536 % 256, N / 16777216]
def numB (l : List Nat) : Nat := l.getD 0 0 + l.getD 1 0 * 256 + l.getD 2 0 * 65536 + l.getD 3 0 * 16777216

theorem sumB_byte {N : Nat} (h : N < 4294967296) : ∀ x ∈ sumB N, x < 256 := by
  intro x hx
  simp only [sumB, List.mem_cons, List.not_mem_nil, or_false] at hx
  omega
theorem numB_sumB {N : Nat} : numB (sumB N) = N := by
  simp [numB, sumB, List.getD]; omega
theorem sumB_numB {l : List Nat} (h : l.length = 4) (hb : ∀ x ∈ l, x < 256) : sumB (numB l) = l := by
  match l, h with
  | [a, b, c, d], _ =>
    have h1 := hb a (by simp)
    have h2 := hb b (by simp)
    have h3 := hb c (by simp)
    have h4 := hb d (by simp)
    simp [numB, sumB, List.getD]; omega
theorem numB_lt {l : List Nat} (h : l.length = 4) (hb : ∀ x ∈ l, x < 256) : numB l < 4294967296 := by
  match l, h with
  | [a, b, c, d], _ =>
    have h1 := hb a (by simp)
    have h2 := hb b (by simp)
    have h3 := hb c (by simp)
    have h4 := hb d (by simp)
    simp [numB, List.getD]; omega

theorem rd_sumB (w : World) {N : Nat} (hN : N < 4294967296) : Rd (w.alloc (.cells #[.int .u8 ((N : Int) % 256), .int .u8 ((N : Int) / 256 % 256), .int .u8 ((N : Int) / 65536 % 256), .int .u8 ((N : Int) / 16777216)] 5)) (some ⟨w.heap.size, 0, none⟩) 4 (sumB N) :=
  rd_new w (sumB N) (sumB_byte hN)

theorem or_bytes {x0 x1 x2 x3 : Nat} (h0 : x0 < 256) (h1 : x1 < 256) (h2 : x2 < 256) (h3 : x3 < 256) :
    bits .or .u32 (bits .or .u32 (bits .or .u32 (x0 : Int) ((x1 : Int) * 256)) ((x2 : Int) * 65536)) ((x3 : Int) * 16777216) = ((numB [x0, x1, x2, x3] : Nat) : Int) := by
  have e1 : bits .or .u32 (x0 : Int) ((x1 : Int) * 256) = (x0 : Int) + (x1 : Int) * 256 := u32_or8 _ _ (by omega) (by omega) (by omega) (by omega) (by omega)
  have e2 : bits .or .u32 ((x0 : Int) + (x1 : Int) * 256) ((x2 : Int) * 65536) = (x0 : Int) + (x1 : Int) * 256 + (x2 : Int) * 65536 := u32_or16 _ _ (by omega) (by omega) (by omega) (by omega) (by omega)
  have e3 : bits .or .u32 ((x0 : Int) + (x1 : Int) * 256 + (x2 : Int) * 65536) ((x3 : Int) * 16777216) = (x0 : Int) + (x1 : Int) * 256 + (x2 : Int) * 65536 + (x3 : Int) * 16777216 := u32_or24 _ _ (by omega) (by omega) (by omega) (by omega) (by omega)
  rw [e1, e2, e3]
  simp [numB, List.getD]

theorem rdT_one {w : World} {a : Option Addr} {n c : Nat} {l : List Nat} (h : Rd w a n l) (ty : TypeId) : RdT (w.alloc (.cells #[.slice a n c] ty)) (some ⟨w.heap.size, 0, none⟩) 1 [l] := by
  refine ⟨rfl, fun _ => ⟨w.heap.size, 0, rfl, fun j hj => ?_⟩⟩
  obtain rfl : j = 0 := by omega
  refine ⟨a, c, ?_, ?_⟩
  · rw [World.cell?_alloc_new]
    simp [h.1]
  · have := h.later (Below.alloc0 w (.cells #[.slice a n c] ty))
    simp only [List.getD_cons_zero, h.1]
    exact this

theorem rdT_three {w : World} {a a1 a2 : Option Addr} {n c n1 c1 n2 c2 : Nat} {l l1 l2 : List Nat} (h : Rd w a n l) (h1 : Rd w a1 n1 l1) (h2 : Rd w a2 n2 l2) (ty : TypeId) :
    RdT (w.alloc (.cells #[.slice a n c, .slice a1 n1 c1, .slice a2 n2 c2] ty)) (some ⟨w.heap.size, 0, none⟩) 3 [l, l1, l2] := by
  refine ⟨rfl, fun _ => ⟨w.heap.size, 0, rfl, fun j hj => ?_⟩⟩
  have hb := Below.alloc0 w (.cells #[.slice a n c, .slice a1 n1 c1, .slice a2 n2 c2] ty)
  match j, hj with
  | 0, _ =>
    refine ⟨a, c, ?_, ?_⟩
    · rw [World.cell?_alloc_new]; simp [h.1]
    · simp only [List.getD_cons_zero, h.1]; exact h.later hb
  | 1, _ =>
    refine ⟨a1, c1, ?_, ?_⟩
    · rw [World.cell?_alloc_new]; simp [h1.1]
    · simp only [List.getD_cons_zero, List.getD_cons_succ, h1.1]; exact h1.later hb
  | 2, _ =>
    refine ⟨a2, c2, ?_, ?_⟩
    · rw [World.cell?_alloc_new]; simp [h2.1]
    · simp only [List.getD_cons_zero, List.getD_cons_succ, h2.1]; exact h2.later hb

/-- Of of one slice. -/
theorem of_one {w : World} {a : Option Addr} {n c : Nat} {l : List Nat} (h : Rd w a n l) (hn : n ≤ 3000000) (ty : TypeId) :
    Calls Tryz.prog 73 #[.slice (some ⟨w.heap.size, 0, none⟩) 1 1] (w.alloc (.cells #[.slice a n c] ty)) fun e w' => e = .returned (.int .u32 ((cSum l : Nat) : Int)) ∧ w' = w.alloc (.cells #[.slice a n c] ty) := by
  refine (chk_any _ 1 1 [l] _ (rdT_one h ty) (by omega) ?_).mono ?_
  · intro t ht
    simp only [List.mem_singleton] at ht
    subst ht
    rw [h.1]; exact hn
  · rintro e w' ⟨rfl, rfl⟩
    simp

/-- Are the bytes sealed ones? -/
def Sealed (l : List Nat) : Prop := 4 ≤ l.length ∧ cSum (l.take (l.length - 4)) = numB (l.drop (l.length - 4))

end Go.Proofs.YtaijjogjohbheaaGreat

/- The contract of root's rootSector. -/
namespace Go.Proofs.YtaijjogjohbheaaGreat
open Go.RowKit
set_option maxRecDepth 100000
set_option linter.unusedSimpArgs false

/-- Two numbers in a row of their own. -/
theorem rdU_two {w : World} {ty : TypeId} {x y : Nat} (hx : x ≤ 18446744073709551615) (hy : y ≤ 18446744073709551615) :
    RdU (w.alloc (.cells #[.int .u64 (x : Int), .int .u64 (y : Int)] ty)) (some ⟨w.heap.size, 0, none⟩) 2 [x, y] := by
  refine ⟨rfl, by simp; omega, fun _ => ⟨_, _, rfl, fun j hj => ?_⟩⟩
  rw [World.cell?_alloc_new]
  rcases (by omega : j = 0 ∨ j = 1) with rfl | rfl <;> rfl

set_option maxRecDepth 100000 in
theorem rootSector_any (G : Nat) (a : Option Addr) (n c : Nat) (b : List Nat) (w : World) (h : Rd w a n b) (hn : n ≤ 3000000) :
    Calls Tryz.prog 88 #[.int .u64 (G : Int), .slice a n c] w fun e w' => ∃ v, e = .returned v ∧ Own w' w.heap.size v (rSec G b) ∧ Below w.heap.size w w' := by
  have hl := h.1
  have HR := Lib.hid h
  obtain ⟨hh1, hh2⟩ := rHead_len G b (by omega)
  have hS := cSum_lt b
  obtain ⟨S, hSe⟩ : ∃ S, S = cSum b := ⟨_, rfl⟩
  rw [← hSe] at hS
  have HSE := Lib.hid hSe
  have HA := Lib.hid (appendGen_any (.slice none 0 0) w.heap.size G [] w (Own.nil w _) (Nat.le_refl _) (by simp))
  have HL := Lib.hid hl
  clear h hSe hl
  go_enter Tryz.func88, Tryz.ntmps88
  go_wp2_with fail
  refine HA.out.mono ?_
  rintro e w1 ⟨v1, rfl, ho1, hb1⟩
  rw [List.nil_append] at ho1
  obtain ⟨a1, c1, rfl, hr1, hc1⟩ := ho1.sl
  rw [g8_length] at hr1 hc1 ⊢
  have HR1 := Lib.hid hr1
  have HB1 := Lib.hid hb1
  clear ho1 hr1 hb1
  go_wp2_with fail
  refine (of_one (HR.out.later (HB1.out)) hn 40).mono ?_
  rintro e w2 ⟨rfl, rfl⟩
  rw [← HSE.out]
  go_wp2_with fail
  have hu : RdU ((w1.alloc (.cells #[.slice a n c] 40)).alloc (.cells #[.int .u64 (n : Int), .int .u64 (S : Int)] 104)) (some ⟨w1.heap.size + 1, 0, none⟩) 2 [n, S] := by
    have h := rdU_two (w := w1.alloc (.cells #[.slice a n c] 40)) (ty := 104) (x := n) (y := S) (by omega) (by omega)
    rw [show (w1.alloc (.cells #[.slice a n c] 40)).heap.size = w1.heap.size + 1 by simp] at h
    exact h
  have hb2 : Below w1.heap.size w1 ((w1.alloc (.cells #[.slice a n c] 40)).alloc (.cells #[.int .u64 (n : Int), .int .u64 (S : Int)] 104)) := (Below.alloc0 _ _).alloc (by simp) _
  refine (put_any _ _ _ _ _ _ _ _ _ (HR1.out.later hb2) hu (by omega) (by omega)).mono ?_
  rintro e w3 ⟨v3, rfl, ho3, hb3⟩
  have e3 : g8 8 G ++ [n, S].flatMap vEnc = rHead G b := by rw [rHead, HL.out, HSE.out]
  rw [e3] at ho3
  obtain ⟨g3, c3, rfl⟩ := ho3.held (by omega)
  have HO3 := Lib.hid (ho3.mono (base' := w.heap.size) (by have := HB1.out.size; simp; omega))
  have HB3 := Lib.hid ((HB1.out.trans (hb2.mono (HB1.out.size))).trans (hb3.mono (by have := HB1.out.size; simp; omega)))
  clear ho3 hb3 hu hb2
  obtain ⟨M, hM⟩ : ∃ M, M = (rHead G b).length := ⟨_, rfl⟩
  rw [← hM] at hh1 hh2 HO3 ⊢
  have HM := Lib.hid hM
  clear hM
  go_wp2_with (at_builtin; refine wpList_append_zeros rfl (.tmp 17) (.tmp 20) rfl g3 M c3 rfl (56 - M) (congrArg (Value.int .i64) (show (56 : Int) - (M : Int) = ((56 - M : Nat) : Int) by omega)) w.heap.size (rHead G b) HO3.out HM.out.symm HB3.out.size (by omega) ?next)
  case next =>
    intro v4 w4 ho4 hb4
    have HO4 := Lib.hid ho4
    have HB4 := Lib.hid (HB3.out.trans hb4)
    clear ho4 hb4
    go_wp2_with fail
    refine (appendGen_any v4 w.heap.size G _ w4 HO4.out HB4.out.size (by rw [List.length_append, List.length_replicate, ← HM.out]; omega)).mono ?_
    rintro e w5 ⟨v5, rfl, ho5, hb5⟩
    have HO5 := Lib.hid ho5
    have HB5 := Lib.hid hb5
    clear ho5 hb5
    go_wp2
    go_ret
    refine ⟨v5, rfl, ?_, HB4.out.trans HB5.out⟩
    have := HO5.out
    rw [HM.out] at this
    exact this

end Go.Proofs.YtaijjogjohbheaaGreat
