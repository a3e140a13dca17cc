/- A disk in memory: its block, its power, its bytes; Len, room, New. -/
import Derived.Test.YtpdpnlgiaehegaaMade
import Derived.Test.YtpdpnlgiaehegaaZeros
import Derived.Test.YtpdpnlgiaehegaaPow
import Derived.Test.YtpdpnlgiaehegaaClone
import Derived.Test.YtpdpnlgiaehegaaSave
namespace Go.Proofs.Ytpdpnlgiaehegaa
open Go.RowKit
set_option linter.unusedSimpArgs false

def dskObj (gp gb n : Nat) : Obj := .cells #[.pointer (some ⟨gp, 0, none⟩), .slice (some ⟨gb, 0, none⟩) n n] 48 (0, 0)

/-- Block gd is a disk of k sectors, with the power in block gp, in state s, and the bytes L in block gb. -/
structure Dsk (w : World) (gd gp gb : Nat) (s : Pw) (L : List Nat) (k : Nat) : Prop where
  obj : w.heap[gd]? = some (dskObj gp gb (64 * k))
  pow : Pow w gp s
  row : w.heap[gb]? = some (rowObj 5 L)
  len : L.length = 64 * k
  byte : ∀ x ∈ L, x < 256
  kpos : 0 < k
  ksmall : k ≤ 65536
  np : gd ≠ gp
  nb : gd ≠ gb
  pb : gp ≠ gb

theorem Dsk.cells {w : World} {gd gp gb k : Nat} {s : Pw} {L : List Nat} (h : Dsk w gd gp gb s L k) : w.cell? ⟨gd, 0, none⟩ = some (.pointer (some ⟨gp, 0, none⟩)) ∧ w.cell? ⟨gd, 1, none⟩ = some (.slice (some ⟨gb, 0, none⟩) (64 * k) (64 * k)) := by
  constructor <;> rw [cell_of_row w gd _ _ 48 (0, 0) h.obj] <;> rfl

theorem Dsk.kept {w w' : World} {gd gp gb k : Nat} {s : Pw} {L : List Nat} (h : Dsk w gd gp gb s L k) (hd : w'.heap[gd]? = w.heap[gd]?) (hp : w'.heap[gp]? = w.heap[gp]?) (hb : w'.heap[gb]? = w.heap[gb]?) : Dsk w' gd gp gb s L k :=
  ⟨hd.trans h.obj, hp.trans h.pow, hb.trans h.row, h.len, h.byte, h.kpos, h.ksmall, h.np, h.nb, h.pb⟩

theorem Dsk.lts {w : World} {gd gp gb k : Nat} {s : Pw} {L : List Nat} (h : Dsk w gd gp gb s L k) : gd < w.heap.size ∧ gp < w.heap.size ∧ gb < w.heap.size := ⟨lt_of_block h.obj, lt_of_block h.pow, lt_of_block h.row⟩

theorem Dsk.save {w w' : World} {gd gp gb k : Nat} {s : Pw} {L : List Nat} {X : List Nat} (h : Dsk w gd gp gb s L k) (hs : Save X w w') (hX : gd ∉ X ∧ gp ∉ X ∧ gb ∉ X) : Dsk w' gd gp gb s L k :=
  h.kept (hs.block _ h.lts.1 hX.1) (hs.block _ h.lts.2.1 hX.2.1) (hs.block _ h.lts.2.2 hX.2.2)

theorem Dsk.later {w w' : World} {gd gp gb k : Nat} {s : Pw} {L : List Nat} (h : Dsk w gd gp gb s L k) (hs : Below w.heap.size w w') : Dsk w' gd gp gb s L k := h.save (X := []) (Save.of_below hs _) (by simp)

theorem Dsk.setPow {w : World} {gd gp gb k : Nat} {s : Pw} {L : List Nat} (h : Dsk w gd gp gb s L k) (s' : Pw) : Dsk (put w gp (powObj s')) gd gp gb s' L k :=
  ⟨(put_other h.np).trans h.obj, put_same h.pow, (put_other (Ne.symm h.pb)).trans h.row, h.len, h.byte, h.kpos, h.ksmall, h.np, h.nb, h.pb⟩

theorem Dsk.setRow {w : World} {gd gp gb k : Nat} {s : Pw} {L : List Nat} (h : Dsk w gd gp gb s L k) {L' : List Nat} (hl : L'.length = 64 * k) (hb : ∀ x ∈ L', x < 256) : Dsk (put w gb (rowObj 5 L')) gd gp gb s L' k :=
  ⟨(put_other h.nb).trans h.obj, (put_other h.pb).trans h.pow, put_same h.row, hl, hb, h.kpos, h.ksmall, h.np, h.nb, h.pb⟩

theorem rd_rowObj {w : World} {g n : Nat} {T : TypeId} {L : List Nat} (hg : w.heap[g]? = some (rowObj T L)) (hl : L.length = n) (hb : ∀ x ∈ L, x < 256) : Rd w (some ⟨g, 0, none⟩) n L := by
  refine ⟨hl, hb, fun _ => ⟨g, 0, rfl, fun j hj => ?_⟩⟩
  rw [Nat.zero_add, cell_of_row w g j (cB L).toArray T (0, 0) hg]
  simp [cB, List.getD, show j < L.length by omega]

theorem Dsk.rd {w : World} {gd gp gb k : Nat} {s : Pw} {L : List Nat} (h : Dsk w gd gp gb s L k) : Rd w (some ⟨gb, 0, none⟩) (64 * k) L := rd_rowObj h.row h.len h.byte

theorem len_any (w : World) (gd gp gb k : Nat) (s : Pw) (L : List Nat) (h : Dsk w gd gp gb s L k) :
    Calls Try.prog 18 #[.pointer (some ⟨gd, 0, none⟩)] w fun e w' => e = .returned (.int .i64 (k : Int)) ∧ w' = w := by
  have h1 := h.cells.2
  have hk := h.ksmall
  clear h
  go_enter Try.func18, Try.ntmps18
  go_wp2
  go_ret
  refine ⟨?_, rfl⟩
  go_num

theorem room_no (w : World) (gd gp gb k : Nat) (s : Pw) (L : List Nat) (i : Int) (h : Dsk w gd gp gb s L k) (hi : i < 0 ∨ (k : Int) < i) :
    Calls Try.prog 28 #[.pointer (some ⟨gd, 0, none⟩), .int .i64 i] w fun e w' => e = .returned (.int .i64 (-1)) ∧ w' = w := by
  have HL := Lib.hid (len_any w gd gp gb k s L h)
  clear h
  rcases hi with hi | hi
  · go_enter Try.func28, Try.ntmps28
    go_wp2
    go_ret
    exact ⟨rfl, rfl⟩
  · have h0 : ¬ i < 0 := by omega
    go_enter Try.func28, Try.ntmps28
    go_wp2_with fail
    refine HL.out.mono ?_
    rintro e w1 ⟨rfl, rfl⟩
    go_wp2
    go_ret
    exact ⟨rfl, rfl⟩

theorem room_yes (w : World) (gd gp gb k : Nat) (s : Pw) (L : List Nat) (i : Nat) (h : Dsk w gd gp gb s L k) (hi : i ≤ k) :
    Calls Try.prog 28 #[.pointer (some ⟨gd, 0, none⟩), .int .i64 (i : Int)] w fun e w' => e = .returned (.int .i64 ((64 * (k - i) : Nat) : Int)) ∧ w' = w := by
  have HL := Lib.hid (len_any w gd gp gb k s L h)
  have hk := h.ksmall
  clear h
  go_enter Try.func28, Try.ntmps28
  go_wp2_with fail
  refine HL.out.mono ?_
  rintro e w1 ⟨rfl, rfl⟩
  go_wp2_with fail
  refine HL.out.mono ?_
  rintro e w1 ⟨rfl, rfl⟩
  go_wp2
  go_ret
  refine ⟨?_, rfl⟩
  go_num

theorem dnew_any (w : World) (n gp : Nat) (hn : 0 < n) (hn' : n ≤ 65536) :
    Calls Try.prog 7 #[.int .i64 (n : Int), .pointer (some ⟨gp, 0, none⟩)] w fun e w' => e = .returned (.tuple #[.pointer (some ⟨w.heap.size + 1, 0, none⟩), .int .i64 0]) ∧ w' = (w.alloc (rowObj 5 (List.replicate (64 * n) 0))).alloc (dskObj gp w.heap.size (64 * n)) := by
  have hm := run_mkN (64 * n) (by omega) w
  obtain ⟨N, hN⟩ : ∃ N : Nat, N = 64 * n := ⟨_, rfl⟩
  have hw : IntKind.i64.wrap ((n : Int) * 64) = (N : Int) := by rw [IntKind.wrap_i64] <;> omega
  rw [← hN] at hm ⊢
  obtain ⟨o, ho⟩ : ∃ o, o = rowObj 5 (List.replicate N 0) := ⟨_, rfl⟩
  rw [← ho] at hm ⊢
  clear ho hN
  go_enter Try.func7, Try.ntmps7
  go_wp2
  go_ret2
  exact ⟨by simp, rfl⟩

theorem dsk_new (w : World) (n gp : Nat) (s : Pw) (h : Pow w gp s) (hn : 0 < n) (hn' : n ≤ 65536) : Dsk ((w.alloc (rowObj 5 (List.replicate (64 * n) 0))).alloc (dskObj gp w.heap.size (64 * n))) (w.heap.size + 1) gp w.heap.size s (List.replicate (64 * n) 0) n := by
  have hlt := h.lt
  refine ⟨?_, ?_, ?_, by simp, byte_zeros _, hn, hn', by omega, by omega, by omega⟩
  · have := heap_alloc_new (w.alloc (rowObj 5 (List.replicate (64 * n) 0))) (dskObj gp w.heap.size (64 * n))
    simpa using this
  · have hb : Below w.heap.size w ((w.alloc (rowObj 5 (List.replicate (64 * n) 0))).alloc (dskObj gp w.heap.size (64 * n))) := (Below.alloc0 _ _).alloc (by simp) _
    exact h.below hb hlt
  · have hb : Below (w.heap.size + 1) (w.alloc (rowObj 5 (List.replicate (64 * n) 0))) ((w.alloc (rowObj 5 (List.replicate (64 * n) 0))).alloc (dskObj gp w.heap.size (64 * n))) := by simpa using Below.alloc0 (w.alloc (rowObj 5 (List.replicate (64 * n) 0))) (dskObj gp w.heap.size (64 * n))
    exact (hb.block w.heap.size (by omega)).trans (heap_alloc_new w _)

end Go.Proofs.Ytpdpnlgiaehegaa
