/- A block, as the document has it (Plain of the statements): over any world. -/
import Derived.Test.YtkfnjekeegebaaaSgMem
import Derived.Test.YtkfnjekeegebaaaSgMath
import Derived.Deep.DeepCutAuto
import Derived.Deep.CutBlock
namespace Go.Proofs.Ytkfnjekeegebaaa
open Go.RowKit
set_option linter.unusedSimpArgs false

/-- Bytes of a Data as a string. -/
theorem conv_data {w : World} {a : Option Addr} {n : Nat} {l : List Nat} (h : Rd w a n l) (c : Nat) : (convert 32 9 (.slice a n c)).run Try.prog w = .ok (.string (strB l)) w := by
  rcases Nat.eq_zero_or_pos n with h0 | h0
  · have hl : l = [] := List.eq_nil_of_length_eq_zero (by rw [h.1]; exact h0)
    subst hl
    subst h0
    cases a with
    | none => exact run_convert_bytes_nil w 32 5 Try.underlying32 Try.underlying5 0 c 9 Try.underlying9
    | some ad =>
      obtain ⟨b, o, e⟩ := ad
      rw [run_convert_bytes_string w 32 9 5 _ 0 c Try.underlying32 Try.underlying5 Try.underlying9, run_bytesToString w _ 0 c [] (by simp [loadCells, loadCellsFrom])]
      rfl
  · obtain ⟨b, o, rfl, hc⟩ := h.2.2 h0
    exact run_convert_bytes_arg w 32 5 Try.underlying32 Try.underlying5 b o n c (l.map fun x : Nat => (x : Int)) (by simpa using h.1) (fun i hi => by
      rw [hc i hi]
      have : i < l.length := by rw [h.1]; exact hi
      simp [List.getD, this]) 9 Try.underlying9

set_option maxHeartbeats 1000000 in
set_option maxRecDepth 100000 in
theorem sgOf_any (v : Value) (x : Option Sg) (w : World) (h : SgV w v x) :
    Calls Try.prog 10 #[v] w fun e w' => e = .returned (docV x) ∧ Below w.heap.size w w' := by
  have hs0 : strB [] = ⟨#[]⟩ := rfl
  rcases x with _ | ⟨a, b, c, d, e⟩ | ⟨a, b, c, d, z⟩ | ⟨l⟩
  · subst h
    obtain ⟨R, hR⟩ : ∃ R, R = docV none := ⟨_, rfl⟩
    rw [← hR]
    have HR : Hid (R = .agg #[.int .u8 0, .int .i64 0, .int .i64 0, .int .i64 0, .int .i64 0, .int .i64 0, .string ⟨#[]⟩]) := Lib.hid hR
    clear hR hs0
    have t1 : ∀ w : World, (Instr.typeAssert (.nilIface) 35 23 true).run Try.prog w = .ok (.tuple #[.agg #[.int .i64 0, .int .i64 0, .int .i64 0, .int .i64 0, .int .i64 0], .bool false]) w := fun _ => by kernel_rfl
    have t2 : ∀ w : World, (Instr.typeAssert (.nilIface) 35 25 true).run Try.prog w = .ok (.tuple #[.agg #[.int .i64 0, .int .i64 0, .int .i64 0, .int .i64 0, .bool false], .bool false]) w := fun _ => by kernel_rfl
    have t3 : ∀ w : World, (Instr.typeAssert (.nilIface) 35 32 true).run Try.prog w = .ok (.tuple #[.slice none 0 0, .bool false]) w := fun _ => by kernel_rfl
    go_enter Try.func10, Try.ntmps10
    go_wp2
    refine bodyPost_ret (v := .agg #[.int .u8 0, .int .i64 0, .int .i64 0, .int .i64 0, .int .i64 0, .int .i64 0, .string ⟨#[]⟩]) (by simp [results, Try.results10, go_sem]; try rfl) rfl ?_
    exact ⟨by rw [HR.out], Below.alloc0 _ _⟩
  · subst h
    obtain ⟨R, hR⟩ : ∃ R, R = docV (some (.head a b c d e)) := ⟨_, rfl⟩
    rw [← hR]
    have HR : Hid (R = .agg #[.int .u8 72, .int .i64 a, .int .i64 b, .int .i64 c, .int .i64 d, .int .i64 e, .string ⟨#[]⟩]) := Lib.hid (by rw [hR, ← hs0]; rfl)
    clear hR hs0
    have t1 : ∀ w : World, (Instr.typeAssert (.iface 23 (.agg #[.int .i64 a, .int .i64 b, .int .i64 c, .int .i64 d, .int .i64 e])) 35 23 true).run Try.prog w = .ok (.tuple #[.agg #[.int .i64 a, .int .i64 b, .int .i64 c, .int .i64 d, .int .i64 e], .bool true]) w := fun _ => by kernel_rfl
    go_enter Try.func10, Try.ntmps10
    go_wp2
    refine bodyPost_ret (v := .agg #[.int .u8 72, .int .i64 a, .int .i64 b, .int .i64 c, .int .i64 d, .int .i64 e, .string ⟨#[]⟩]) (by simp [results, Try.results10, go_sem]; try rfl) rfl ?_
    exact ⟨by rw [HR.out], (Below.alloc0 w _).alloc (by simp) _⟩
  · subst h
    cases z with
    | false =>
      obtain ⟨R, hR⟩ : ∃ R, R = docV (some (.tail a b c d false)) := ⟨_, rfl⟩
      rw [← hR]
      have HR : Hid (R = .agg #[.int .u8 84, .int .i64 a, .int .i64 b, .int .i64 c, .int .i64 d, .int .i64 0, .string ⟨#[]⟩]) := Lib.hid (by rw [hR, ← hs0]; rfl)
      clear hR hs0
      have t1 : ∀ w : World, (Instr.typeAssert (.iface 25 (.agg #[.int .i64 a, .int .i64 b, .int .i64 c, .int .i64 d, .bool false])) 35 23 true).run Try.prog w = .ok (.tuple #[.agg #[.int .i64 0, .int .i64 0, .int .i64 0, .int .i64 0, .int .i64 0], .bool false]) w := fun _ => by kernel_rfl
      have t2 : ∀ w : World, (Instr.typeAssert (.iface 25 (.agg #[.int .i64 a, .int .i64 b, .int .i64 c, .int .i64 d, .bool false])) 35 25 true).run Try.prog w = .ok (.tuple #[.agg #[.int .i64 a, .int .i64 b, .int .i64 c, .int .i64 d, .bool false], .bool true]) w := fun _ => by kernel_rfl
      go_enter Try.func10, Try.ntmps10
      go_wp2
      refine bodyPost_ret (v := .agg #[.int .u8 84, .int .i64 a, .int .i64 b, .int .i64 c, .int .i64 d, .int .i64 0, .string ⟨#[]⟩]) (by simp [results, Try.results10, go_sem]; try rfl) rfl ?_
      exact ⟨by rw [HR.out], (Below.alloc0 w _).alloc (by simp) _⟩
    | true =>
      obtain ⟨R, hR⟩ : ∃ R, R = docV (some (.tail a b c d true)) := ⟨_, rfl⟩
      rw [← hR]
      have HR : Hid (R = .agg #[.int .u8 84, .int .i64 a, .int .i64 b, .int .i64 c, .int .i64 d, .int .i64 1, .string ⟨#[]⟩]) := Lib.hid (by rw [hR, ← hs0]; rfl)
      clear hR hs0
      have t1 : ∀ w : World, (Instr.typeAssert (.iface 25 (.agg #[.int .i64 a, .int .i64 b, .int .i64 c, .int .i64 d, .bool true])) 35 23 true).run Try.prog w = .ok (.tuple #[.agg #[.int .i64 0, .int .i64 0, .int .i64 0, .int .i64 0, .int .i64 0], .bool false]) w := fun _ => by kernel_rfl
      have t2 : ∀ w : World, (Instr.typeAssert (.iface 25 (.agg #[.int .i64 a, .int .i64 b, .int .i64 c, .int .i64 d, .bool true])) 35 25 true).run Try.prog w = .ok (.tuple #[.agg #[.int .i64 a, .int .i64 b, .int .i64 c, .int .i64 d, .bool true], .bool true]) w := fun _ => by kernel_rfl
      go_enter Try.func10, Try.ntmps10
      go_wp2
      refine bodyPost_ret (v := .agg #[.int .u8 84, .int .i64 a, .int .i64 b, .int .i64 c, .int .i64 d, .int .i64 1, .string ⟨#[]⟩]) (by simp [results, Try.results10, go_sem]; try rfl) rfl ?_
      exact ⟨by rw [HR.out], (Below.alloc0 w _).alloc (by simp) _⟩
  · obtain ⟨a, n, c, rfl, hr, _⟩ := h
    obtain ⟨s, hs⟩ : ∃ s, s = strB l := ⟨_, rfl⟩
    have hcv : ∀ W, Below w.heap.size w W → (convert 32 9 (.slice a n c)).run Try.prog W = .ok (.string s) W := fun W hW => by rw [hs]; exact conv_data (hr.later hW) c
    have hcv1 := hcv _ (Below.alloc0 w (.cells #[.int .u8 0, .int .i64 0, .int .i64 0, .int .i64 0, .int .i64 0, .int .i64 0, .string ⟨#[]⟩] 40))
    obtain ⟨R, hR⟩ : ∃ R, R = docV (some (.data l)) := ⟨_, rfl⟩
    rw [← hR]
    have HR : Hid (R = .agg #[.int .u8 68, .int .i64 0, .int .i64 0, .int .i64 0, .int .i64 0, .int .i64 0, .string s]) := Lib.hid (by rw [hR, hs]; rfl)
    clear hR hs0 hs hcv hr
    have t1 : ∀ w : World, (Instr.typeAssert (.iface 32 (.slice a n c)) 35 23 true).run Try.prog w = .ok (.tuple #[.agg #[.int .i64 0, .int .i64 0, .int .i64 0, .int .i64 0, .int .i64 0], .bool false]) w := fun _ => by kernel_rfl
    have t2 : ∀ w : World, (Instr.typeAssert (.iface 32 (.slice a n c)) 35 25 true).run Try.prog w = .ok (.tuple #[.agg #[.int .i64 0, .int .i64 0, .int .i64 0, .int .i64 0, .bool false], .bool false]) w := fun _ => by kernel_rfl
    have t3 : ∀ w : World, (Instr.typeAssert (.iface 32 (.slice a n c)) 35 32 true).run Try.prog w = .ok (.tuple #[.slice a n c, .bool true]) w := fun _ => by kernel_rfl
    go_enter Try.func10, Try.ntmps10
    go_wp2
    refine bodyPost_ret (v := .agg #[.int .u8 68, .int .i64 0, .int .i64 0, .int .i64 0, .int .i64 0, .int .i64 0, .string s]) (by simp [results, Try.results10, go_sem]; try rfl) rfl ?_
    exact ⟨by rw [HR.out], Below.alloc0 _ _⟩

end Go.Proofs.Ytkfnjekeegebaaa
