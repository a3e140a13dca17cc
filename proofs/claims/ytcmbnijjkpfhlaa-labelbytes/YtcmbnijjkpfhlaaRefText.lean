/- A text's bytes: the document's own Text, over any world. -/
import Derived.Test.YtcmbnijjkpfhlaaRefNum
import Derived.Test.YtcmbnijjkpfhlaaVBytes
namespace Go.Proofs.Ytcmbnijjkpfhlaa
open Go.RowKit
set_option linter.unusedSimpArgs false

set_option maxHeartbeats 1000000 in
theorem rrText_any (a : Option Addr) (n c : Nat) (l : List Nat) (w : World) (h : Rd w a n l) (hn : n ≤ 1000000) :
    Calls Try.prog 34 #[.slice a n c] w fun e w' => ∃ v, e = .returned v ∧ Own w' w.heap.size v (tEnc l) ∧ Below w.heap.size w w' := by
  have HR := Lib.hid h
  have HN := Lib.hid (refNum_any n (n : Int) w rfl (by omega))
  have h10 : (vEnc n).length ≤ 10 := vEnc_len10 (by omega)
  have H10 := Lib.hid h10
  clear h h10
  go_enter Try.func34, Try.ntmps34
  go_wp2_with fail
  refine HN.out.mono ?_
  rintro e w2 ⟨g, m, c', rfl, hm, ho, hb⟩
  have HO := Lib.hid ho
  have HB := Lib.hid hb
  have HM := Lib.hid hm
  clear ho hb hm
  go_wp2_with (at_builtin; refine wpList_append_rd rfl (.tmp 6) (.tmp 7) rfl _ rfl a n c rfl w.heap.size _ HO.out HB.out.size l (HR.out.later HB.out) (by have := H10.out; omega) ?_; intro v' w' ho2 hb2)
  have HO2 := Lib.hid ho2
  have HB2 := Lib.hid (HB.out.trans hb2)
  clear ho2 hb2
  go_wp2
  go_ret
  refine ⟨_, rfl, ?_, HB2.out⟩
  have := HO2.out
  unfold tEnc
  rw [HR.out.1]
  exact this

end Go.Proofs.Ytcmbnijjkpfhlaa
