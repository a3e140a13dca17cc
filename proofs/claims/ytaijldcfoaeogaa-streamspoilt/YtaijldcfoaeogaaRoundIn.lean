/- A region that draws its order and calls, inside a round of a loop over an iterator: as outside of it. -/
import Derived.Test.YtaijldcfoaeogaaGISetOfToIBlk
import Derived.Deep.RegionHeld3
namespace Go.Proofs.Ytaijldcfoaeogaa
open Go.RowKit

/-- Only the normal way out. -/
def QN (Q : Exit → Act → World → Prop) : Exit → Act → World → Prop
  | .normal, a, w => Q .normal a w
  | _, _, _ => False

theorem QN_out (Q : Exit → Act → World → Prop) : ¬ LetsOut (QN Q) := fun ⟨_, _, h⟩ => h

theorem operIn_of_wp {P : Program} {lr nn : Nat} {o : Oper} {a : Act} {w : World} {K K' : Act → World → Prop} {Q Q' : Exit → Act → World → Prop} (hd : ∀ c, o.op ≠ .defer c) (hK : ∀ a w, K a w → K' a w) (h : o.wp P a w K (QN Q)) : o.wpIn (Fence.wide.inRound lr) nn P a w K' Q' := by
  refine ⟨fun _ _ => trivial, ?_⟩
  rw [Fence.inRound_round, Oper.semAt_some _ _ _ hd]
  unfold Oper.wp at h
  generalize (execOp a.eval o).run P w = r at *
  cases r with
  | ok n w' =>
    cases n with
    | value v => exact hK _ _ h
    | skip => exact hK _ _ h
    | defer d => exact hK _ _ h
    | enter f args =>
      refine ⟨fun e => (by cases e), ?_⟩
      refine (CallsIn.inRound lr (callsIn_wide.2 h)).mono ?_
      rintro e w'' h2
      cases e with
      | returned v => exact hK _ _ h2
      | panicked ch => exact h2.elim
      | outgrown => exact (QN_out _ h2).elim
    | row row args =>
      refine ⟨fun e => (by cases e), fun c cs _ => ?_⟩
      obtain ⟨v, w2, r, st⟩ := h c cs
      exact ⟨v, w2, hK _ _ r, stepsIn_wide.2 st⟩
    | round l f tmps assign body => exact (show False from h).elim
    | _ => exact (show False from h).elim
  | halt x w' =>
    cases x with
    | panic v => exact (show False from h).elim
    | _ => exact (show False from h).elim

theorem wpAnyIn_of_held {P : Program} {ops : Array Oper} {md : Region.Mode} {lr nn : Nat} {S : World → Prop} {Q : Exit → Act → World → Prop} (hd : noDefer ops = true) :
    ∀ (fuel : Nat) (listed : Array Bool) (a : Act) (w : World), wpAnyH P md ops (QN Q) S fuel listed a w → wpAnyIn (Fence.wide.inRound lr) nn P md ops Q fuel listed a w
  | 0, _, _, _, h => h
  | fuel + 1, listed, a, w, h => ⟨h.1, fun i hi => by
      have h2 := h.2 i hi
      unfold wpOp at h2
      unfold wpOpIn
      split
      · rename_i ho
        simp only [ho] at h2
        exact wpAnyIn_of_held hd fuel _ _ _ h2.2
      · rename_i o ho
        simp only [ho] at h2
        split
        · rename_i hw
          simp only [hw, if_true] at h2
          rcases h2 with h2 | ⟨_, h2⟩
          · exact operIn_of_wp (noDefer_spec hd ho) (fun a' w' h3 => wpAnyIn_of_held hd fuel _ _ _ h3.2) h2
          · exact (QN_out _ h2).elim
        · rename_i hw
          simp only [hw] at h2
          exact ⟨fun _ _ => trivial, wpAnyIn_of_held hd fuel _ _ _ h2.2⟩⟩

theorem wpIn_region_held_drew {P : Program} {id lr nn : Nat} {ops : Array Oper} {S : World → Prop} {Q : Exit → Act → World → Prop} {a : Act} {w : World} (hm : P.follows .mixedOrders = true) (hd : noDefer ops = true)
    (h : wpAnyH P .any ops (QN Q) S ops.size (Array.replicate ops.size false) a w.drew) : (Code.region id ops true).wpIn (Fence.wide.inRound lr) nn P Q a w :=
  wpIn_region_any hm (wpAnyIn_of_held hd _ _ _ _ h)

end Go.Proofs.Ytaijldcfoaeogaa
