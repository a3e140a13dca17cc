/- In the midst of a region that draws its order, the condition that is held may be replaced by a stronger one: what was learnt behind a call. -/
import Derived.Deep.RegionHeld3
namespace Go.Proofs.Ytkfnjekeegebaaa

theorem wpAnyH_strong {P : Program} {md : Region.Mode} {ops : Array Oper} {Q : Exit → Act → World → Prop} {S0 S1 : World → Prop} (h : ∀ w, S1 w → S0 w) :
    ∀ {fuel : Nat} {listed : Array Bool} {a : Act} {w : World}, wpAnyH P md ops Q S1 fuel listed a w → wpAnyH P md ops Q S0 fuel listed a w
  | 0, _, _, _, k => k
  | _ + 1, _, _, _, k => ⟨k.1, fun i hi => wpOp_mono (fun _ w' kk => ⟨h w' kk.1, wpAnyH_strong h kk.2⟩) (k.2 i hi)⟩
end Go.Proofs.Ytkfnjekeegebaaa
