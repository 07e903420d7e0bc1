/- A region's walk with a stronger class of worlds behind a call. Nothing of the program. -/
import Derived.Deep.RegionHeld
import Derived.Below
namespace Go.Proofs.Ythgcgkfcofomcaa
open Go.RowKit

/-- The class of worlds may be made smaller on the way. -/
theorem wpAnyH_mono {P : Program} {ops : Array Oper} {Q : Exit → Act → World → Prop} {md : Region.Mode} {S S' : World → Prop} (hS : ∀ w, S' w → S w) :
    ∀ (fuel : Nat) (listed : Array Bool) (a : Act) (w : World), wpAnyH P md ops Q S' fuel listed a w → wpAnyH P md ops Q S fuel listed a w
  | 0, _, _, _, h => h
  | _ + 1, _, _, _, h => ⟨h.1, fun i hi => wpOp_mono (fun _ _ h' => ⟨hS _ h'.1, wpAnyH_mono hS _ _ _ _ h'.2⟩) (h.2 i hi)⟩
end Go.Proofs.Ythgcgkfcofomcaa
