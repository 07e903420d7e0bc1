/- A call that leaves the world as it was, as one that only makes memory. Nothing of the program. -/
import Derived.Test.YtimnmdeiiahakaaBlk
import Derived.Test.YtimnmdeiiahakaaRow
namespace Go.Proofs.Ytimnmdeiiahakaa
open Go.RowKit

set_option maxRecDepth 100000 in
theorem same_below {P : Program} {f : Nat} {args : Array Value} {W : World} {x : Ending} (h : Calls P f args W fun e w' => e = x ∧ W = w') : Calls P f args W fun e w' => e = x ∧ Below W.heap.size W w' :=
  h.mono fun _ _ ⟨h1, h2⟩ => ⟨h1, h2 ▸ Below.refl _ _⟩
set_option maxRecDepth 100000 in
theorem rd_cell {w : World} {b off n : Nat} {v : Value} (h : w.cell? ⟨b, off + n, none⟩ = some v) : b < w.heap.size := by
  rcases Nat.lt_or_ge b w.heap.size with hlt | hge
  · exact hlt
  · simp [World.cell?, Array.getElem?_eq_none hge] at h
end Go.Proofs.Ytimnmdeiiahakaa
