/- Texts that the walks of this seat lean on, put together. -/
import Derived.WalkKit
import Derived.Lib.Hide
import Derived.Test.YtcgaibkpdihncaaDoorTk
namespace Go.Proofs.YtcgaibkpdihncaaDoor
open Go.RowKit
set_option maxRecDepth 100000 in
theorem getD_lt (l : List Nat) (h : ∀ c ∈ l, c < 256) (i : Nat) : l.getD i 0 < 256 := by
  rw [List.getD_eq_getElem?_getD]
  cases hi : l[i]? with
  | none => simp
  | some c => simpa using h c (List.mem_of_getElem? hi)
set_option maxRecDepth 100000 in
theorem ret_int {k : IntKind} {a b : Int} (h : a = b) : Ending.returned (.int k a) = .returned (.int k b) := by rw [h]
end Go.Proofs.YtcgaibkpdihncaaDoor
