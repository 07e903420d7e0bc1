/- Texts that the walks of this seat lean on, put together. -/
import Derived.WalkKit
import Derived.Handy
import Derived.Test.YtcgaibkpdihncaaDoorTk
import Derived.Test.YtcgaibkpdihncaaDoorM11
import Derived.Test.YtcgaibkpdihncaaDoorM13
namespace Go.Proofs.YtcgaibkpdihncaaDoor
open Go.RowKit
def kdN (v : Bool) : Nat := if v then 6 else 4
set_option maxRecDepth 100000 in
theorem cellsA_at0 (v : Bool) (bs : List Nat) : (cellsA v bs)[0]? = some (.bool v) := by simp [cellsA]
set_option maxRecDepth 100000 in
theorem kindOf_any (v : Bool) (D : List Nat) (w : World) : Calls Tryd.prog 56 #[adr v D] w fun e w' => e = .returned (.int .u8 (kdN v : Nat)) ∧ Below w.heap.size w w' := by
  unfold adr
  have hc := ((Blk.new w 26 (cellsA v D)).cell 0).trans (cellsA_at0 v D)
  generalize cellsA v D = c at *
  cases v <;> go_enter Tryd.func56, Tryd.ntmps56 <;> go_wp2 <;> go_ret <;> exact ⟨rfl, (Below.refl _ w).alloc (Nat.le_refl _) _⟩
end Go.Proofs.YtcgaibkpdihncaaDoor
