/- Texts that the walks of this seat lean on, put together. -/
import Derived.WalkKit
import Derived.Handy
import Derived.Test.YtblkpnjmmdbgnaaTk
import Derived.Test.YtblkpnjmmdbgnaaM13
import Derived.Test.YtblkpnjmmdbgnaaM23
namespace Go.Proofs.Ytblkpnjmmdbgnaa
open Go.RowKit
def kdN (v : Bool) : Nat := if v then 6 else 4
set_option maxRecDepth 100000 in
theorem cellsA_at0 (v : Bool) (bs : List Nat) : (cellsA v bs)[0]? = some (.bool v) := by simp [cellsA]
set_option maxRecDepth 100000 in
theorem kindOf_any (v : Bool) (D : List Nat) (w : World) : Calls Try.prog 52 #[adr v D] w fun e w' => e = .returned (.int .u8 (kdN v : Nat)) ∧ Below w.heap.size w w' := by
  unfold adr
  have hc := ((Blk.new w 24 (cellsA v D)).cell 0).trans (cellsA_at0 v D)
  generalize cellsA v D = c at *
  cases v <;> go_enter Try.func52, Try.ntmps52 <;> go_wp2 <;> go_ret <;> exact ⟨rfl, (Below.refl _ w).alloc (Nat.le_refl _) _⟩
end Go.Proofs.Ytblkpnjmmdbgnaa
