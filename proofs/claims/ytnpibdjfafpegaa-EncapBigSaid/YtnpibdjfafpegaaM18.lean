/- Texts that the walks of this seat lean on, put together. -/
import Derived.Deep.DeepCutAuto
import Derived.Test.YtnpibdjfafpegaaTk
import Derived.Test.YtnpibdjfafpegaaM04
import Derived.Test.YtnpibdjfafpegaaM11
import Derived.Test.YtnpibdjfafpegaaM15
import Derived.Test.YtnpibdjfafpegaaM17
namespace Go.Proofs.Ytnpibdjfafpegaa
open Go.RowKit
theorem hcells_get (s l p : Nat) (S D : Array Value) : (hcells s l p S D)[0]? = some (.int .i64 (s : Int)) ∧ (hcells s l p S D)[1]? = some (.int .i64 (l : Int)) ∧ (hcells s l p S D)[2]? = some (.int .u8 (p : Int)) := ⟨rfl, rfl, rfl⟩
end Go.Proofs.Ytnpibdjfafpegaa
