/- Texts that the walks of this seat lean on, put together. -/
import Derived.DeepKeys
import Derived.Test.YtblkpnjmmdbgnaaTk
import Derived.Test.YtblkpnjmmdbgnaaM01
namespace Go.Proofs.Ytblkpnjmmdbgnaa
open Go.RowKit
set_option maxRecDepth 100000 in
theorem wf_byte : ∀ n : Fin 256, (Lit.int .u8 (n.1 : Int)).wf = true := by decide +kernel
set_option maxRecDepth 100000 in
theorem key5 (d n : Nat) (h : n < 256) : Try.prog.keyLits (d + 1) 5 [.int .u8 (n : Int)] = some [.int .u8 (n : Int)] := by
  unfold Program.keyLits
  rw [Try.underlying5]
  simp [wf_byte ⟨n, h⟩]
end Go.Proofs.Ytblkpnjmmdbgnaa
