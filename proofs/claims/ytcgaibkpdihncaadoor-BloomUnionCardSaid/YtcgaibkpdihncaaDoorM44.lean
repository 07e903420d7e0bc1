/- Texts that the walks of this seat lean on, put together. -/
import Derived.StillTailTactics
import Derived.Deep.CutBlock
import Derived.Deep.DeepCutAuto
import Derived.LoopTactic
import Derived.Handy
import Derived.Test.YtcgaibkpdihncaaDoorTk
import Derived.Test.YtcgaibkpdihncaaDoorM27
import Derived.Test.YtcgaibkpdihncaaDoorM32
import Derived.Test.YtcgaibkpdihncaaDoorM43
namespace Go.Proofs.YtcgaibkpdihncaaDoor
open Go.RowKit Go.Lib
theorem btN_ne (c : Cf) (hok : okC c = true) (k : Fl) (hv : vK k = true) : btN c k ≠ [] := by
  have h := btN_len_yes (c := c) hv
  have := okC_hs hok
  intro e
  rw [e, List.length_nil] at h
  omega
end Go.Proofs.YtcgaibkpdihncaaDoor
