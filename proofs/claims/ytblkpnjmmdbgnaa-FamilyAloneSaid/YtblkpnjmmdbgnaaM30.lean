/- Texts that the walks of this seat lean on, put together. -/
import Derived.StillTailTactics
import Derived.Deep.CutBlock
import Derived.Deep.DeepCutAuto
import Derived.LoopTactic
import Derived.Handy
import Derived.Test.YtblkpnjmmdbgnaaTk
import Derived.Test.YtblkpnjmmdbgnaaM15
import Derived.Test.YtblkpnjmmdbgnaaM17
import Derived.Test.YtblkpnjmmdbgnaaM26
import Derived.Test.YtblkpnjmmdbgnaaM29
