/- Texts that the walks of this seat lean on, put together. -/
import Derived.StillTailTactics
import Derived.Deep.CutBlock
import Derived.Deep.DeepCutAuto
import Derived.LoopTactic
import Derived.Handy
import Derived.Test.YtblkpnjmmdbgnaaTk
import Derived.Test.YtblkpnjmmdbgnaaM18
import Derived.Test.YtblkpnjmmdbgnaaM20
import Derived.Test.YtblkpnjmmdbgnaaM32
import Derived.Test.YtblkpnjmmdbgnaaM37
