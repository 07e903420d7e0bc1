/- Texts that the walks of this seat lean on, put together. -/
import Derived.Deep.CutBlock
import Derived.Deep.DeepCutAuto
import Derived.LoopTactic
import Derived.Handy
import Derived.Test.YthldpnifodbheaaTk
import Derived.Test.YthldpnifodbheaaTl
import Derived.Test.YthldpnifodbheaaM40
import Derived.Test.YthldpnifodbheaaM41
