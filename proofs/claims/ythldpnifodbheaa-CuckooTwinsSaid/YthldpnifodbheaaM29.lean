/- Texts that the walks of this seat lean on, put together. -/
import Derived.Great.BuildSlice
import Derived.Laws.AppendOwnNone
import Derived.Deep.CutBlock
import Derived.Deep.DeepCutAuto
import Derived.LoopTactic
import Derived.Handy
import Derived.Test.YthldpnifodbheaaTk
import Derived.Test.YthldpnifodbheaaM26
import Derived.Test.YthldpnifodbheaaM28
