/- Texts that the walks of this seat lean on, put together. -/
import Derived.Laws.Rows
import Derived.Handy
import Derived.Test.YtblkpnjmmdbgnaaTk
import Derived.Test.YtblkpnjmmdbgnaaM04
import Derived.Test.YtblkpnjmmdbgnaaM13
