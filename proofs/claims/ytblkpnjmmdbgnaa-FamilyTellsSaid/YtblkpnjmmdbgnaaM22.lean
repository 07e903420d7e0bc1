/- Texts that the walks of this seat lean on, put together. -/
import Derived.Laws.BytesArg
import Derived.Test.YtblkpnjmmdbgnaaTk
import Derived.Test.YtblkpnjmmdbgnaaM08
