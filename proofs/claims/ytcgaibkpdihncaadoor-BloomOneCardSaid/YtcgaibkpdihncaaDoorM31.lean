/- Texts that the walks of this seat lean on, put together. -/
import Derived.Test.YtcgaibkpdihncaaDoorTk
import Derived.Test.YtcgaibkpdihncaaDoorM21
import Derived.Test.YtcgaibkpdihncaaDoorM23
