/- Texts that the walks of this seat lean on, put together. -/
import Derived.Test.YtcgaibkpdihncaaDoorTk
import Derived.Test.YtcgaibkpdihncaaDoorM20
import Derived.Test.YtcgaibkpdihncaaDoorM22
