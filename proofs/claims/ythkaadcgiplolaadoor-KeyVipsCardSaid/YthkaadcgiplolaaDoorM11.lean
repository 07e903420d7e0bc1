/- Texts that the walks of this seat lean on, put together. -/
import Derived.BigFrame
import Derived.Test.YthkaadcgiplolaaDoorTk
import Derived.Test.YthkaadcgiplolaaDoorM06
