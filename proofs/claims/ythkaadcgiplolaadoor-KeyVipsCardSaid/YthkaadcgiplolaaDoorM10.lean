/- Texts that the walks of this seat lean on, put together. -/
import Derived.Test.YthkaadcgiplolaaDoorTk
import Derived.Test.YthkaadcgiplolaaDoorM09
