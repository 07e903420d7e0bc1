/- Texts that the walks of this seat lean on, put together. -/
import Derived.BigFrame
import Derived.Test.YtnpibdjfafpegaaTk
import Derived.Test.YtnpibdjfafpegaaM13
import Derived.Test.YtnpibdjfafpegaaM20
import Derived.Test.YtnpibdjfafpegaaM21
import Derived.Test.YtnpibdjfafpegaaM24
import Derived.Test.YtnpibdjfafpegaaM25
