/- Texts that the walks of this seat lean on, put together. -/
import Derived.BigFrame
import Derived.Test.YthldpnifodbheaaTk
import Derived.Test.YthldpnifodbheaaM03
