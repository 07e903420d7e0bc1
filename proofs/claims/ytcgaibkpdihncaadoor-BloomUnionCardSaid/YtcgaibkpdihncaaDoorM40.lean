/- Texts that the walks of this seat lean on, put together. -/
import Derived.Test.YtcgaibkpdihncaaDoorTk
import Derived.Test.YtcgaibkpdihncaaDoorM25
import Derived.Test.YtcgaibkpdihncaaDoorM34
namespace Go.Proofs.YtcgaibkpdihncaaDoor
open Go.RowKit
def rft (cs : Array Value) (N : Nat) (v : Value) : Array Value := cs ++ (#[.int .i64 (N : Int), v] : Array Value)
end Go.Proofs.YtcgaibkpdihncaaDoor
