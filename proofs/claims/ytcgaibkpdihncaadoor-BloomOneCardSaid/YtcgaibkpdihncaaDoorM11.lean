/- Texts that the walks of this seat lean on, put together. -/
import Derived.Test.YtcgaibkpdihncaaDoorTk
import Derived.Test.YtcgaibkpdihncaaDoorM09
import Derived.Test.YtcgaibkpdihncaaDoorM10
namespace Go.Proofs.YtcgaibkpdihncaaDoor
open Go.RowKit
set_option maxRecDepth 100000 in
theorem kcells_src (p : Nat) (S D : Array Value) (sp dp : Nat) : ((kcells p S D sp dp).toList.drop 1).take S.toList.length = S.toList := by
  unfold kcells
  simp
set_option maxRecDepth 100000 in
theorem kcells_dst (p : Nat) (S D : Array Value) (sp dp : Nat) (hS : S.size = 17) : ((kcells p S D sp dp).toList.drop 18).take D.toList.length = D.toList := by
  have e : (kcells p S D sp dp).toList.drop 18 = D.toList ++ [Value.int .u16 (sp : Int), Value.int .u16 (dp : Int)] := by
    unfold kcells
    show (S.toList ++ (D.toList ++ [Value.int .u16 (sp : Int), Value.int .u16 (dp : Int)])).drop 17 = _
    have : S.toList.length = 17 := by simpa using hS
    rw [← this, List.drop_left]
  rw [e, List.take_left]
end Go.Proofs.YtcgaibkpdihncaaDoor
