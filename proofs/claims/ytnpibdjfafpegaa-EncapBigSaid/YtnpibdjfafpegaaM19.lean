/- Texts that the walks of this seat lean on, put together. -/
import Derived.Deep.DeepCutAuto
import Derived.Test.YtnpibdjfafpegaaTk
import Derived.Test.YtnpibdjfafpegaaM04
import Derived.Test.YtnpibdjfafpegaaM10
import Derived.Test.YtnpibdjfafpegaaM11
import Derived.Test.YtnpibdjfafpegaaM12
namespace Go.Proofs.Ytnpibdjfafpegaa
open Go.RowKit
def rcells (s l p : Nat) (S D : Array Value) : Array Value := (Value.int .i64 (s : Int) :: .int .i64 (l : Int) :: .int .u8 (p : Int) :: (S.toList ++ D.toList)).toArray
theorem rcells_size (s l p : Nat) (S D : Array Value) (hS : S.size = 17) (hD : D.size = 17) : (rcells s l p S D).size = 37 := by simp [rcells, hS, hD]
theorem rcells_all (s l p : Nat) (S D : Array Value) (hS : S.all (·.oneCell') = true) (hD : D.all (·.oneCell') = true) : (rcells s l p S D).all (·.oneCell') = true := by
  rw [Array.all_eq_true_iff_forall_mem] at *
  intro x hx
  simp only [rcells, List.mem_toArray, List.mem_cons, List.mem_append, Array.mem_toList_iff] at hx
  rcases hx with rfl | rfl | rfl | h | h
  · rfl
  · rfl
  · rfl
  · exact hS x h
  · exact hD x h
theorem rcells_src (s l p : Nat) (S D : Array Value) : ((rcells s l p S D).toList.drop 3).take S.toList.length = S.toList := by simp [rcells]
theorem rcells_dst (s l p : Nat) (S D : Array Value) (hS : S.size = 17) : ((rcells s l p S D).toList.drop 20).take D.toList.length = D.toList := by
  have : S.toList.length = 17 := by simpa using hS
  show ((S.toList ++ D.toList).drop 17).take _ = _
  rw [← this, List.drop_left, List.take_length]
def r0 : Array Value := rcells 0 0 0 z17 z17
theorem r0_all : r0.all (·.oneCell') = true := rcells_all _ _ _ _ _ z17_all z17_all
def rd6 (zs : List Nat) : Array Value := if f6 zs = 0 then rcells 40 (40 + u2 zs 4) (zs.getD 6 0) (srcA zs) (dstA zs) else r0
theorem rd6_size (zs : List Nat) : (rd6 zs).size = 37 := by
  unfold rd6
  split
  · rename_i h
    have := ad_size zs (f6_yes zs h).1
    exact rcells_size _ _ _ _ _ this.1 this.2
  · rfl
theorem rd6_all (zs : List Nat) : (rd6 zs).all (·.oneCell') = true := by
  unfold rd6
  split
  · exact rcells_all _ _ _ _ _ (cellsA_all _ _) (cellsA_all _ _)
  · exact r0_all
end Go.Proofs.Ytnpibdjfafpegaa
