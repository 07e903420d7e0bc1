/- Texts that the walks of this seat lean on, put together. -/
import Derived.Test.YthkaadcgiplolaaDoorTk
import Derived.Test.YthkaadcgiplolaaDoorM10
import Derived.Test.YthkaadcgiplolaaDoorM11
namespace Go.Proofs.YthkaadcgiplolaaDoor
open Go.RowKit
theorem kcells_src (p : Nat) (S D : Array Value) (sp dp : Nat) : ((kcells p S D sp dp).toList.drop 1).take S.toList.length = S.toList := by
  unfold kcells
  simp
theorem kcells_dst (p : Nat) (S D : Array Value) (sp dp : Nat) (hS : S.size = 17) : ((kcells p S D sp dp).toList.drop 18).take D.toList.length = D.toList := by
  have e : (kcells p S D sp dp).toList.drop 18 = D.toList ++ [Value.int .u16 (sp : Int), Value.int .u16 (dp : Int)] := by
    unfold kcells
    show (S.toList ++ (D.toList ++ [Value.int .u16 (sp : Int), Value.int .u16 (dp : Int)])).drop 17 = _
    have : S.toList.length = 17 := by simpa using hS
    rw [← this, List.drop_left]
  rw [e, List.take_left]
theorem cells17 (c : Array Value) (h : c.size = 17) : ∃ x0 x1 x2 x3 x4 x5 x6 x7 x8 x9 x10 x11 x12 x13 x14 x15 x16, c = #[x0, x1, x2, x3, x4, x5, x6, x7, x8, x9, x10, x11, x12, x13, x14, x15, x16] := by
  obtain ⟨l⟩ := c
  match l, h with
  | [x0, x1, x2, x3, x4, x5, x6, x7, x8, x9, x10, x11, x12, x13, x14, x15, x16], _ => exact ⟨x0, x1, x2, x3, x4, x5, x6, x7, x8, x9, x10, x11, x12, x13, x14, x15, x16, rfl⟩
end Go.Proofs.YthkaadcgiplolaaDoor
