/- Texts that the walks of this seat lean on, put together. -/
import Derived.Test.YthkaadcgiplolaaDoorTk
import Derived.Test.YthkaadcgiplolaaDoorM01
import Derived.Test.YthkaadcgiplolaaDoorM03
namespace Go.Proofs.YthkaadcgiplolaaDoor
open Go.RowKit
def cellsA (v : Bool) (bs : List Nat) : Array Value := (Value.bool v :: bs.map fun n : Nat => Value.int .u8 (n : Int)).toArray
def adr (v : Bool) (bs : List Nat) : Value := .agg (cellsA v bs)
theorem cellsA_size (v : Bool) (bs : List Nat) : (cellsA v bs).size = bs.length + 1 := by simp [cellsA]
theorem cellsA_all (v : Bool) (bs : List Nat) : (cellsA v bs).all (·.oneCell') = true :=
  Array.all_eq_true_iff_forall_mem.2 (by
    intro x hx
    simp [cellsA] at hx
    rcases hx with rfl | ⟨n, _, rfl⟩ <;> rfl)
theorem cellsA_get (v : Bool) (bs : List Nat) (i : Nat) (h : i < bs.length) : (cellsA v bs)[1 + i]? = some (.int .u8 ((bs.getD i 0 : Nat) : Int)) := by
  simp [cellsA, Nat.add_comm 1 i, h]
theorem cellsA_set (v : Bool) (bs : List Nat) (i n : Nat) : (cellsA v bs).setIfInBounds (1 + i) (.int .u8 (n : Int)) = cellsA v (bs.set i n) := by
  simp [cellsA, Nat.add_comm 1 i, List.map_set]
theorem set_zeros (ns : List Nat) (m n : Nat) (h : 0 < m) : (ns ++ List.replicate m 0).set ns.length n = (ns ++ [n]) ++ List.replicate (m - 1) 0 := by
  obtain ⟨q, rfl⟩ : ∃ q, m = q + 1 := ⟨m - 1, by omega⟩
  rw [List.set_append_right _ _ (Nat.le_refl _), Nat.sub_self]
  simp [List.replicate_succ]
theorem i24 : (Tryd.prog.info? 24).map (·.size) = some 17 := by kernel_rfl
end Go.Proofs.YthkaadcgiplolaaDoor
