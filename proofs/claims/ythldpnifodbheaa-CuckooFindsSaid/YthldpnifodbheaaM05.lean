/- Texts that the walks of this seat lean on, put together. -/
import Derived.Test.YthldpnifodbheaaTk
import Derived.Test.YthldpnifodbheaaTl
import Derived.Test.YthldpnifodbheaaM01
import Derived.Test.YthldpnifodbheaaM04
namespace Go.Proofs.Ythldpnifodbheaa
open Go.RowKit
def cellsA (v : Bool) (bs : List Nat) : Array Value := (Value.bool v :: bs.map fun n : Nat => Value.int .u8 (n : Int)).toArray
def adr (v : Bool) (bs : List Nat) : Value := .agg (cellsA v bs)
set_option maxRecDepth 100000 in
theorem cellsA_size (v : Bool) (bs : List Nat) : (cellsA v bs).size = bs.length + 1 := by simp [cellsA]
set_option maxRecDepth 100000 in
theorem cellsA_all (v : Bool) (bs : List Nat) : (cellsA v bs).all (·.oneCell') = true :=
  Array.all_eq_true_iff_forall_mem.2 (by
    intro x hx
    simp [cellsA] at hx
    rcases hx with rfl | ⟨n, _, rfl⟩ <;> rfl)
set_option maxRecDepth 100000 in
theorem cellsA_get (v : Bool) (bs : List Nat) (i : Nat) (h : i < bs.length) : (cellsA v bs)[1 + i]? = some (.int .u8 ((bs.getD i 0 : Nat) : Int)) := by
  simp [cellsA, Nat.add_comm 1 i, h]
set_option maxRecDepth 100000 in
theorem i24 : (Try.prog.info? 26).map (·.size) = some 17 := by kernel_rfl
end Go.Proofs.Ythldpnifodbheaa
