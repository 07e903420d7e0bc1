/- Texts that the walks of this seat lean on, put together. -/
import Derived.Lib.QuietBelow
import Derived.Test.YtnpibdjfafpegaaTk
import Derived.Test.YtnpibdjfafpegaaM04
import Derived.Test.YtnpibdjfafpegaaM08
import Derived.Test.YtnpibdjfafpegaaM10
namespace Go.Proofs.Ytnpibdjfafpegaa
open Go.RowKit
def hs (zs : List Nat) : Nat := 4 * (zs.getD 0 0 % 16)
theorem hs_lt (zs : List Nat) : hs zs ≤ 60 := by unfold hs; omega
theorem low4 (x : Nat) (h : x < 256) : bits .and .u8 (x : Int) 15 = ((x % 16 : Nat) : Int) := by
  have : ∀ x : Fin 256, bits .and .u8 ((x.1 : Nat) : Int) 15 = ((x.1 % 16 : Nat) : Int) := by decide +kernel
  exact this ⟨x, h⟩
def ff (zs : List Nat) : Nat :=
  if zs.length < 20 then 1
  else if zs.getD 0 0 / 16 ≠ 4 ∨ hs zs < 20 ∨ u2 zs 2 < hs zs then 3
  else if zs.length < u2 zs 2 then 1
  else if ck (zs.take (hs zs)) ≠ 0 then 4
  else if u2 zs 6 % 16384 ≠ 0 then 5
  else if zs.getD 9 0 ≠ 6 ∧ zs.getD 9 0 ≠ 17 then 6 else 0
theorem ff_lt (zs : List Nat) : ff zs < 7 := by unfold ff; repeat' split
                                                all_goals omega
theorem low14 (x : Nat) (_h : x < 65536) : bits .and .u16 (x : Int) 16383 = ((x % 16384 : Nat) : Int) := by
  have e : (BitVec.ofInt 16 16383).toNat = 2 ^ 14 - 1 := by decide
  have key : (BitVec.ofInt 16 (x : Int) &&& BitVec.ofInt 16 16383).toNat = x % 2 ^ 14 := by
    rw [BitVec.toNat_and, BitVec.toNat_ofInt, e, Nat.and_two_pow_sub_one_eq_mod]
    omega
  show IntKind.u16.wrap ((BitVec.ofInt 16 (x : Int) &&& BitVec.ofInt 16 16383).toNat : Nat) = _
  rw [key, IntKind.wrap_u16]
  omega
end Go.Proofs.Ytnpibdjfafpegaa
namespace Go.Proofs.Ytnpibdjfafpegaa
open Go.RowKit
def a4 (bs : List Nat) : Array Value := cellsA false (bs ++ List.replicate (16 - bs.length) 0)
theorem a4_size (bs : List Nat) (h : bs.length ≤ 16) : (a4 bs).size = 17 := by
  unfold a4; rw [cellsA_size, List.length_append, List.length_replicate]; omega
theorem a4_all (bs : List Nat) : (a4 bs).all (·.oneCell') = true := cellsA_all _ _
def hcells (s l p : Nat) (S D : Array Value) : Array Value := (Value.int .i64 (s : Int) :: .int .i64 (l : Int) :: .int .u8 (p : Int) :: (S.toList ++ D.toList)).toArray
theorem hcells_size (s l p : Nat) (S D : Array Value) (hS : S.size = 17) (hD : D.size = 17) : (hcells s l p S D).size = 37 := by
  simp [hcells, hS, hD]
theorem hcells_all (s l p : Nat) (S D : Array Value) (hS : S.all (·.oneCell') = true) (hD : D.all (·.oneCell') = true) : (hcells s l p S D).all (·.oneCell') = true := by
  rw [Array.all_eq_true_iff_forall_mem] at *
  intro x hx
  simp only [hcells, List.mem_toArray, List.mem_cons, List.mem_append, Array.mem_toList_iff] at hx
  rcases hx with rfl | rfl | rfl | h | h
  · rfl
  · rfl
  · rfl
  · exact hS x h
  · exact hD x h
def h0 : Array Value := hcells 0 0 0 (a4 [0, 0, 0, 0]) (a4 [0, 0, 0, 0])
theorem h0_size : h0.size = 37 := rfl
theorem h0_all : h0.all (·.oneCell') = true := hcells_all _ _ _ _ _ (a4_all _) (a4_all _)
theorem arr17 (c : Array Value) (h : c.size = 17) : ∃ x0 x1 x2 x3 x4 x5 x6 x7 x8 x9 x10 x11 x12 x13 x14 x15 x16, c = #[x0, x1, x2, x3, x4, x5, x6, x7, x8, x9, x10, x11, x12, x13, x14, x15, x16] := by
  obtain ⟨l⟩ := c
  match l, h with
  | [x0, x1, x2, x3, x4, x5, x6, x7, x8, x9, x10, x11, x12, x13, x14, x15, x16], _ => exact ⟨x0, x1, x2, x3, x4, x5, x6, x7, x8, x9, x10, x11, x12, x13, x14, x15, x16, rfl⟩
end Go.Proofs.Ytnpibdjfafpegaa
