/- crc.Known, and the document's own. -/
import Derived.Test.YthgcgkfcofomcaaS16d
import Derived.LoopTactic
import Derived.Handy
namespace Go.Proofs.Ythgcgkfcofomcaa
open Go.RowKit Go.Lib

set_option maxRecDepth 100000 in
set_option maxHeartbeats 400000 in
theorem known_any (w : World) :
    Calls Try.prog 11 #[] w fun e w' => e = .returned (.slice (some ⟨w.heap.size, 0, none⟩) 4 4) ∧ Blk w' w.heap.size 22 (tcs knownC) ∧ Below w.heap.size w w' := by
  have B := Lib.hid (Blk.new w 22 (tcs knownC))
  have K := Lib.hid ((Below.refl w.heap.size w).alloc (Nat.le_refl _) (.cells (tcs knownC) 22))
  go_enter Try.func11, Try.ntmps11
  go_wp2
  go_ret
  exact ⟨rfl, B.out, K.out⟩
set_option maxRecDepth 100000 in
set_option maxHeartbeats 400000 in
theorem rknown_any (n : Int) (w : World) :
    Calls Try.prog 14 #[.int .i64 n] w fun e w' => e = .returned (.int .u32 ((knownC.getD (n % 4).toNat 0 : Nat) : Int)) ∧ Below w.heap.size w w' := by
  have B := Lib.hid (Blk.new w 22 (tcs knownC))
  have K := Lib.hid ((Below.refl w.heap.size w).alloc (Nat.le_refl _) (.cells (tcs knownC) 22))
  have a1 := Int.lt_tmod_of_pos n (show (0 : Int) < 4 by decide)
  have a2 := Int.tmod_lt_of_pos n (show (0 : Int) < 4 by decide)
  have hm := Lib.hid (round_math n 4 (by decide))
  go_enter Try.func14, Try.ntmps14
  have hl : [Value.int IntKind.u32 3988292384, Value.int IntKind.u32 2197175160, Value.int IntKind.u32 3945912366, Value.int IntKind.u32 3582100097][(n.tmod 4 % 4).toNat]? = some (.int .u32 ((knownC.getD (n % 4).toNat 0 : Nat) : Int)) := by
    have e : n.tmod 4 % 4 = n % 4 := by rw [← hm.out, Int.add_emod_right]
    rw [e]
    have h : n % 4 = 0 ∨ n % 4 = 1 ∨ n % 4 = 2 ∨ n % 4 = 3 := by omega
    rcases h with h | h | h | h <;> rw [h] <;> rfl
  go_wp2
  go_ret
  exact ⟨rfl, K.out⟩
end Go.Proofs.Ythgcgkfcofomcaa
