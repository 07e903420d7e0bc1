/- Texts that the walks of this seat lean on, put together. -/
import Derived.WalkKit
import Derived.WalkSpells
import Derived.Handy
import Derived.Lib.Hide
import Derived.Test.YthldpnifodbheaaTk
import Derived.Test.YthldpnifodbheaaTl
import Derived.Test.YthldpnifodbheaaM04
import Derived.Test.YthldpnifodbheaaProg
namespace Go.Proofs.Ythldpnifodbheaa
open Go.RowKit
set_option maxRecDepth 100000 in
theorem round_math (k n : Int) (h : 0 < n) : (k.tmod n + n) % n = k % n := by
  rw [Int.add_emod_right, Int.tmod_eq_emod]
  split
  · simp
  · rw [show ((n.natAbs : Int)) = n from by omega, Int.sub_emod_right, Int.emod_emod_of_dvd _ (Int.dvd_refl n)]
set_option maxRecDepth 100000 in
set_option maxHeartbeats 400000 in
theorem round_any (k n : Int) (w : World) (h : 0 < n) (h2 : n ≤ 4611686018427387903) :
    Calls Try.prog 10 #[.int .i64 k, .int .i64 n] w fun e w' => e = .returned (.int .i64 (k % n)) ∧ w = w' := by
  have a1 := Int.lt_tmod_of_pos k h
  have a2 := Int.tmod_lt_of_pos k h
  have hm := lh (round_math k n h)
  go_enter Try.func10, Try.ntmps10
  go_wp2
  go_ret
  exact ⟨ret_int (by rw [← hm.out]), rfl⟩
end Go.Proofs.Ythldpnifodbheaa
