/- Texts that the walks of this seat lean on, put together. -/
import Derived.Deep.CutBlock
import Derived.Deep.DeepCutAuto
import Derived.LoopTactic
import Derived.Handy
import Derived.Test.YtblkpnjmmdbgnaaTk
import Derived.Test.YtblkpnjmmdbgnaaM42
import Derived.Test.YtblkpnjmmdbgnaaM43
import Derived.Test.YtblkpnjmmdbgnaaM44
import Derived.Test.YtblkpnjmmdbgnaaM45
namespace Go.Proofs.Ytblkpnjmmdbgnaa
open Go.RowKit Go.Lib
set_option maxRecDepth 100000 in
set_option maxHeartbeats 4000000 in
theorem alone_long (va : Value) (zs : List Int) (hl : ¬ zs.length ≤ 30) (n : Int) (v6 : Bool) (which : Int) (w : World) (hv : Rd w va (ivs zs)) :
    Calls Try.prog 6 #[va, .int .i64 n, .bool v6, .int .i64 which] w fun e w' => e = .returned (.bool true) ∧ Below w.heap.size w w' := by
  have CA := Lib.hid (fun W => awake_any W)
  obtain ⟨a, cap, rfl, -, -⟩ := rdI_shape hv
  generalize zs.length = m at *
  have g1 : decide ((m : Int) > 30) = true := decide_eq_true (by omega)
  have g3 : 30 < m := by omega
  clear hv hl
  go_enter Try.func6, Try.ntmps6
  go_wp2_with fail
  refine (CA.out _).mono ?_
  rintro e w' ⟨rfl, hy⟩
  go_wp2
  go_ret
  exact ⟨rfl, hy⟩
theorem alone_walk (va : Value) (zs : List Int) (n : Int) (v6 : Bool) (which : Int) (w : World) (hv : Rd w va (ivs zs)) :
    Calls Try.prog 6 #[va, .int .i64 n, .bool v6, .int .i64 which] w fun e w' => e = .returned (.bool true) ∧ Below w.heap.size w w' := by
  by_cases hl : zs.length ≤ 30
  · have h : which % 5 = 0 ∨ which % 5 = 1 ∨ which % 5 = 2 ∨ which % 5 = 3 ∨ which % 5 = 4 := by omega
    rcases h with h | h | h | h | h
    · exact alone_0 va zs hl n v6 which h w hv
    · exact alone_1 va zs hl n v6 which h w hv
    · exact alone_2 va zs hl n v6 which h w hv
    · exact alone_3 va zs hl n v6 which h w hv
    · exact alone_4 va zs hl n v6 which h w hv
  · exact alone_long va zs hl n v6 which w hv
end Go.Proofs.Ytblkpnjmmdbgnaa
