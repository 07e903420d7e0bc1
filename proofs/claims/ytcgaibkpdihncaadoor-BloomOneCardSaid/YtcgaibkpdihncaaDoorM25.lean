/- Texts that the walks of this seat lean on, put together. -/
import Derived.StillTailTactics
import Derived.Deep.CutBlock
import Derived.Deep.DeepCutAuto
import Derived.LoopTactic
import Derived.Handy
import Derived.Test.YtcgaibkpdihncaaDoorTk
import Derived.Test.YtcgaibkpdihncaaDoorM11
import Derived.Test.YtcgaibkpdihncaaDoorM16
import Derived.Test.YtcgaibkpdihncaaDoorM24
namespace Go.Proofs.YtcgaibkpdihncaaDoor
open Go.RowKit Go.Lib
theorem eqn_some (p : Addr) (n c : Nat) (W : World) : (binOp .eql 90 (.slice (some p) n c) (.slice none 0 0)).run Tryd.prog W = .ok (.bool false) W := by kernel_rfl
theorem okC_bl {c : Cf} (h : okC c = true) : 8 ≤ c.bl ∧ c.bl ≤ 65536 := by
  unfold okC pw wi at h
  simp only [Bool.and_eq_true, decide_eq_true_iff] at h
  omega
theorem okC_hs {c : Cf} (h : okC c = true) : 1 ≤ c.hs ∧ c.hs ≤ 4 := by
  unfold okC wi at h
  simp only [Bool.and_eq_true, decide_eq_true_iff] at h
  omega
end Go.Proofs.YtcgaibkpdihncaaDoor
