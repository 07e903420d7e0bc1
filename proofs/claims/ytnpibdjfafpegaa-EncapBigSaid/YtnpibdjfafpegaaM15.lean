/- Texts that the walks of this seat lean on, put together. -/
import Derived.Test.YtnpibdjfafpegaaTk
import Derived.Test.YtnpibdjfafpegaaM11
import Derived.Test.YtnpibdjfafpegaaM12
namespace Go.Proofs.Ytnpibdjfafpegaa
open Go.RowKit
def hd (zs : List Nat) : Array Value := if ff zs = 0 then hcells (hs zs) (u2 zs 2) (zs.getD 9 0) (a4 ((zs.drop 12).take 4)) (a4 ((zs.drop 16).take 4)) else h0
theorem ff_yes (zs : List Nat) (h : ff zs = 0) : 20 ≤ zs.length ∧ zs.getD 0 0 / 16 = 4 ∧ 20 ≤ hs zs ∧ hs zs ≤ u2 zs 2 ∧ u2 zs 2 ≤ zs.length ∧ ck (zs.take (hs zs)) = 0 ∧ u2 zs 6 % 16384 = 0 ∧ (zs.getD 9 0 = 6 ∨ zs.getD 9 0 = 17) := by
  unfold ff at h
  repeat' split at h
  all_goals omega
end Go.Proofs.Ytnpibdjfafpegaa
