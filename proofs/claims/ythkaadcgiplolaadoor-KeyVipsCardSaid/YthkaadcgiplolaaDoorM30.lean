/- Texts that the walks of this seat lean on, put together. -/
import Derived.Laws.CopyOwn
import Derived.Handy
import Derived.BigQuiet
import Derived.Deep.QuietTactic
import Derived.RangeFuncNested
import Derived.RangeFuncBound
import Derived.RangeFuncCalls
import Derived.RangeFuncLeaves
import Derived.RangeFuncBox
import Derived.Shelf.Abstract
import Derived.Shelf.RegionOpen
import Derived.OwnWalkIn
import Derived.TacticsInMore
import Derived.LoopNIn
import Derived.LoopIn
import Derived.Maps.AppendAt
import Derived.Test.YthkaadcgiplolaaDoorTk
import Derived.Test.YthkaadcgiplolaaDoorM02
import Derived.Test.YthkaadcgiplolaaDoorM04
import Derived.Test.YthkaadcgiplolaaDoorM05
import Derived.Test.YthkaadcgiplolaaDoorM13
import Derived.Test.YthkaadcgiplolaaDoorM15
import Derived.Test.YthkaadcgiplolaaDoorM16
import Derived.Test.YthkaadcgiplolaaDoorM26
import Derived.Test.YthkaadcgiplolaaDoorM27
namespace Go.Proofs.YthkaadcgiplolaaDoor
open Go.RowKit
def gr (u : Nat) : Nat := if u = 0 then 0 else (u - 1) % 65535 + 1
def wt (p : Nat) : Nat := if p % 2 = 0 then 256 else 1
def wsp : Nat → List Nat → Nat
  | _, [] => 0
  | p, x :: r => x * wt p + wsp (p + 1) r
def w2 (E : List Nat) (j : Nat) : Nat := E.getD (2 * j) 0 * 256 + E.getD (2 * j + 1) 0
theorem be_two (E : List Nat) (k : Nat) (h : k + 2 ≤ E.length) : be ((E.drop k).take 2) = E.getD k 0 * 256 + E.getD (k + 1) 0 := by
  rw [be_step E k 1 (by omega), be_step E k 0 (by omega)]
  simp [be]
def ck (b : List Nat) : Nat := 65535 - gr (wsp 0 b)
end Go.Proofs.YthkaadcgiplolaaDoor
namespace Go.Proofs.YthkaadcgiplolaaDoor
open Go.RowKit
theorem own_at {w : World} {base n : Nat} {e : TypeId} {v : Value} {xs : List Value} (h : w.ownsRow base e 1 v n xs) (h0 : 0 < n) : ∃ g cap, v = .slice (some ⟨g, 0, none⟩) n cap ∧ n ≤ cap ∧ cap ≤ maxLen ∧ base ≤ g ∧ g < w.heap.size := by
  rcases h.2 with ⟨-, h1⟩ | ⟨g, cap, cur, rfl, hg, h2, hnc, hcm, _⟩
  · omega
  · exact ⟨g, cap, rfl, hnc, hcm, hg, (Array.getElem?_eq_some_iff.1 h2).1⟩
end Go.Proofs.YthkaadcgiplolaaDoor
