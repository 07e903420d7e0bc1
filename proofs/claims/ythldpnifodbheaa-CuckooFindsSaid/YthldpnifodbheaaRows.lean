/-
  No cell of these rows narrows 'for every input' (looked for: loops, veiled, ifaces, maps, wideKeys, modest, calm, conditions, laid).
  DERIVED. THE GIVEN ROWS OF THIS SEAT. 4 by the template 'for every input the law returns true; each argument reads behind the call as it read before'; 0 by the template 'total and deterministic' (their statements: YthldpnifodbheaaTotals.lean).
  GIVEN WITH THE SEED: the statements are not yours to turn. If you find one false, say at which input.
  Laid BY PROGRAM, IN A SANDBOX (cutbox-rows.mjs): the forced cells as the released guide's own fill.sh prints them over the translation f5e29a1b12d21087… (all of the seat's roots in one cut). By AI agents, Wed Nov 11 2026. No macro, syntax, notation, axiom, sorry.
-/
import Derived.Test.YthldpnifodbheaaChecked
import GoSem.Claim
import GoSem.ClaimJoined
import GoSem.ClaimMapViews
import Derived.JoinedTies
import Derived.KernelRfl
namespace Go.Proofs.Ythldpnifodbheaa
/- THE CELL 'sum', in the pinned program and in every row, IS THE sha256 OF THE DUMP (.gsa) THAT YthldpnifodbheaaProg.lean LOADS. Nothing in Lean hashes anything: it is a label: what it is worth is what the hold of that sum in a sandbox is worth. -/
noncomputable def Try.pinned : Pinned := { name := "ythldpnifodbheaa", sum := "f5e29a1b12d21087c629ba2b2a08bcd6d2afbf130ee45a4fc4814fa62f26315d", checked := Try.checked }
namespace Rows
def none {H : Type} : Left H := { results := [], args := [] }

/-- 'bazaarlaw16.CuckooFinds': WHATEVER THE INPUT: true; the input reads as it did. -/
def cuckooFindsSpec : ChangeSpec := { name := "cuckooFinds", fn := fun _ => fun
  | [d1, d2, d3] => { results := [.lit (.bool true)], args := [d1, d2, d3] }
  | _ => none }
def cuckooFindsRow : OpenClaim := { program := "ythldpnifodbheaa", sum := "f5e29a1b12d21087c629ba2b2a08bcd6d2afbf130ee45a4fc4814fa62f26315d", func := "bazaar/bazaarlaw16.CuckooFinds", spec := "cuckooFinds", inPlace := ["internal/bytealg.Compare"], unfollowed := true, recurses := true, plainKeys := false, apart := false }
def CuckooFindsSaid : Prop := cuckooFindsRow.holds Try.pinned (OpenSpec.ofChange cuckooFindsSpec)

/-- ITS FALSE NEIGHBOUR: 'it returns false'. Refute it at one input. -/
def cuckooFindsWrong : ChangeSpec := { name := "cuckooFinds", fn := fun _ => fun
  | [d1, d2, d3] => { results := [.lit (.bool false)], args := [d1, d2, d3] }
  | _ => none }
def CuckooFindsWrongFalsely : Prop := cuckooFindsRow.holds Try.pinned (OpenSpec.ofChange cuckooFindsWrong)

/-- 'bazaarlaw16.CuckooTwins': WHATEVER THE INPUT: true; the input reads as it did. -/
def cuckooTwinsSpec : ChangeSpec := { name := "cuckooTwins", fn := fun _ => fun
  | [d1, d2] => { results := [.lit (.bool true)], args := [d1, d2] }
  | _ => none }
def cuckooTwinsRow : OpenClaim := { program := "ythldpnifodbheaa", sum := "f5e29a1b12d21087c629ba2b2a08bcd6d2afbf130ee45a4fc4814fa62f26315d", func := "bazaar/bazaarlaw16.CuckooTwins", spec := "cuckooTwins", inPlace := ["internal/bytealg.Compare"], unfollowed := true, recurses := true, plainKeys := false, apart := false }
def CuckooTwinsSaid : Prop := cuckooTwinsRow.holds Try.pinned (OpenSpec.ofChange cuckooTwinsSpec)

/-- ITS FALSE NEIGHBOUR: 'it returns false'. Refute it at one input. -/
def cuckooTwinsWrong : ChangeSpec := { name := "cuckooTwins", fn := fun _ => fun
  | [d1, d2] => { results := [.lit (.bool false)], args := [d1, d2] }
  | _ => none }
def CuckooTwinsWrongFalsely : Prop := cuckooTwinsRow.holds Try.pinned (OpenSpec.ofChange cuckooTwinsWrong)

/-- 'bazaarlaw16.CuckooVips': WHATEVER THE INPUT: true; the input reads as it did. -/
def cuckooVipsSpec : ChangeSpec := { name := "cuckooVips", fn := fun _ => fun
  | [d1, d2] => { results := [.lit (.bool true)], args := [d1, d2] }
  | _ => none }
def cuckooVipsRow : OpenClaim := { program := "ythldpnifodbheaa", sum := "f5e29a1b12d21087c629ba2b2a08bcd6d2afbf130ee45a4fc4814fa62f26315d", func := "bazaar/bazaarlaw16.CuckooVips", spec := "cuckooVips", inPlace := ["internal/bytealg.Compare"], unfollowed := true, recurses := true, plainKeys := false, apart := false }
def CuckooVipsSaid : Prop := cuckooVipsRow.holds Try.pinned (OpenSpec.ofChange cuckooVipsSpec)

/-- ITS FALSE NEIGHBOUR: 'it returns false'. Refute it at one input. -/
def cuckooVipsWrong : ChangeSpec := { name := "cuckooVips", fn := fun _ => fun
  | [d1, d2] => { results := [.lit (.bool false)], args := [d1, d2] }
  | _ => none }
def CuckooVipsWrongFalsely : Prop := cuckooVipsRow.holds Try.pinned (OpenSpec.ofChange cuckooVipsWrong)

/-- 'bazaarlaw16.CuckooAgain': WHATEVER THE INPUT: true; the input reads as it did. -/
def cuckooAgainSpec : ChangeSpec := { name := "cuckooAgain", fn := fun _ => fun
  | [d1, d2, d3] => { results := [.lit (.bool true)], args := [d1, d2, d3] }
  | _ => none }
def cuckooAgainRow : OpenClaim := { program := "ythldpnifodbheaa", sum := "f5e29a1b12d21087c629ba2b2a08bcd6d2afbf130ee45a4fc4814fa62f26315d", func := "bazaar/bazaarlaw16.CuckooAgain", spec := "cuckooAgain", inPlace := ["internal/bytealg.Compare"], unfollowed := true, recurses := true, plainKeys := false, apart := false }
def CuckooAgainSaid : Prop := cuckooAgainRow.holds Try.pinned (OpenSpec.ofChange cuckooAgainSpec)

/-- ITS FALSE NEIGHBOUR: 'it returns false'. Refute it at one input. -/
def cuckooAgainWrong : ChangeSpec := { name := "cuckooAgain", fn := fun _ => fun
  | [d1, d2, d3] => { results := [.lit (.bool false)], args := [d1, d2, d3] }
  | _ => none }
def CuckooAgainWrongFalsely : Prop := cuckooAgainRow.holds Try.pinned (OpenSpec.ofChange cuckooAgainWrong)

/- THE SECOND FORM. 'bulk': how many values and letters a reading holds, each counted each time it is reached (what is shared counts as often as it is met; a slice's spare places count too). A statement '..UptoSaid' is the law's where the arguments, and the package variables that the reading takes, are together of bulk at most 1048576: NARROWER than '..Said'. Prove '..Said' where nothing that the law and all that it calls make is longer than what came in: it says more and counts as full. Else prove '..UptoSaid'. A law counts once. -/
mutual
def uptoBulk {H : Type} : DataW H → Nat
  | .lit (.string bytes) => bytes.length + 1
  | .lit _ => 1
  | .nil => 1
  | .ptr d => uptoBulk d + 1
  | .slice elems spare => uptoBulkAll elems + uptoBulkAll spare + 1
  | .agg parts => uptoBulkAll parts + 1
  | .iface _ d => uptoBulk d + 1
  | .map entries => uptoBulkEntries entries + 1
  | .held _ => 1
def uptoBulkAll {H : Type} : List (DataW H) → Nat
  | [] => 0
  | d :: r => uptoBulk d + uptoBulkAll r
def uptoBulkEntries {H : Type} : List (Lit × DataW H) → Nat
  | [] => 0
  | x :: r => uptoBulkEntry x + uptoBulkEntries r
def uptoBulkEntry {H : Type} : Lit × DataW H → Nat
  | (.string bytes, d) => bytes.length + uptoBulk d + 1
  | (_, d) => uptoBulk d + 1
 end
def uptoSmall : (H : Type) → List (DataW H) → Bool := fun _ ds => decide (uptoBulkAll ds ≤ 1048576)
def OpenSpec.upto (s : _root_.Go.ChangeSpec) : _root_.Go.OpenSpec := { _root_.Go.OpenSpec.ofChange s with cond := some uptoSmall }

/-- 'bazaarlaw16.CuckooFinds', WHERE WHAT IT READS IS OF BULK AT MOST 1048576: true; the input reads as it did. -/
def cuckooFindsUptoRow : OpenClaim := { program := "ythldpnifodbheaa", sum := "f5e29a1b12d21087c629ba2b2a08bcd6d2afbf130ee45a4fc4814fa62f26315d", func := "bazaar/bazaarlaw16.CuckooFinds", spec := "cuckooFinds", inPlace := ["internal/bytealg.Compare"], unfollowed := true, recurses := true, plainKeys := false, apart := false, narrowed := true }
def CuckooFindsUptoSaid : Prop := cuckooFindsUptoRow.holds Try.pinned (OpenSpec.upto cuckooFindsSpec)

/-- 'bazaarlaw16.CuckooTwins', WHERE WHAT IT READS IS OF BULK AT MOST 1048576: true; the input reads as it did. -/
def cuckooTwinsUptoRow : OpenClaim := { program := "ythldpnifodbheaa", sum := "f5e29a1b12d21087c629ba2b2a08bcd6d2afbf130ee45a4fc4814fa62f26315d", func := "bazaar/bazaarlaw16.CuckooTwins", spec := "cuckooTwins", inPlace := ["internal/bytealg.Compare"], unfollowed := true, recurses := true, plainKeys := false, apart := false, narrowed := true }
def CuckooTwinsUptoSaid : Prop := cuckooTwinsUptoRow.holds Try.pinned (OpenSpec.upto cuckooTwinsSpec)

/-- 'bazaarlaw16.CuckooVips', WHERE WHAT IT READS IS OF BULK AT MOST 1048576: true; the input reads as it did. -/
def cuckooVipsUptoRow : OpenClaim := { program := "ythldpnifodbheaa", sum := "f5e29a1b12d21087c629ba2b2a08bcd6d2afbf130ee45a4fc4814fa62f26315d", func := "bazaar/bazaarlaw16.CuckooVips", spec := "cuckooVips", inPlace := ["internal/bytealg.Compare"], unfollowed := true, recurses := true, plainKeys := false, apart := false, narrowed := true }
def CuckooVipsUptoSaid : Prop := cuckooVipsUptoRow.holds Try.pinned (OpenSpec.upto cuckooVipsSpec)

/-- 'bazaarlaw16.CuckooAgain', WHERE WHAT IT READS IS OF BULK AT MOST 1048576: true; the input reads as it did. -/
def cuckooAgainUptoRow : OpenClaim := { program := "ythldpnifodbheaa", sum := "f5e29a1b12d21087c629ba2b2a08bcd6d2afbf130ee45a4fc4814fa62f26315d", func := "bazaar/bazaarlaw16.CuckooAgain", spec := "cuckooAgain", inPlace := ["internal/bytealg.Compare"], unfollowed := true, recurses := true, plainKeys := false, apart := false, narrowed := true }
def CuckooAgainUptoSaid : Prop := cuckooAgainUptoRow.holds Try.pinned (OpenSpec.upto cuckooAgainSpec)

end Rows
end Go.Proofs.Ythldpnifodbheaa
