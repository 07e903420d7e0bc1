/-
  No cell of these rows narrows 'for every input' (looked for: loops, veiled, ifaces, maps, wideKeys, modest, calm, conditions, laid).
  DERIVED. THE GIVEN ROWS OF THIS SEAT. 4 by the template 'for every input the law returns true; each argument reads behind the call as it read before'; 0 by the template 'total and deterministic' (their statements: YtblkpnjmmdbgnaaTotals.lean).
  GIVEN WITH THE SEED: the statements are not yours to turn. If you find one false, say at which input.
  Laid BY PROGRAM, IN A SANDBOX (cutbox-rows.mjs): the forced cells as the released guide's own fill.sh prints them over the translation c94a79fc90c4c748… (all of the seat's roots in one cut). By AI agents, Wed Nov 11 2026. No macro, syntax, notation, axiom, sorry.
-/
import Derived.Test.YtblkpnjmmdbgnaaChecked
import GoSem.Claim
import GoSem.ClaimJoined
import GoSem.ClaimMapViews
import Derived.JoinedTies
import Derived.KernelRfl
namespace Go.Proofs.Ytblkpnjmmdbgnaa
/- THE CELL 'sum', in the pinned program and in every row, IS THE sha256 OF THE DUMP (.gsa) THAT YtblkpnjmmdbgnaaProg.lean LOADS. Nothing in Lean hashes anything: it is a label: what it is worth is what the hold of that sum in a sandbox is worth. -/
noncomputable def Try.pinned : Pinned := { name := "ytblkpnjmmdbgnaa", sum := "c94a79fc90c4c7487110266014ae997f79ce86ddd04a6652c6e896622d95c72f", checked := Try.checked }
namespace Rows
def none {H : Type} : Left H := { results := [], args := [] }

/-- 'bazaarlaw13.FamilyTells': WHATEVER THE INPUT: true; the input reads as it did. -/
def familyTellsSpec : ChangeSpec := { name := "familyTells", fn := fun _ => fun
  | [d1, d2, d3, d4, d5] => { results := [.lit (.bool true)], args := [d1, d2, d3, d4, d5] }
  | _ => none }
def familyTellsRow : OpenClaim := { program := "ytblkpnjmmdbgnaa", sum := "c94a79fc90c4c7487110266014ae997f79ce86ddd04a6652c6e896622d95c72f", func := "bazaar/bazaarlaw13.FamilyTells", spec := "familyTells", unfollowed := true, recurses := true, apart := false }
def FamilyTellsSaid : Prop := familyTellsRow.holds Try.pinned (OpenSpec.ofChange familyTellsSpec)

/-- ITS FALSE NEIGHBOUR: 'it returns false'. Refute it at one input. -/
def familyTellsWrong : ChangeSpec := { name := "familyTells", fn := fun _ => fun
  | [d1, d2, d3, d4, d5] => { results := [.lit (.bool false)], args := [d1, d2, d3, d4, d5] }
  | _ => none }
def FamilyTellsWrongFalsely : Prop := familyTellsRow.holds Try.pinned (OpenSpec.ofChange familyTellsWrong)

/-- 'bazaarlaw13.FamilyWithin': WHATEVER THE INPUT: true; the input reads as it did. -/
def familyWithinSpec : ChangeSpec := { name := "familyWithin", fn := fun _ => fun
  | [d1, d2, d3, d4, d5] => { results := [.lit (.bool true)], args := [d1, d2, d3, d4, d5] }
  | _ => none }
def familyWithinRow : OpenClaim := { program := "ytblkpnjmmdbgnaa", sum := "c94a79fc90c4c7487110266014ae997f79ce86ddd04a6652c6e896622d95c72f", func := "bazaar/bazaarlaw13.FamilyWithin", spec := "familyWithin", unfollowed := true, recurses := true, apart := false }
def FamilyWithinSaid : Prop := familyWithinRow.holds Try.pinned (OpenSpec.ofChange familyWithinSpec)

/-- ITS FALSE NEIGHBOUR: 'it returns false'. Refute it at one input. -/
def familyWithinWrong : ChangeSpec := { name := "familyWithin", fn := fun _ => fun
  | [d1, d2, d3, d4, d5] => { results := [.lit (.bool false)], args := [d1, d2, d3, d4, d5] }
  | _ => none }
def FamilyWithinWrongFalsely : Prop := familyWithinRow.holds Try.pinned (OpenSpec.ofChange familyWithinWrong)

/-- 'bazaarlaw13.FamilyChecks': WHATEVER THE INPUT: true; the input reads as it did. -/
def familyChecksSpec : ChangeSpec := { name := "familyChecks", fn := fun _ => fun
  | [d1, d2, d3] => { results := [.lit (.bool true)], args := [d1, d2, d3] }
  | _ => none }
def familyChecksRow : OpenClaim := { program := "ytblkpnjmmdbgnaa", sum := "c94a79fc90c4c7487110266014ae997f79ce86ddd04a6652c6e896622d95c72f", func := "bazaar/bazaarlaw13.FamilyChecks", spec := "familyChecks", apart := false }
def FamilyChecksSaid : Prop := familyChecksRow.holds Try.pinned (OpenSpec.ofChange familyChecksSpec)

/-- ITS FALSE NEIGHBOUR: 'it returns false'. Refute it at one input. -/
def familyChecksWrong : ChangeSpec := { name := "familyChecks", fn := fun _ => fun
  | [d1, d2, d3] => { results := [.lit (.bool false)], args := [d1, d2, d3] }
  | _ => none }
def FamilyChecksWrongFalsely : Prop := familyChecksRow.holds Try.pinned (OpenSpec.ofChange familyChecksWrong)

/-- 'bazaarlaw13.FamilyAlone': WHATEVER THE INPUT: true; the input reads as it did. -/
def familyAloneSpec : ChangeSpec := { name := "familyAlone", fn := fun _ => fun
  | [d1, d2, d3, d4] => { results := [.lit (.bool true)], args := [d1, d2, d3, d4] }
  | _ => none }
def familyAloneRow : OpenClaim := { program := "ytblkpnjmmdbgnaa", sum := "c94a79fc90c4c7487110266014ae997f79ce86ddd04a6652c6e896622d95c72f", func := "bazaar/bazaarlaw13.FamilyAlone", spec := "familyAlone", apart := false }
def FamilyAloneSaid : Prop := familyAloneRow.holds Try.pinned (OpenSpec.ofChange familyAloneSpec)

/-- ITS FALSE NEIGHBOUR: 'it returns false'. Refute it at one input. -/
def familyAloneWrong : ChangeSpec := { name := "familyAlone", fn := fun _ => fun
  | [d1, d2, d3, d4] => { results := [.lit (.bool false)], args := [d1, d2, d3, d4] }
  | _ => none }
def FamilyAloneWrongFalsely : Prop := familyAloneRow.holds Try.pinned (OpenSpec.ofChange familyAloneWrong)

/- THE SECOND FORM. 'bulk': how many values and letters a reading holds, each counted each time it is reached (what is shared counts as often as it is met; a slice's spare places count too). A statement '..UptoSaid' is the law's where the arguments, and the package variables that the reading takes, are together of bulk at most 1048576: NARROWER than '..Said'. Prove '..Said' where nothing that the law and all that it calls make is longer than what came in: it says more and counts as full. Else prove '..UptoSaid'. A law counts once. -/
mutual
def uptoBulk {H : Type} : DataW H → Nat
  | .lit (.string bytes) => bytes.length + 1
  | .lit _ => 1
  | .nil => 1
  | .ptr d => uptoBulk d + 1
  | .slice elems spare => uptoBulkAll elems + uptoBulkAll spare + 1
  | .agg parts => uptoBulkAll parts + 1
  | .iface _ d => uptoBulk d + 1
  | .map entries => uptoBulkEntries entries + 1
  | .held _ => 1
def uptoBulkAll {H : Type} : List (DataW H) → Nat
  | [] => 0
  | d :: r => uptoBulk d + uptoBulkAll r
def uptoBulkEntries {H : Type} : List (Lit × DataW H) → Nat
  | [] => 0
  | x :: r => uptoBulkEntry x + uptoBulkEntries r
def uptoBulkEntry {H : Type} : Lit × DataW H → Nat
  | (.string bytes, d) => bytes.length + uptoBulk d + 1
  | (_, d) => uptoBulk d + 1
 end
def uptoSmall : (H : Type) → List (DataW H) → Bool := fun _ ds => decide (uptoBulkAll ds ≤ 1048576)
def OpenSpec.upto (s : _root_.Go.ChangeSpec) : _root_.Go.OpenSpec := { _root_.Go.OpenSpec.ofChange s with cond := some uptoSmall }

/-- 'bazaarlaw13.FamilyTells', WHERE WHAT IT READS IS OF BULK AT MOST 1048576: true; the input reads as it did. -/
def familyTellsUptoRow : OpenClaim := { program := "ytblkpnjmmdbgnaa", sum := "c94a79fc90c4c7487110266014ae997f79ce86ddd04a6652c6e896622d95c72f", func := "bazaar/bazaarlaw13.FamilyTells", spec := "familyTells", unfollowed := true, recurses := true, apart := false, narrowed := true }
def FamilyTellsUptoSaid : Prop := familyTellsUptoRow.holds Try.pinned (OpenSpec.upto familyTellsSpec)

/-- 'bazaarlaw13.FamilyWithin', WHERE WHAT IT READS IS OF BULK AT MOST 1048576: true; the input reads as it did. -/
def familyWithinUptoRow : OpenClaim := { program := "ytblkpnjmmdbgnaa", sum := "c94a79fc90c4c7487110266014ae997f79ce86ddd04a6652c6e896622d95c72f", func := "bazaar/bazaarlaw13.FamilyWithin", spec := "familyWithin", unfollowed := true, recurses := true, apart := false, narrowed := true }
def FamilyWithinUptoSaid : Prop := familyWithinUptoRow.holds Try.pinned (OpenSpec.upto familyWithinSpec)

/-- 'bazaarlaw13.FamilyChecks', WHERE WHAT IT READS IS OF BULK AT MOST 1048576: true; the input reads as it did. -/
def familyChecksUptoRow : OpenClaim := { program := "ytblkpnjmmdbgnaa", sum := "c94a79fc90c4c7487110266014ae997f79ce86ddd04a6652c6e896622d95c72f", func := "bazaar/bazaarlaw13.FamilyChecks", spec := "familyChecks", apart := false, narrowed := true }
def FamilyChecksUptoSaid : Prop := familyChecksUptoRow.holds Try.pinned (OpenSpec.upto familyChecksSpec)

/-- 'bazaarlaw13.FamilyAlone', WHERE WHAT IT READS IS OF BULK AT MOST 1048576: true; the input reads as it did. -/
def familyAloneUptoRow : OpenClaim := { program := "ytblkpnjmmdbgnaa", sum := "c94a79fc90c4c7487110266014ae997f79ce86ddd04a6652c6e896622d95c72f", func := "bazaar/bazaarlaw13.FamilyAlone", spec := "familyAlone", apart := false, narrowed := true }
def FamilyAloneUptoSaid : Prop := familyAloneUptoRow.holds Try.pinned (OpenSpec.upto familyAloneSpec)

end Rows
end Go.Proofs.Ytblkpnjmmdbgnaa
