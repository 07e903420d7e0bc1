/-
  No cell of these rows narrows 'for every input' (looked for: loops, veiled, ifaces, maps, wideKeys, modest, calm, conditions, laid).
  DERIVED. THE GIVEN ROWS OF THIS SEAT. 4 by the template 'for every input the law returns true; each argument reads behind the call as it read before'; 0 by the template 'total and deterministic' (their statements: YtimnmdeiiahakaaTotals.lean).
  GIVEN WITH THE SEED: the statements are not yours to turn. If you find one false, say at which input.
  Laid BY PROGRAM, IN A SANDBOX (cutbox-rows.mjs): the forced cells as the released guide's own fill.sh prints them over the translation c5e626fdc99df0dd… (all of the seat's roots in one cut). By AI agents, Wed Nov 11 2026. No macro, syntax, notation, axiom, sorry.
-/
import Derived.Test.YtimnmdeiiahakaaChecked
import GoSem.Claim
import GoSem.ClaimJoined
import GoSem.ClaimMapViews
import Derived.JoinedTies
import Derived.KernelRfl
namespace Go.Proofs.Ytimnmdeiiahakaa
/- THE CELL 'sum', in the pinned program and in every row, IS THE sha256 OF THE DUMP (.gsa) THAT YtimnmdeiiahakaaProg.lean LOADS. Nothing in Lean hashes anything: it is a label: what it is worth is what the hold of that sum in a sandbox is worth. -/
noncomputable def Try.pinned : Pinned := { name := "ytimnmdeiiahakaa", sum := "c5e626fdc99df0ddfb931e9177884286cd517fc1ffa9a2214adbd5ba1e1b00a1", checked := Try.checked }
namespace Rows
def none {H : Type} : Left H := { results := [], args := [] }

/-- 'bazaarlaw15.GridActs': WHATEVER THE INPUT: true; the input reads as it did. -/
def gridActsSpec : ChangeSpec := { name := "gridActs", fn := fun _ => fun
  | [d1, d2, d3] => { results := [.lit (.bool true)], args := [d1, d2, d3] }
  | _ => none }
def gridActsRow : OpenClaim := { program := "ytimnmdeiiahakaa", sum := "c5e626fdc99df0ddfb931e9177884286cd517fc1ffa9a2214adbd5ba1e1b00a1", func := "bazaar/bazaarlaw15.GridActs", spec := "gridActs", unfollowed := true, recurses := true, apart := false }
def GridActsSaid : Prop := gridActsRow.holds Try.pinned (OpenSpec.ofChange gridActsSpec)

/-- ITS FALSE NEIGHBOUR: 'it returns false'. Refute it at one input. -/
def gridActsWrong : ChangeSpec := { name := "gridActs", fn := fun _ => fun
  | [d1, d2, d3] => { results := [.lit (.bool false)], args := [d1, d2, d3] }
  | _ => none }
def GridActsWrongFalsely : Prop := gridActsRow.holds Try.pinned (OpenSpec.ofChange gridActsWrong)

/-- 'bazaarlaw15.GridFills': WHATEVER THE INPUT: true; the input reads as it did. -/
def gridFillsSpec : ChangeSpec := { name := "gridFills", fn := fun _ => fun
  | [d1, d2, d3] => { results := [.lit (.bool true)], args := [d1, d2, d3] }
  | _ => none }
def gridFillsRow : OpenClaim := { program := "ytimnmdeiiahakaa", sum := "c5e626fdc99df0ddfb931e9177884286cd517fc1ffa9a2214adbd5ba1e1b00a1", func := "bazaar/bazaarlaw15.GridFills", spec := "gridFills", unfollowed := true, recurses := true, apart := false }
def GridFillsSaid : Prop := gridFillsRow.holds Try.pinned (OpenSpec.ofChange gridFillsSpec)

/-- ITS FALSE NEIGHBOUR: 'it returns false'. Refute it at one input. -/
def gridFillsWrong : ChangeSpec := { name := "gridFills", fn := fun _ => fun
  | [d1, d2, d3] => { results := [.lit (.bool false)], args := [d1, d2, d3] }
  | _ => none }
def GridFillsWrongFalsely : Prop := gridFillsRow.holds Try.pinned (OpenSpec.ofChange gridFillsWrong)

/-- 'bazaarlaw15.GridEnds': WHATEVER THE INPUT: true; the input reads as it did. -/
def gridEndsSpec : ChangeSpec := { name := "gridEnds", fn := fun _ => fun
  | [d1, d2, d3] => { results := [.lit (.bool true)], args := [d1, d2, d3] }
  | _ => none }
def gridEndsRow : OpenClaim := { program := "ytimnmdeiiahakaa", sum := "c5e626fdc99df0ddfb931e9177884286cd517fc1ffa9a2214adbd5ba1e1b00a1", func := "bazaar/bazaarlaw15.GridEnds", spec := "gridEnds", apart := false }
def GridEndsSaid : Prop := gridEndsRow.holds Try.pinned (OpenSpec.ofChange gridEndsSpec)

/-- ITS FALSE NEIGHBOUR: 'it returns false'. Refute it at one input. -/
def gridEndsWrong : ChangeSpec := { name := "gridEnds", fn := fun _ => fun
  | [d1, d2, d3] => { results := [.lit (.bool false)], args := [d1, d2, d3] }
  | _ => none }
def GridEndsWrongFalsely : Prop := gridEndsRow.holds Try.pinned (OpenSpec.ofChange gridEndsWrong)

/-- 'bazaarlaw15.GridWalks': WHATEVER THE INPUT: true; the input reads as it did. -/
def gridWalksSpec : ChangeSpec := { name := "gridWalks", fn := fun _ => fun
  | [d1, d2, d3, d4] => { results := [.lit (.bool true)], args := [d1, d2, d3, d4] }
  | _ => none }
def gridWalksRow : OpenClaim := { program := "ytimnmdeiiahakaa", sum := "c5e626fdc99df0ddfb931e9177884286cd517fc1ffa9a2214adbd5ba1e1b00a1", func := "bazaar/bazaarlaw15.GridWalks", spec := "gridWalks", unfollowed := true, recurses := true, apart := false }
def GridWalksSaid : Prop := gridWalksRow.holds Try.pinned (OpenSpec.ofChange gridWalksSpec)

/-- ITS FALSE NEIGHBOUR: 'it returns false'. Refute it at one input. -/
def gridWalksWrong : ChangeSpec := { name := "gridWalks", fn := fun _ => fun
  | [d1, d2, d3, d4] => { results := [.lit (.bool false)], args := [d1, d2, d3, d4] }
  | _ => none }
def GridWalksWrongFalsely : Prop := gridWalksRow.holds Try.pinned (OpenSpec.ofChange gridWalksWrong)

/- THE SECOND FORM. 'bulk': how many values and letters a reading holds, each counted each time it is reached (what is shared counts as often as it is met; a slice's spare places count too). A statement '..UptoSaid' is the law's where the arguments, and the package variables that the reading takes, are together of bulk at most 1048576: NARROWER than '..Said'. Prove '..Said' where nothing that the law and all that it calls make is longer than what came in: it says more and counts as full. Else prove '..UptoSaid'. A law counts once. -/
mutual
def uptoBulk {H : Type} : DataW H → Nat
  | .lit (.string bytes) => bytes.length + 1
  | .lit _ => 1
  | .nil => 1
  | .ptr d => uptoBulk d + 1
  | .slice elems spare => uptoBulkAll elems + uptoBulkAll spare + 1
  | .agg parts => uptoBulkAll parts + 1
  | .iface _ d => uptoBulk d + 1
  | .map entries => uptoBulkEntries entries + 1
  | .held _ => 1
def uptoBulkAll {H : Type} : List (DataW H) → Nat
  | [] => 0
  | d :: r => uptoBulk d + uptoBulkAll r
def uptoBulkEntries {H : Type} : List (Lit × DataW H) → Nat
  | [] => 0
  | x :: r => uptoBulkEntry x + uptoBulkEntries r
def uptoBulkEntry {H : Type} : Lit × DataW H → Nat
  | (.string bytes, d) => bytes.length + uptoBulk d + 1
  | (_, d) => uptoBulk d + 1
 end
def uptoSmall : (H : Type) → List (DataW H) → Bool := fun _ ds => decide (uptoBulkAll ds ≤ 1048576)
def OpenSpec.upto (s : _root_.Go.ChangeSpec) : _root_.Go.OpenSpec := { _root_.Go.OpenSpec.ofChange s with cond := some uptoSmall }

/-- 'bazaarlaw15.GridActs', WHERE WHAT IT READS IS OF BULK AT MOST 1048576: true; the input reads as it did. -/
def gridActsUptoRow : OpenClaim := { program := "ytimnmdeiiahakaa", sum := "c5e626fdc99df0ddfb931e9177884286cd517fc1ffa9a2214adbd5ba1e1b00a1", func := "bazaar/bazaarlaw15.GridActs", spec := "gridActs", unfollowed := true, recurses := true, apart := false, narrowed := true }
def GridActsUptoSaid : Prop := gridActsUptoRow.holds Try.pinned (OpenSpec.upto gridActsSpec)

/-- 'bazaarlaw15.GridFills', WHERE WHAT IT READS IS OF BULK AT MOST 1048576: true; the input reads as it did. -/
def gridFillsUptoRow : OpenClaim := { program := "ytimnmdeiiahakaa", sum := "c5e626fdc99df0ddfb931e9177884286cd517fc1ffa9a2214adbd5ba1e1b00a1", func := "bazaar/bazaarlaw15.GridFills", spec := "gridFills", unfollowed := true, recurses := true, apart := false, narrowed := true }
def GridFillsUptoSaid : Prop := gridFillsUptoRow.holds Try.pinned (OpenSpec.upto gridFillsSpec)

/-- 'bazaarlaw15.GridEnds', WHERE WHAT IT READS IS OF BULK AT MOST 1048576: true; the input reads as it did. -/
def gridEndsUptoRow : OpenClaim := { program := "ytimnmdeiiahakaa", sum := "c5e626fdc99df0ddfb931e9177884286cd517fc1ffa9a2214adbd5ba1e1b00a1", func := "bazaar/bazaarlaw15.GridEnds", spec := "gridEnds", apart := false, narrowed := true }
def GridEndsUptoSaid : Prop := gridEndsUptoRow.holds Try.pinned (OpenSpec.upto gridEndsSpec)

/-- 'bazaarlaw15.GridWalks', WHERE WHAT IT READS IS OF BULK AT MOST 1048576: true; the input reads as it did. -/
def gridWalksUptoRow : OpenClaim := { program := "ytimnmdeiiahakaa", sum := "c5e626fdc99df0ddfb931e9177884286cd517fc1ffa9a2214adbd5ba1e1b00a1", func := "bazaar/bazaarlaw15.GridWalks", spec := "gridWalks", unfollowed := true, recurses := true, apart := false, narrowed := true }
def GridWalksUptoSaid : Prop := gridWalksUptoRow.holds Try.pinned (OpenSpec.upto gridWalksSpec)

end Rows
end Go.Proofs.Ytimnmdeiiahakaa
