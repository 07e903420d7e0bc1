/-
  DERIVED. GIVEN WITH THE SEED: THE CARDS: each row of YthkaadcgiplolaaDoorRows.lean that lists a variable, with what it lists TIED to the program's text (the seventh form; the later family's looks); each row that meets fmt, with fmt's text TOLD by the authors' own Lean function (tested against real Go, not proved from fmt's source: count such statements apart). THE CARD IS WHAT COUNTS. Prove the row's statement (the work); the ties are given (YthkaadcgiplolaaDoorTie.lean); close each card by the builder's one call (the guide's Derived/Test/ToyasCard.lean, 'card_holds'). Laid BY PROGRAM, IN A SANDBOX (cutbox-door.mjs). By AI agents, Wed Nov 11 2026. No macro, syntax, notation, axiom, sorry.
-/
import Derived.Test.YthkaadcgiplolaaDoorRows
import GoSem.ClaimSeven
namespace Go.Proofs.YthkaadcgiplolaaDoor
namespace Rows

/-- THE TIED CARD OF 'bazaarlaw11.KeyTells'. -/
def keyTellsCard : Claim7 := { stood := { row := keyTellsRow, standIns := [], harness := (true, "45d8d863551fa269746d0ba7849eec0be95374a555eb9681d8e27b38edf8b361"), looks := false }, kinds := [], alts := [], laidByText := true, laidKinds := [.data, .data, .data], laidTests := true, laidLooks := .later }
def KeyTellsCardSaid : Prop := Claim7.holds Tryd.pinned (.plain (OpenSpec.ofChange keyTellsSpec)) keyTellsCard

/-- THE TIED CARD OF 'bazaarlaw11.KeyBack'. -/
def keyBackCard : Claim7 := { stood := { row := keyBackRow, standIns := [], harness := (true, "45d8d863551fa269746d0ba7849eec0be95374a555eb9681d8e27b38edf8b361"), looks := false }, kinds := [], alts := [], laidByText := true, laidKinds := [.data, .data, .data], laidTests := true, laidLooks := .later }
def KeyBackCardSaid : Prop := Claim7.holds Tryd.pinned (.plain (OpenSpec.ofChange keyBackSpec)) keyBackCard

/-- THE TIED CARD OF 'bazaarlaw11.KeyOdd'. -/
def keyOddCard : Claim7 := { stood := { row := keyOddRow, standIns := [], harness := (true, "45d8d863551fa269746d0ba7849eec0be95374a555eb9681d8e27b38edf8b361"), looks := false }, kinds := [], alts := [], laidByText := true, laidKinds := [.data, .data, .data], laidTests := true, laidLooks := .later }
def KeyOddCardSaid : Prop := Claim7.holds Tryd.pinned (.plain (OpenSpec.ofChange keyOddSpec)) keyOddCard

/-- THE TIED CARD OF 'bazaarlaw11.KeyOrder'. -/
def keyOrderCard : Claim7 := { stood := { row := keyOrderRow, standIns := [], harness := (true, "45d8d863551fa269746d0ba7849eec0be95374a555eb9681d8e27b38edf8b361"), looks := false }, kinds := [], alts := [], laidByText := true, laidKinds := [.data, .data, .data], laidTests := true, laidLooks := .later }
def KeyOrderCardSaid : Prop := Claim7.holds Tryd.pinned (.plain (OpenSpec.ofChange keyOrderSpec)) keyOrderCard

/-- THE TIED CARD OF 'bazaarlaw11.KeyVips'. -/
def keyVipsCard : Claim7 := { stood := { row := keyVipsRow, standIns := [], harness := (true, "45d8d863551fa269746d0ba7849eec0be95374a555eb9681d8e27b38edf8b361"), looks := false }, kinds := [], alts := [], laidByText := true, laidKinds := [.data, .data, .data], laidTests := true, laidLooks := .later }
def KeyVipsCardSaid : Prop := Claim7.holds Tryd.pinned (.plain (OpenSpec.ofChange keyVipsSpec)) keyVipsCard

/-- THE SECOND FORM's CARD OF 'bazaarlaw11.KeyTells'. -/
def keyTellsUptoCard : Claim7 := { stood := { row := keyTellsUptoRow, standIns := [], harness := (true, "45d8d863551fa269746d0ba7849eec0be95374a555eb9681d8e27b38edf8b361"), looks := false }, kinds := [], alts := [], laidByText := true, laidKinds := [.data, .data, .data], laidTests := true, laidLooks := .later }
def KeyTellsUptoCardSaid : Prop := Claim7.holds Tryd.pinned (.plain (OpenSpec.upto keyTellsSpec)) keyTellsUptoCard

/-- THE SECOND FORM's CARD OF 'bazaarlaw11.KeyBack'. -/
def keyBackUptoCard : Claim7 := { stood := { row := keyBackUptoRow, standIns := [], harness := (true, "45d8d863551fa269746d0ba7849eec0be95374a555eb9681d8e27b38edf8b361"), looks := false }, kinds := [], alts := [], laidByText := true, laidKinds := [.data, .data, .data], laidTests := true, laidLooks := .later }
def KeyBackUptoCardSaid : Prop := Claim7.holds Tryd.pinned (.plain (OpenSpec.upto keyBackSpec)) keyBackUptoCard

/-- THE SECOND FORM's CARD OF 'bazaarlaw11.KeyOdd'. -/
def keyOddUptoCard : Claim7 := { stood := { row := keyOddUptoRow, standIns := [], harness := (true, "45d8d863551fa269746d0ba7849eec0be95374a555eb9681d8e27b38edf8b361"), looks := false }, kinds := [], alts := [], laidByText := true, laidKinds := [.data, .data, .data], laidTests := true, laidLooks := .later }
def KeyOddUptoCardSaid : Prop := Claim7.holds Tryd.pinned (.plain (OpenSpec.upto keyOddSpec)) keyOddUptoCard

/-- THE SECOND FORM's CARD OF 'bazaarlaw11.KeyOrder'. -/
def keyOrderUptoCard : Claim7 := { stood := { row := keyOrderUptoRow, standIns := [], harness := (true, "45d8d863551fa269746d0ba7849eec0be95374a555eb9681d8e27b38edf8b361"), looks := false }, kinds := [], alts := [], laidByText := true, laidKinds := [.data, .data, .data], laidTests := true, laidLooks := .later }
def KeyOrderUptoCardSaid : Prop := Claim7.holds Tryd.pinned (.plain (OpenSpec.upto keyOrderSpec)) keyOrderUptoCard

/-- THE SECOND FORM's CARD OF 'bazaarlaw11.KeyVips'. -/
def keyVipsUptoCard : Claim7 := { stood := { row := keyVipsUptoRow, standIns := [], harness := (true, "45d8d863551fa269746d0ba7849eec0be95374a555eb9681d8e27b38edf8b361"), looks := false }, kinds := [], alts := [], laidByText := true, laidKinds := [.data, .data, .data], laidTests := true, laidLooks := .later }
def KeyVipsUptoCardSaid : Prop := Claim7.holds Tryd.pinned (.plain (OpenSpec.upto keyVipsSpec)) keyVipsUptoCard
end Rows
end Go.Proofs.YthkaadcgiplolaaDoor
