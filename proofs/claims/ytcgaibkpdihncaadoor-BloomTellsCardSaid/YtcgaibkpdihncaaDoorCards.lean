/-
  DERIVED. GIVEN WITH THE SEED: THE CARDS: each row of YtcgaibkpdihncaaDoorRows.lean that lists a variable, with what it lists TIED to the program's text (the seventh form; the later family's looks); each row that meets fmt, with fmt's text TOLD by the authors' own Lean function (tested against real Go, not proved from fmt's source: count such statements apart). THE CARD IS WHAT COUNTS. Prove the row's statement (the work); the ties are given (YtcgaibkpdihncaaDoorTie.lean); close each card by the builder's one call (the guide's Derived/Test/ToyasCard.lean, 'card_holds'). Laid BY PROGRAM, IN A SANDBOX (cutbox-door.mjs). By AI agents, Wed Nov 11 2026. No macro, syntax, notation, axiom, sorry.
-/
import Derived.Test.YtcgaibkpdihncaaDoorRows
import GoSem.ClaimSeven
namespace Go.Proofs.YtcgaibkpdihncaaDoor
namespace Rows

/-- THE TIED CARD OF 'bazaarlaw14.BloomTells'. -/
def bloomTellsCard : Claim7 := { stood := { row := bloomTellsRow, standIns := [], harness := (true, "2b84636bcb1f42c6901fbc685229414d53211c0b11c42ea0a877f2439631f556"), looks := false }, kinds := [], alts := [], laidByText := true, laidKinds := [.data], laidTests := true, laidLooks := .later }
def BloomTellsCardSaid : Prop := Claim7.holds Tryd.pinned (.plain (OpenSpec.ofChange bloomTellsSpec)) bloomTellsCard

/-- THE TIED CARD OF 'bazaarlaw14.BloomHas'. -/
def bloomHasCard : Claim7 := { stood := { row := bloomHasRow, standIns := [], harness := (true, "2b84636bcb1f42c6901fbc685229414d53211c0b11c42ea0a877f2439631f556"), looks := false }, kinds := [], alts := [], laidByText := true, laidKinds := [.data], laidTests := true, laidLooks := .later }
def BloomHasCardSaid : Prop := Claim7.holds Tryd.pinned (.plain (OpenSpec.ofChange bloomHasSpec)) bloomHasCard

/-- THE TIED CARD OF 'bazaarlaw14.BloomUnion'. -/
def bloomUnionCard : Claim7 := { stood := { row := bloomUnionRow, standIns := [], harness := (true, "2b84636bcb1f42c6901fbc685229414d53211c0b11c42ea0a877f2439631f556"), looks := false }, kinds := [], alts := [], laidByText := true, laidKinds := [.data], laidTests := true, laidLooks := .later }
def BloomUnionCardSaid : Prop := Claim7.holds Tryd.pinned (.plain (OpenSpec.ofChange bloomUnionSpec)) bloomUnionCard

/-- THE TIED CARD OF 'bazaarlaw14.BloomOne'. -/
def bloomOneCard : Claim7 := { stood := { row := bloomOneRow, standIns := [], harness := (true, "2b84636bcb1f42c6901fbc685229414d53211c0b11c42ea0a877f2439631f556"), looks := false }, kinds := [], alts := [], laidByText := true, laidKinds := [.data], laidTests := true, laidLooks := .later }
def BloomOneCardSaid : Prop := Claim7.holds Tryd.pinned (.plain (OpenSpec.ofChange bloomOneSpec)) bloomOneCard

/-- THE SECOND FORM's CARD OF 'bazaarlaw14.BloomTells'. -/
def bloomTellsUptoCard : Claim7 := { stood := { row := bloomTellsUptoRow, standIns := [], harness := (true, "2b84636bcb1f42c6901fbc685229414d53211c0b11c42ea0a877f2439631f556"), looks := false }, kinds := [], alts := [], laidByText := true, laidKinds := [.data], laidTests := true, laidLooks := .later }
def BloomTellsUptoCardSaid : Prop := Claim7.holds Tryd.pinned (.plain (OpenSpec.upto bloomTellsSpec)) bloomTellsUptoCard

/-- THE SECOND FORM's CARD OF 'bazaarlaw14.BloomHas'. -/
def bloomHasUptoCard : Claim7 := { stood := { row := bloomHasUptoRow, standIns := [], harness := (true, "2b84636bcb1f42c6901fbc685229414d53211c0b11c42ea0a877f2439631f556"), looks := false }, kinds := [], alts := [], laidByText := true, laidKinds := [.data], laidTests := true, laidLooks := .later }
def BloomHasUptoCardSaid : Prop := Claim7.holds Tryd.pinned (.plain (OpenSpec.upto bloomHasSpec)) bloomHasUptoCard

/-- THE SECOND FORM's CARD OF 'bazaarlaw14.BloomUnion'. -/
def bloomUnionUptoCard : Claim7 := { stood := { row := bloomUnionUptoRow, standIns := [], harness := (true, "2b84636bcb1f42c6901fbc685229414d53211c0b11c42ea0a877f2439631f556"), looks := false }, kinds := [], alts := [], laidByText := true, laidKinds := [.data], laidTests := true, laidLooks := .later }
def BloomUnionUptoCardSaid : Prop := Claim7.holds Tryd.pinned (.plain (OpenSpec.upto bloomUnionSpec)) bloomUnionUptoCard

/-- THE SECOND FORM's CARD OF 'bazaarlaw14.BloomOne'. -/
def bloomOneUptoCard : Claim7 := { stood := { row := bloomOneUptoRow, standIns := [], harness := (true, "2b84636bcb1f42c6901fbc685229414d53211c0b11c42ea0a877f2439631f556"), looks := false }, kinds := [], alts := [], laidByText := true, laidKinds := [.data], laidTests := true, laidLooks := .later }
def BloomOneUptoCardSaid : Prop := Claim7.holds Tryd.pinned (.plain (OpenSpec.upto bloomOneSpec)) bloomOneUptoCard
end Rows
end Go.Proofs.YtcgaibkpdihncaaDoor
