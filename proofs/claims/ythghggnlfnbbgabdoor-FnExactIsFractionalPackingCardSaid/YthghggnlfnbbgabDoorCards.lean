/-
  DERIVED. GIVEN WITH THE SEED: THE CARDS: each row of YthghggnlfnbbgabDoorRows.lean that lists a variable, with what it lists TIED to the program's text (the seventh form; the later family's looks); each row that meets fmt, with fmt's text TOLD by the authors' own Lean function (tested against real Go, not proved from fmt's source: count such statements apart). THE CARD IS WHAT COUNTS. Prove the row's statement (the work); the ties are given (YthghggnlfnbbgabDoorTie.lean); close each card by the builder's one call (the guide's Derived/Test/ToyasCard.lean, 'card_holds'). Laid BY PROGRAM, IN A SANDBOX (cutbox-door.mjs). By AI agents, Wed Nov 11 2026. No macro, syntax, notation, axiom, sorry.
-/
import Derived.Test.YthghggnlfnbbgabDoorRows
import GoSem.ClaimSeven
namespace Go.Proofs.YthghggnlfnbbgabDoor
namespace Rows

/-- THE TIED CARD OF 'laws.FnExactIsFractionalPacking'. -/
def fnExactIsFractionalPackingCard : Claim7 := { stood := { row := fnExactIsFractionalPackingRow, standIns := [], harness := (true, "05a65bf465a209d00bb653f4faa6435e394cb1e68e22118cdc1e11f931dbdc14"), looks := false }, kinds := [], alts := [], laidByText := true, laidKinds := [.data, .data], laidTests := true, laidLooks := .later }
def FnExactIsFractionalPackingCardSaid : Prop := Claim7.holds Tryd.pinned (.plain (OpenSpec.ofChange fnExactIsFractionalPackingSpec)) fnExactIsFractionalPackingCard

/-- THE SECOND FORM's CARD OF 'laws.FnExactIsFractionalPacking'. -/
def fnExactIsFractionalPackingUptoCard : Claim7 := { stood := { row := fnExactIsFractionalPackingUptoRow, standIns := [], harness := (true, "05a65bf465a209d00bb653f4faa6435e394cb1e68e22118cdc1e11f931dbdc14"), looks := false }, kinds := [], alts := [], laidByText := true, laidKinds := [.data, .data], laidTests := true, laidLooks := .later }
def FnExactIsFractionalPackingUptoCardSaid : Prop := Claim7.holds Tryd.pinned (.plain (OpenSpec.upto fnExactIsFractionalPackingSpec)) fnExactIsFractionalPackingUptoCard
end Rows
end Go.Proofs.YthghggnlfnbbgabDoor
