/-
  DERIVED. GIVEN WITH THE SEED: THE CARDS: each row of YtgpdnleooeekbaaDoorRows.lean that lists a variable, with what it lists TIED to the program's text (the seventh form; the later family's looks); each row that meets fmt, with fmt's text TOLD by the authors' own Lean function (tested against real Go, not proved from fmt's source: count such statements apart). THE CARD IS WHAT COUNTS. Prove the row's statement (the work); the ties are given (YtgpdnleooeekbaaDoorTie.lean); close each card by the builder's one call (the guide's Derived/Test/ToyasCard.lean, 'card_holds'). Laid BY PROGRAM, IN A SANDBOX (cutbox-door.mjs). By AI agents, Wed Nov 11 2026. No macro, syntax, notation, axiom, sorry.
-/
import Derived.Test.YtgpdnleooeekbaaDoorRows
import GoSem.ClaimSeven
namespace Go.Proofs.YtgpdnleooeekbaaDoor
namespace Rows

/-- THE TIED CARD OF 'laws.FnRationalFormat'. -/
def fnRationalFormatCard : Claim7 := { stood := { row := fnRationalFormatRow, standIns := [], harness := (true, "f4a6206c0296611151e3dfcf572820323bfbba6652fc5bf0bc7cc4afc4aa77f4"), looks := true }, kinds := [], alts := [], laidByText := true, laidKinds := [.data, .data, .data, .data, .sentinel, .sentinel, .pinned], laidTests := true, laidLooks := .later }
def FnRationalFormatCardSaid : Prop := Claim7.holds Tryd.pinned (.plain (OpenSpec.ofChange fnRationalFormatSpec)) fnRationalFormatCard

/-- THE TIED CARD OF 'laws.FnExactIsFractionalPacking'. -/
def fnExactIsFractionalPackingCard : Claim7 := { stood := { row := fnExactIsFractionalPackingRow, standIns := [], harness := (true, "f4a6206c0296611151e3dfcf572820323bfbba6652fc5bf0bc7cc4afc4aa77f4"), looks := true }, kinds := [], alts := [], laidByText := true, laidKinds := [.data, .data], laidTests := true, laidLooks := .later }
def FnExactIsFractionalPackingCardSaid : Prop := Claim7.holds Tryd.pinned (.plain (OpenSpec.ofChange fnExactIsFractionalPackingSpec)) fnExactIsFractionalPackingCard

/-- THE TIED CARD OF 'laws.FnExactFormatRationals'. -/
def fnExactFormatRationalsCard : Claim7 := { stood := { row := fnExactFormatRationalsRow, standIns := [], harness := (true, "f4a6206c0296611151e3dfcf572820323bfbba6652fc5bf0bc7cc4afc4aa77f4"), looks := true }, kinds := [], alts := [], laidByText := true, laidKinds := [.data, .data, .data], laidTests := true, laidLooks := .later }
def FnExactFormatRationalsCardSaid : Prop := Claim7.holds Tryd.pinned (.plain (OpenSpec.ofChange fnExactFormatRationalsSpec)) fnExactFormatRationalsCard

/-- THE TIED CARD OF 'laws.FnExactParseRationals'. -/
def fnExactParseRationalsCard : Claim7 := { stood := { row := fnExactParseRationalsRow, standIns := [], harness := (true, "f4a6206c0296611151e3dfcf572820323bfbba6652fc5bf0bc7cc4afc4aa77f4"), looks := true }, kinds := [], alts := [], laidByText := true, laidKinds := [.data, .data, .data, .data, .sentinel, .sentinel, .pinned], laidTests := true, laidLooks := .later }
def FnExactParseRationalsCardSaid : Prop := Claim7.holds Tryd.pinned (.plain (OpenSpec.ofChange fnExactParseRationalsSpec)) fnExactParseRationalsCard

/-- THE SECOND FORM's CARD OF 'laws.FnRationalFormat'. -/
def fnRationalFormatUptoCard : Claim7 := { stood := { row := fnRationalFormatUptoRow, standIns := [], harness := (true, "f4a6206c0296611151e3dfcf572820323bfbba6652fc5bf0bc7cc4afc4aa77f4"), looks := true }, kinds := [], alts := [], laidByText := true, laidKinds := [.data, .data, .data, .data, .sentinel, .sentinel, .pinned], laidTests := true, laidLooks := .later }
def FnRationalFormatUptoCardSaid : Prop := Claim7.holds Tryd.pinned (.plain (OpenSpec.upto fnRationalFormatSpec)) fnRationalFormatUptoCard

/-- THE SECOND FORM's CARD OF 'laws.FnExactIsFractionalPacking'. -/
def fnExactIsFractionalPackingUptoCard : Claim7 := { stood := { row := fnExactIsFractionalPackingUptoRow, standIns := [], harness := (true, "f4a6206c0296611151e3dfcf572820323bfbba6652fc5bf0bc7cc4afc4aa77f4"), looks := true }, kinds := [], alts := [], laidByText := true, laidKinds := [.data, .data], laidTests := true, laidLooks := .later }
def FnExactIsFractionalPackingUptoCardSaid : Prop := Claim7.holds Tryd.pinned (.plain (OpenSpec.upto fnExactIsFractionalPackingSpec)) fnExactIsFractionalPackingUptoCard

/-- THE SECOND FORM's CARD OF 'laws.FnExactFormatRationals'. -/
def fnExactFormatRationalsUptoCard : Claim7 := { stood := { row := fnExactFormatRationalsUptoRow, standIns := [], harness := (true, "f4a6206c0296611151e3dfcf572820323bfbba6652fc5bf0bc7cc4afc4aa77f4"), looks := true }, kinds := [], alts := [], laidByText := true, laidKinds := [.data, .data, .data], laidTests := true, laidLooks := .later }
def FnExactFormatRationalsUptoCardSaid : Prop := Claim7.holds Tryd.pinned (.plain (OpenSpec.upto fnExactFormatRationalsSpec)) fnExactFormatRationalsUptoCard

/-- THE SECOND FORM's CARD OF 'laws.FnExactParseRationals'. -/
def fnExactParseRationalsUptoCard : Claim7 := { stood := { row := fnExactParseRationalsUptoRow, standIns := [], harness := (true, "f4a6206c0296611151e3dfcf572820323bfbba6652fc5bf0bc7cc4afc4aa77f4"), looks := true }, kinds := [], alts := [], laidByText := true, laidKinds := [.data, .data, .data, .data, .sentinel, .sentinel, .pinned], laidTests := true, laidLooks := .later }
def FnExactParseRationalsUptoCardSaid : Prop := Claim7.holds Tryd.pinned (.plain (OpenSpec.upto fnExactParseRationalsSpec)) fnExactParseRationalsUptoCard
end Rows
end Go.Proofs.YtgpdnleooeekbaaDoor
