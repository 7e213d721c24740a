/-
  DERIVED. GIVEN WITH THE SEED: THE CARDS: each row of YtffhfnkcbgbliaaDoorRows.lean that lists a variable, with what it lists TIED to the program's text (the seventh form; the later family's looks); each row that meets fmt, with fmt's text TOLD by the authors' own Lean function (tested against real Go, not proved from fmt's source: count such statements apart). THE CARD IS WHAT COUNTS. Prove the row's statement (the work); the ties are given (YtffhfnkcbgbliaaDoorTie.lean); close each card by the builder's one call (the guide's Derived/Test/ToyasCard.lean, 'card_holds'). Laid BY PROGRAM, IN A SANDBOX (cutbox-door.mjs). By AI agents, Wed Nov 11 2026. No macro, syntax, notation, axiom, sorry.
-/
import Derived.Test.YtffhfnkcbgbliaaDoorRows
import GoSem.ClaimSeven
namespace Go.Proofs.YtffhfnkcbgbliaaDoor
namespace Rows

/-- THE TIED CARD OF 'laws.FnExactIsValidVarRelation'. -/
def fnExactIsValidVarRelationCard : Claim7 := { stood := { row := fnExactIsValidVarRelationRow, standIns := [], harness := (true, "d4f2709a10c42ed0731a8f5e1313cccd44fd55b3a08f3680bfbfd9be46e02666"), looks := false }, kinds := [], alts := [], laidByText := true, laidKinds := [.data, .data], laidTests := true, laidLooks := .later }
def FnExactIsValidVarRelationCardSaid : Prop := Claim7.holds Tryd.pinned (.plain (OpenSpec.ofChange fnExactIsValidVarRelationSpec)) fnExactIsValidVarRelationCard

/-- THE TIED CARD OF 'laws.FnExactFormatRelation'. -/
def fnExactFormatRelationCard : Claim7 := { stood := { row := fnExactFormatRelationRow, standIns := [], harness := (true, "d4f2709a10c42ed0731a8f5e1313cccd44fd55b3a08f3680bfbfd9be46e02666"), looks := false }, kinds := [], alts := [], laidByText := true, laidKinds := [.data, .data, .data], laidTests := true, laidLooks := .later }
def FnExactFormatRelationCardSaid : Prop := Claim7.holds Tryd.pinned (.plain (OpenSpec.ofChange fnExactFormatRelationSpec)) fnExactFormatRelationCard

/-- THE TIED CARD OF 'laws.FnExactConnectedComponents'. -/
def fnExactConnectedComponentsCard : Claim7 := { stood := { row := fnExactConnectedComponentsRow, standIns := [], harness := (true, "d4f2709a10c42ed0731a8f5e1313cccd44fd55b3a08f3680bfbfd9be46e02666"), looks := false }, kinds := [], alts := [], laidByText := true, laidKinds := [.data, .data], laidTests := true, laidLooks := .later }
def FnExactConnectedComponentsCardSaid : Prop := Claim7.holds Tryd.pinned (.plain (OpenSpec.ofChange fnExactConnectedComponentsSpec)) fnExactConnectedComponentsCard

/-- THE SECOND FORM's CARD OF 'laws.FnExactIsValidVarRelation'. -/
def fnExactIsValidVarRelationUptoCard : Claim7 := { stood := { row := fnExactIsValidVarRelationUptoRow, standIns := [], harness := (true, "d4f2709a10c42ed0731a8f5e1313cccd44fd55b3a08f3680bfbfd9be46e02666"), looks := false }, kinds := [], alts := [], laidByText := true, laidKinds := [.data, .data], laidTests := true, laidLooks := .later }
def FnExactIsValidVarRelationUptoCardSaid : Prop := Claim7.holds Tryd.pinned (.plain (OpenSpec.upto fnExactIsValidVarRelationSpec)) fnExactIsValidVarRelationUptoCard

/-- THE SECOND FORM's CARD OF 'laws.FnExactFormatRelation'. -/
def fnExactFormatRelationUptoCard : Claim7 := { stood := { row := fnExactFormatRelationUptoRow, standIns := [], harness := (true, "d4f2709a10c42ed0731a8f5e1313cccd44fd55b3a08f3680bfbfd9be46e02666"), looks := false }, kinds := [], alts := [], laidByText := true, laidKinds := [.data, .data, .data], laidTests := true, laidLooks := .later }
def FnExactFormatRelationUptoCardSaid : Prop := Claim7.holds Tryd.pinned (.plain (OpenSpec.upto fnExactFormatRelationSpec)) fnExactFormatRelationUptoCard

/-- THE SECOND FORM's CARD OF 'laws.FnExactConnectedComponents'. -/
def fnExactConnectedComponentsUptoCard : Claim7 := { stood := { row := fnExactConnectedComponentsUptoRow, standIns := [], harness := (true, "d4f2709a10c42ed0731a8f5e1313cccd44fd55b3a08f3680bfbfd9be46e02666"), looks := false }, kinds := [], alts := [], laidByText := true, laidKinds := [.data, .data], laidTests := true, laidLooks := .later }
def FnExactConnectedComponentsUptoCardSaid : Prop := Claim7.holds Tryd.pinned (.plain (OpenSpec.upto fnExactConnectedComponentsSpec)) fnExactConnectedComponentsUptoCard
end Rows
end Go.Proofs.YtffhfnkcbgbliaaDoor
