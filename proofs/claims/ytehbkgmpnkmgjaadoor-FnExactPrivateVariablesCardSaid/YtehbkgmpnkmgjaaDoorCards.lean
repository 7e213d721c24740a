/-
  DERIVED. GIVEN WITH THE SEED: THE CARDS: each row of YtehbkgmpnkmgjaaDoorRows.lean that lists a variable, with what it lists TIED to the program's text (the seventh form; the later family's looks); each row that meets fmt, with fmt's text TOLD by the authors' own Lean function (tested against real Go, not proved from fmt's source: count such statements apart). THE CARD IS WHAT COUNTS. Prove the row's statement (the work); the ties are given (YtehbkgmpnkmgjaaDoorTie.lean); close each card by the builder's one call (the guide's Derived/Test/ToyasCard.lean, 'card_holds'). Laid BY PROGRAM, IN A SANDBOX (cutbox-door.mjs). By AI agents, Wed Nov 11 2026. No macro, syntax, notation, axiom, sorry.
-/
import Derived.Test.YtehbkgmpnkmgjaaDoorRows
import GoSem.ClaimSeven
namespace Go.Proofs.YtehbkgmpnkmgjaaDoor
namespace Rows

/-- THE TIED CARD OF 'laws.FnExactNeighbors'. -/
def fnExactNeighborsCard : Claim7 := { stood := { row := fnExactNeighborsRow, standIns := [], harness := (true, "1b32b2e4088875a9ce4abade7f10133e03e19232fd372359a618dfc59bfdfee3"), looks := false }, kinds := [], alts := [], laidByText := true, laidKinds := [.data, .data], laidTests := true, laidLooks := .later }
def FnExactNeighborsCardSaid : Prop := Claim7.holds Tryd.pinned (.plain (OpenSpec.ofChange fnExactNeighborsSpec)) fnExactNeighborsCard

/-- THE TIED CARD OF 'laws.FnExactConnectedComponents'. -/
def fnExactConnectedComponentsCard : Claim7 := { stood := { row := fnExactConnectedComponentsRow, standIns := [], harness := (true, "1b32b2e4088875a9ce4abade7f10133e03e19232fd372359a618dfc59bfdfee3"), looks := false }, kinds := [], alts := [], laidByText := true, laidKinds := [.data, .data], laidTests := true, laidLooks := .later }
def FnExactConnectedComponentsCardSaid : Prop := Claim7.holds Tryd.pinned (.plain (OpenSpec.ofChange fnExactConnectedComponentsSpec)) fnExactConnectedComponentsCard

/-- THE TIED CARD OF 'laws.FnExactCommonVariables'. -/
def fnExactCommonVariablesCard : Claim7 := { stood := { row := fnExactCommonVariablesRow, standIns := [], harness := (true, "1b32b2e4088875a9ce4abade7f10133e03e19232fd372359a618dfc59bfdfee3"), looks := false }, kinds := [], alts := [], laidByText := true, laidKinds := [.data, .data], laidTests := true, laidLooks := .later }
def FnExactCommonVariablesCardSaid : Prop := Claim7.holds Tryd.pinned (.plain (OpenSpec.ofChange fnExactCommonVariablesSpec)) fnExactCommonVariablesCard

/-- THE TIED CARD OF 'laws.FnExactPrivateVariables'. -/
def fnExactPrivateVariablesCard : Claim7 := { stood := { row := fnExactPrivateVariablesRow, standIns := [], harness := (true, "1b32b2e4088875a9ce4abade7f10133e03e19232fd372359a618dfc59bfdfee3"), looks := false }, kinds := [], alts := [], laidByText := true, laidKinds := [.data, .data], laidTests := true, laidLooks := .later }
def FnExactPrivateVariablesCardSaid : Prop := Claim7.holds Tryd.pinned (.plain (OpenSpec.ofChange fnExactPrivateVariablesSpec)) fnExactPrivateVariablesCard

/-- THE TIED CARD OF 'laws.FnExactAtomVariables'. -/
def fnExactAtomVariablesCard : Claim7 := { stood := { row := fnExactAtomVariablesRow, standIns := [], harness := (true, "1b32b2e4088875a9ce4abade7f10133e03e19232fd372359a618dfc59bfdfee3"), looks := false }, kinds := [], alts := [], laidByText := true, laidKinds := [.data, .data], laidTests := true, laidLooks := .later }
def FnExactAtomVariablesCardSaid : Prop := Claim7.holds Tryd.pinned (.plain (OpenSpec.ofChange fnExactAtomVariablesSpec)) fnExactAtomVariablesCard

/-- THE TIED CARD OF 'laws.FnCommonVariables'. -/
def fnCommonVariablesCard : Claim7 := { stood := { row := fnCommonVariablesRow, standIns := [], harness := (true, "1b32b2e4088875a9ce4abade7f10133e03e19232fd372359a618dfc59bfdfee3"), looks := false }, kinds := [], alts := [], laidByText := true, laidKinds := [.data, .data], laidTests := true, laidLooks := .later }
def FnCommonVariablesCardSaid : Prop := Claim7.holds Tryd.pinned (.plain (OpenSpec.ofChange fnCommonVariablesSpec)) fnCommonVariablesCard

/-- THE SECOND FORM's CARD OF 'laws.FnExactNeighbors'. -/
def fnExactNeighborsUptoCard : Claim7 := { stood := { row := fnExactNeighborsUptoRow, standIns := [], harness := (true, "1b32b2e4088875a9ce4abade7f10133e03e19232fd372359a618dfc59bfdfee3"), looks := false }, kinds := [], alts := [], laidByText := true, laidKinds := [.data, .data], laidTests := true, laidLooks := .later }
def FnExactNeighborsUptoCardSaid : Prop := Claim7.holds Tryd.pinned (.plain (OpenSpec.upto fnExactNeighborsSpec)) fnExactNeighborsUptoCard

/-- THE SECOND FORM's CARD OF 'laws.FnExactConnectedComponents'. -/
def fnExactConnectedComponentsUptoCard : Claim7 := { stood := { row := fnExactConnectedComponentsUptoRow, standIns := [], harness := (true, "1b32b2e4088875a9ce4abade7f10133e03e19232fd372359a618dfc59bfdfee3"), looks := false }, kinds := [], alts := [], laidByText := true, laidKinds := [.data, .data], laidTests := true, laidLooks := .later }
def FnExactConnectedComponentsUptoCardSaid : Prop := Claim7.holds Tryd.pinned (.plain (OpenSpec.upto fnExactConnectedComponentsSpec)) fnExactConnectedComponentsUptoCard

/-- THE SECOND FORM's CARD OF 'laws.FnExactCommonVariables'. -/
def fnExactCommonVariablesUptoCard : Claim7 := { stood := { row := fnExactCommonVariablesUptoRow, standIns := [], harness := (true, "1b32b2e4088875a9ce4abade7f10133e03e19232fd372359a618dfc59bfdfee3"), looks := false }, kinds := [], alts := [], laidByText := true, laidKinds := [.data, .data], laidTests := true, laidLooks := .later }
def FnExactCommonVariablesUptoCardSaid : Prop := Claim7.holds Tryd.pinned (.plain (OpenSpec.upto fnExactCommonVariablesSpec)) fnExactCommonVariablesUptoCard

/-- THE SECOND FORM's CARD OF 'laws.FnExactPrivateVariables'. -/
def fnExactPrivateVariablesUptoCard : Claim7 := { stood := { row := fnExactPrivateVariablesUptoRow, standIns := [], harness := (true, "1b32b2e4088875a9ce4abade7f10133e03e19232fd372359a618dfc59bfdfee3"), looks := false }, kinds := [], alts := [], laidByText := true, laidKinds := [.data, .data], laidTests := true, laidLooks := .later }
def FnExactPrivateVariablesUptoCardSaid : Prop := Claim7.holds Tryd.pinned (.plain (OpenSpec.upto fnExactPrivateVariablesSpec)) fnExactPrivateVariablesUptoCard

/-- THE SECOND FORM's CARD OF 'laws.FnExactAtomVariables'. -/
def fnExactAtomVariablesUptoCard : Claim7 := { stood := { row := fnExactAtomVariablesUptoRow, standIns := [], harness := (true, "1b32b2e4088875a9ce4abade7f10133e03e19232fd372359a618dfc59bfdfee3"), looks := false }, kinds := [], alts := [], laidByText := true, laidKinds := [.data, .data], laidTests := true, laidLooks := .later }
def FnExactAtomVariablesUptoCardSaid : Prop := Claim7.holds Tryd.pinned (.plain (OpenSpec.upto fnExactAtomVariablesSpec)) fnExactAtomVariablesUptoCard

/-- THE SECOND FORM's CARD OF 'laws.FnCommonVariables'. -/
def fnCommonVariablesUptoCard : Claim7 := { stood := { row := fnCommonVariablesUptoRow, standIns := [], harness := (true, "1b32b2e4088875a9ce4abade7f10133e03e19232fd372359a618dfc59bfdfee3"), looks := false }, kinds := [], alts := [], laidByText := true, laidKinds := [.data, .data], laidTests := true, laidLooks := .later }
def FnCommonVariablesUptoCardSaid : Prop := Claim7.holds Tryd.pinned (.plain (OpenSpec.upto fnCommonVariablesSpec)) fnCommonVariablesUptoCard
end Rows
end Go.Proofs.YtehbkgmpnkmgjaaDoor
