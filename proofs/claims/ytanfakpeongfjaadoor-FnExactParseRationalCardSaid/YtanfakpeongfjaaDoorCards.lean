/-
  DERIVED. GIVEN WITH THE SEED: THE CARDS: each row of YtanfakpeongfjaaDoorRows.lean that lists a variable, with what it lists TIED to the program's text (the seventh form; the later family's looks); each row that meets fmt, with fmt's text TOLD by the authors' own Lean function (tested against real Go, not proved from fmt's source: count such statements apart). THE CARD IS WHAT COUNTS. Prove the row's statement (the work); the ties are given (YtanfakpeongfjaaDoorTie.lean); close each card by the builder's one call (the guide's Derived/Test/ToyasCard.lean, 'card_holds'). Laid BY PROGRAM, IN A SANDBOX (cutbox-door.mjs). By AI agents, Wed Nov 11 2026. No macro, syntax, notation, axiom, sorry.
-/
import Derived.Test.YtanfakpeongfjaaDoorRows
import GoSem.ClaimSeven
namespace Go.Proofs.YtanfakpeongfjaaDoor
namespace Rows

/-- THE TIED CARD OF 'laws.FnExactParseRational'. -/
def fnExactParseRationalCard : Claim7 := { stood := { row := fnExactParseRationalRow, standIns := [], harness := (true, "2faf017dd48e1af96c2edc1a63ebeab89fda7517460b45ac1b8a816ea591a33f"), looks := true }, kinds := [], alts := [], laidByText := true, laidKinds := [.data, .data, .data, .sentinel, .sentinel], laidTests := true, laidLooks := .later }
def FnExactParseRationalCardSaid : Prop := Claim7.holds Tryd.pinned (.plain (OpenSpec.ofChange fnExactParseRationalSpec)) fnExactParseRationalCard

/-- THE SECOND FORM's CARD OF 'laws.FnExactParseRational'. -/
def fnExactParseRationalUptoCard : Claim7 := { stood := { row := fnExactParseRationalUptoRow, standIns := [], harness := (true, "2faf017dd48e1af96c2edc1a63ebeab89fda7517460b45ac1b8a816ea591a33f"), looks := true }, kinds := [], alts := [], laidByText := true, laidKinds := [.data, .data, .data, .sentinel, .sentinel], laidTests := true, laidLooks := .later }
def FnExactParseRationalUptoCardSaid : Prop := Claim7.holds Tryd.pinned (.plain (OpenSpec.upto fnExactParseRationalSpec)) fnExactParseRationalUptoCard
end Rows
end Go.Proofs.YtanfakpeongfjaaDoor
