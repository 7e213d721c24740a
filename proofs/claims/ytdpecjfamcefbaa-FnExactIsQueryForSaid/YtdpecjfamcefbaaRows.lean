/-
  No cell of these rows narrows 'for every input' (looked for: loops, veiled, ifaces, maps, wideKeys, modest, calm, conditions, laid).
  DERIVED. THE GIVEN ROWS OF THIS SEAT. 10 by the template 'for every input the law returns true; each argument reads behind the call as it read before'; 0 by the template 'total and deterministic' (their statements: YtdpecjfamcefbaaTotals.lean).
  GIVEN WITH THE SEED: the statements are not yours to turn. If you find one false, say at which input.
  Laid BY PROGRAM, IN A SANDBOX (cutbox-rows.mjs): the forced cells as the released guide's own fill.sh prints them over the translation 3b14e435cb3fb38c… (all of the seat's roots in one cut). By AI agents, Wed Nov 11 2026. No macro, syntax, notation, axiom, sorry.
-/
import Derived.Test.YtdpecjfamcefbaaChecked
import GoSem.Claim
import GoSem.ClaimJoined
import GoSem.ClaimMapViews
import Derived.JoinedTies
import Derived.KernelRfl
namespace Go.Proofs.Ytdpecjfamcefbaa
/- THE CELL 'sum', in the pinned program and in every row, IS THE sha256 OF THE DUMP (.gsa) THAT YtdpecjfamcefbaaProg.lean LOADS. Nothing in Lean hashes anything: it is a label: what it is worth is what the hold of that sum in a sandbox is worth. -/
noncomputable def Try.pinned : Pinned := { name := "ytdpecjfamcefbaa", sum := "3b14e435cb3fb38c4b47fe658f315422bcb627b8c8379965ae8ac2f308e4846a", checked := Try.checked }
namespace Rows
def none {H : Type} : Left H := { results := [], args := [] }

/-- 'laws.FnExactIsValidDatabase': WHATEVER THE INPUT: true; the input reads as it did. -/
def fnExactIsValidDatabaseSpec : ChangeSpec := { name := "fnExactIsValidDatabase", fn := fun _ => fun
  | [d] => { results := [.lit (.bool true)], args := [d] }
  | _ => none }
def fnExactIsValidDatabaseRow : OpenClaim := { program := "ytdpecjfamcefbaa", sum := "3b14e435cb3fb38c4b47fe658f315422bcb627b8c8379965ae8ac2f308e4846a", func := "loop.example/g01917/laws.FnExactIsValidDatabase", spec := "fnExactIsValidDatabase", apart := false }
def FnExactIsValidDatabaseSaid : Prop := fnExactIsValidDatabaseRow.holds Try.pinned (OpenSpec.ofChange fnExactIsValidDatabaseSpec)

/-- ITS FALSE NEIGHBOUR: 'it returns false'. Refute it at one input. -/
def fnExactIsValidDatabaseWrong : ChangeSpec := { name := "fnExactIsValidDatabase", fn := fun _ => fun
  | [d] => { results := [.lit (.bool false)], args := [d] }
  | _ => none }
def FnExactIsValidDatabaseWrongFalsely : Prop := fnExactIsValidDatabaseRow.holds Try.pinned (OpenSpec.ofChange fnExactIsValidDatabaseWrong)

/-- 'laws.FnExactLookupRelation': WHATEVER THE INPUT: true; the input reads as it did. -/
def fnExactLookupRelationSpec : ChangeSpec := { name := "fnExactLookupRelation", fn := fun _ => fun
  | [d1, d2] => { results := [.lit (.bool true)], args := [d1, d2] }
  | _ => none }
def fnExactLookupRelationRow : OpenClaim := { program := "ytdpecjfamcefbaa", sum := "3b14e435cb3fb38c4b47fe658f315422bcb627b8c8379965ae8ac2f308e4846a", func := "loop.example/g01917/laws.FnExactLookupRelation", spec := "fnExactLookupRelation", unfollowed := true, recurses := true, apart := false }
def FnExactLookupRelationSaid : Prop := fnExactLookupRelationRow.holds Try.pinned (OpenSpec.ofChange fnExactLookupRelationSpec)

/-- ITS FALSE NEIGHBOUR: 'it returns false'. Refute it at one input. -/
def fnExactLookupRelationWrong : ChangeSpec := { name := "fnExactLookupRelation", fn := fun _ => fun
  | [d1, d2] => { results := [.lit (.bool false)], args := [d1, d2] }
  | _ => none }
def FnExactLookupRelationWrongFalsely : Prop := fnExactLookupRelationRow.holds Try.pinned (OpenSpec.ofChange fnExactLookupRelationWrong)

/-- 'laws.FnExactSetRelation': WHATEVER THE INPUT: true; the input reads as it did. -/
def fnExactSetRelationSpec : ChangeSpec := { name := "fnExactSetRelation", fn := fun _ => fun
  | [d1, d2, d3] => { results := [.lit (.bool true)], args := [d1, d2, d3] }
  | _ => none }
def fnExactSetRelationRow : OpenClaim := { program := "ytdpecjfamcefbaa", sum := "3b14e435cb3fb38c4b47fe658f315422bcb627b8c8379965ae8ac2f308e4846a", func := "loop.example/g01917/laws.FnExactSetRelation", spec := "fnExactSetRelation", unfollowed := true, recurses := true, apart := false }
def FnExactSetRelationSaid : Prop := fnExactSetRelationRow.holds Try.pinned (OpenSpec.ofChange fnExactSetRelationSpec)

/-- ITS FALSE NEIGHBOUR: 'it returns false'. Refute it at one input. -/
def fnExactSetRelationWrong : ChangeSpec := { name := "fnExactSetRelation", fn := fun _ => fun
  | [d1, d2, d3] => { results := [.lit (.bool false)], args := [d1, d2, d3] }
  | _ => none }
def FnExactSetRelationWrongFalsely : Prop := fnExactSetRelationRow.holds Try.pinned (OpenSpec.ofChange fnExactSetRelationWrong)

/-- 'laws.FnExactEqualDatabases': WHATEVER THE INPUT: true; the input reads as it did. -/
def fnExactEqualDatabasesSpec : ChangeSpec := { name := "fnExactEqualDatabases", fn := fun _ => fun
  | [d1, d2] => { results := [.lit (.bool true)], args := [d1, d2] }
  | _ => none }
def fnExactEqualDatabasesRow : OpenClaim := { program := "ytdpecjfamcefbaa", sum := "3b14e435cb3fb38c4b47fe658f315422bcb627b8c8379965ae8ac2f308e4846a", func := "loop.example/g01917/laws.FnExactEqualDatabases", spec := "fnExactEqualDatabases", unfollowed := true, recurses := true, apart := false }
def FnExactEqualDatabasesSaid : Prop := fnExactEqualDatabasesRow.holds Try.pinned (OpenSpec.ofChange fnExactEqualDatabasesSpec)

/-- ITS FALSE NEIGHBOUR: 'it returns false'. Refute it at one input. -/
def fnExactEqualDatabasesWrong : ChangeSpec := { name := "fnExactEqualDatabases", fn := fun _ => fun
  | [d1, d2] => { results := [.lit (.bool false)], args := [d1, d2] }
  | _ => none }
def FnExactEqualDatabasesWrongFalsely : Prop := fnExactEqualDatabasesRow.holds Try.pinned (OpenSpec.ofChange fnExactEqualDatabasesWrong)

/-- 'laws.FnExactIsValidQuery': WHATEVER THE INPUT: true; the input reads as it did. -/
def fnExactIsValidQuerySpec : ChangeSpec := { name := "fnExactIsValidQuery", fn := fun _ => fun
  | [d] => { results := [.lit (.bool true)], args := [d] }
  | _ => none }
def fnExactIsValidQueryRow : OpenClaim := { program := "ytdpecjfamcefbaa", sum := "3b14e435cb3fb38c4b47fe658f315422bcb627b8c8379965ae8ac2f308e4846a", func := "loop.example/g01917/laws.FnExactIsValidQuery", spec := "fnExactIsValidQuery", unfollowed := true, recurses := true, apart := false }
def FnExactIsValidQuerySaid : Prop := fnExactIsValidQueryRow.holds Try.pinned (OpenSpec.ofChange fnExactIsValidQuerySpec)

/-- ITS FALSE NEIGHBOUR: 'it returns false'. Refute it at one input. -/
def fnExactIsValidQueryWrong : ChangeSpec := { name := "fnExactIsValidQuery", fn := fun _ => fun
  | [d] => { results := [.lit (.bool false)], args := [d] }
  | _ => none }
def FnExactIsValidQueryWrongFalsely : Prop := fnExactIsValidQueryRow.holds Try.pinned (OpenSpec.ofChange fnExactIsValidQueryWrong)

/-- 'laws.FnExactIsQueryFor': WHATEVER THE INPUT: true; the input reads as it did. -/
def fnExactIsQueryForSpec : ChangeSpec := { name := "fnExactIsQueryFor", fn := fun _ => fun
  | [d1, d2] => { results := [.lit (.bool true)], args := [d1, d2] }
  | _ => none }
def fnExactIsQueryForRow : OpenClaim := { program := "ytdpecjfamcefbaa", sum := "3b14e435cb3fb38c4b47fe658f315422bcb627b8c8379965ae8ac2f308e4846a", func := "loop.example/g01917/laws.FnExactIsQueryFor", spec := "fnExactIsQueryFor", unfollowed := true, recurses := true, apart := false }
def FnExactIsQueryForSaid : Prop := fnExactIsQueryForRow.holds Try.pinned (OpenSpec.ofChange fnExactIsQueryForSpec)

/-- ITS FALSE NEIGHBOUR: 'it returns false'. Refute it at one input. -/
def fnExactIsQueryForWrong : ChangeSpec := { name := "fnExactIsQueryFor", fn := fun _ => fun
  | [d1, d2] => { results := [.lit (.bool false)], args := [d1, d2] }
  | _ => none }
def FnExactIsQueryForWrongFalsely : Prop := fnExactIsQueryForRow.holds Try.pinned (OpenSpec.ofChange fnExactIsQueryForWrong)

/-- 'laws.FnExactVariableName': WHATEVER THE INPUT: true; the input reads as it did. -/
def fnExactVariableNameSpec : ChangeSpec := { name := "fnExactVariableName", fn := fun _ => fun
  | [d] => { results := [.lit (.bool true)], args := [d] }
  | _ => none }
def fnExactVariableNameRow : OpenClaim := { program := "ytdpecjfamcefbaa", sum := "3b14e435cb3fb38c4b47fe658f315422bcb627b8c8379965ae8ac2f308e4846a", func := "loop.example/g01917/laws.FnExactVariableName", spec := "fnExactVariableName", apart := false }
def FnExactVariableNameSaid : Prop := fnExactVariableNameRow.holds Try.pinned (OpenSpec.ofChange fnExactVariableNameSpec)

/-- ITS FALSE NEIGHBOUR: 'it returns false'. Refute it at one input. -/
def fnExactVariableNameWrong : ChangeSpec := { name := "fnExactVariableName", fn := fun _ => fun
  | [d] => { results := [.lit (.bool false)], args := [d] }
  | _ => none }
def FnExactVariableNameWrongFalsely : Prop := fnExactVariableNameRow.holds Try.pinned (OpenSpec.ofChange fnExactVariableNameWrong)

/-- 'laws.FnExactFormatQuery': WHATEVER THE INPUT: true; the input reads as it did. -/
def fnExactFormatQuerySpec : ChangeSpec := { name := "fnExactFormatQuery", fn := fun _ => fun
  | [d] => { results := [.lit (.bool true)], args := [d] }
  | _ => none }
def fnExactFormatQueryRow : OpenClaim := { program := "ytdpecjfamcefbaa", sum := "3b14e435cb3fb38c4b47fe658f315422bcb627b8c8379965ae8ac2f308e4846a", func := "loop.example/g01917/laws.FnExactFormatQuery", spec := "fnExactFormatQuery", inPlace := ["internal/abi.NoEscape", "internal/bytealg.MakeNoZero"], unfollowed := true, recurses := true, apart := false }
def FnExactFormatQuerySaid : Prop := fnExactFormatQueryRow.holds Try.pinned (OpenSpec.ofChange fnExactFormatQuerySpec)

/-- ITS FALSE NEIGHBOUR: 'it returns false'. Refute it at one input. -/
def fnExactFormatQueryWrong : ChangeSpec := { name := "fnExactFormatQuery", fn := fun _ => fun
  | [d] => { results := [.lit (.bool false)], args := [d] }
  | _ => none }
def FnExactFormatQueryWrongFalsely : Prop := fnExactFormatQueryRow.holds Try.pinned (OpenSpec.ofChange fnExactFormatQueryWrong)

/-- 'laws.FnExactEqualQueries': WHATEVER THE INPUT: true; the input reads as it did. -/
def fnExactEqualQueriesSpec : ChangeSpec := { name := "fnExactEqualQueries", fn := fun _ => fun
  | [d1, d2] => { results := [.lit (.bool true)], args := [d1, d2] }
  | _ => none }
def fnExactEqualQueriesRow : OpenClaim := { program := "ytdpecjfamcefbaa", sum := "3b14e435cb3fb38c4b47fe658f315422bcb627b8c8379965ae8ac2f308e4846a", func := "loop.example/g01917/laws.FnExactEqualQueries", spec := "fnExactEqualQueries", unfollowed := true, recurses := true, apart := false }
def FnExactEqualQueriesSaid : Prop := fnExactEqualQueriesRow.holds Try.pinned (OpenSpec.ofChange fnExactEqualQueriesSpec)

/-- ITS FALSE NEIGHBOUR: 'it returns false'. Refute it at one input. -/
def fnExactEqualQueriesWrong : ChangeSpec := { name := "fnExactEqualQueries", fn := fun _ => fun
  | [d1, d2] => { results := [.lit (.bool false)], args := [d1, d2] }
  | _ => none }
def FnExactEqualQueriesWrongFalsely : Prop := fnExactEqualQueriesRow.holds Try.pinned (OpenSpec.ofChange fnExactEqualQueriesWrong)

/-- 'laws.FnExactContainsVariable': WHATEVER THE INPUT: true; the input reads as it did. -/
def fnExactContainsVariableSpec : ChangeSpec := { name := "fnExactContainsVariable", fn := fun _ => fun
  | [d1, d2] => { results := [.lit (.bool true)], args := [d1, d2] }
  | _ => none }
def fnExactContainsVariableRow : OpenClaim := { program := "ytdpecjfamcefbaa", sum := "3b14e435cb3fb38c4b47fe658f315422bcb627b8c8379965ae8ac2f308e4846a", func := "loop.example/g01917/laws.FnExactContainsVariable", spec := "fnExactContainsVariable", apart := false }
def FnExactContainsVariableSaid : Prop := fnExactContainsVariableRow.holds Try.pinned (OpenSpec.ofChange fnExactContainsVariableSpec)

/-- ITS FALSE NEIGHBOUR: 'it returns false'. Refute it at one input. -/
def fnExactContainsVariableWrong : ChangeSpec := { name := "fnExactContainsVariable", fn := fun _ => fun
  | [d1, d2] => { results := [.lit (.bool false)], args := [d1, d2] }
  | _ => none }
def FnExactContainsVariableWrongFalsely : Prop := fnExactContainsVariableRow.holds Try.pinned (OpenSpec.ofChange fnExactContainsVariableWrong)

/- THE SECOND FORM. 'bulk': how many values and letters a reading holds, each counted each time it is reached (what is shared counts as often as it is met; a slice's spare places count too). A statement '..UptoSaid' is the law's where the arguments, and the package variables that the reading takes, are together of bulk at most 1048576: NARROWER than '..Said'. Prove '..Said' where nothing that the law and all that it calls make is longer than what came in: it says more and counts as full. Else prove '..UptoSaid'. A law counts once. -/
mutual
def uptoBulk {H : Type} : DataW H → Nat
  | .lit (.string bytes) => bytes.length + 1
  | .lit _ => 1
  | .nil => 1
  | .ptr d => uptoBulk d + 1
  | .slice elems spare => uptoBulkAll elems + uptoBulkAll spare + 1
  | .agg parts => uptoBulkAll parts + 1
  | .iface _ d => uptoBulk d + 1
  | .map entries => uptoBulkEntries entries + 1
  | .held _ => 1
def uptoBulkAll {H : Type} : List (DataW H) → Nat
  | [] => 0
  | d :: r => uptoBulk d + uptoBulkAll r
def uptoBulkEntries {H : Type} : List (Lit × DataW H) → Nat
  | [] => 0
  | x :: r => uptoBulkEntry x + uptoBulkEntries r
def uptoBulkEntry {H : Type} : Lit × DataW H → Nat
  | (.string bytes, d) => bytes.length + uptoBulk d + 1
  | (_, d) => uptoBulk d + 1
 end
def uptoSmall : (H : Type) → List (DataW H) → Bool := fun _ ds => decide (uptoBulkAll ds ≤ 1048576)
def OpenSpec.upto (s : _root_.Go.ChangeSpec) : _root_.Go.OpenSpec := { _root_.Go.OpenSpec.ofChange s with cond := some uptoSmall }

/-- 'laws.FnExactIsValidDatabase', WHERE WHAT IT READS IS OF BULK AT MOST 1048576: true; the input reads as it did. -/
def fnExactIsValidDatabaseUptoRow : OpenClaim := { program := "ytdpecjfamcefbaa", sum := "3b14e435cb3fb38c4b47fe658f315422bcb627b8c8379965ae8ac2f308e4846a", func := "loop.example/g01917/laws.FnExactIsValidDatabase", spec := "fnExactIsValidDatabase", apart := false, narrowed := true }
def FnExactIsValidDatabaseUptoSaid : Prop := fnExactIsValidDatabaseUptoRow.holds Try.pinned (OpenSpec.upto fnExactIsValidDatabaseSpec)

/-- 'laws.FnExactLookupRelation', WHERE WHAT IT READS IS OF BULK AT MOST 1048576: true; the input reads as it did. -/
def fnExactLookupRelationUptoRow : OpenClaim := { program := "ytdpecjfamcefbaa", sum := "3b14e435cb3fb38c4b47fe658f315422bcb627b8c8379965ae8ac2f308e4846a", func := "loop.example/g01917/laws.FnExactLookupRelation", spec := "fnExactLookupRelation", unfollowed := true, recurses := true, apart := false, narrowed := true }
def FnExactLookupRelationUptoSaid : Prop := fnExactLookupRelationUptoRow.holds Try.pinned (OpenSpec.upto fnExactLookupRelationSpec)

/-- 'laws.FnExactSetRelation', WHERE WHAT IT READS IS OF BULK AT MOST 1048576: true; the input reads as it did. -/
def fnExactSetRelationUptoRow : OpenClaim := { program := "ytdpecjfamcefbaa", sum := "3b14e435cb3fb38c4b47fe658f315422bcb627b8c8379965ae8ac2f308e4846a", func := "loop.example/g01917/laws.FnExactSetRelation", spec := "fnExactSetRelation", unfollowed := true, recurses := true, apart := false, narrowed := true }
def FnExactSetRelationUptoSaid : Prop := fnExactSetRelationUptoRow.holds Try.pinned (OpenSpec.upto fnExactSetRelationSpec)

/-- 'laws.FnExactEqualDatabases', WHERE WHAT IT READS IS OF BULK AT MOST 1048576: true; the input reads as it did. -/
def fnExactEqualDatabasesUptoRow : OpenClaim := { program := "ytdpecjfamcefbaa", sum := "3b14e435cb3fb38c4b47fe658f315422bcb627b8c8379965ae8ac2f308e4846a", func := "loop.example/g01917/laws.FnExactEqualDatabases", spec := "fnExactEqualDatabases", unfollowed := true, recurses := true, apart := false, narrowed := true }
def FnExactEqualDatabasesUptoSaid : Prop := fnExactEqualDatabasesUptoRow.holds Try.pinned (OpenSpec.upto fnExactEqualDatabasesSpec)

/-- 'laws.FnExactIsValidQuery', WHERE WHAT IT READS IS OF BULK AT MOST 1048576: true; the input reads as it did. -/
def fnExactIsValidQueryUptoRow : OpenClaim := { program := "ytdpecjfamcefbaa", sum := "3b14e435cb3fb38c4b47fe658f315422bcb627b8c8379965ae8ac2f308e4846a", func := "loop.example/g01917/laws.FnExactIsValidQuery", spec := "fnExactIsValidQuery", unfollowed := true, recurses := true, apart := false, narrowed := true }
def FnExactIsValidQueryUptoSaid : Prop := fnExactIsValidQueryUptoRow.holds Try.pinned (OpenSpec.upto fnExactIsValidQuerySpec)

/-- 'laws.FnExactIsQueryFor', WHERE WHAT IT READS IS OF BULK AT MOST 1048576: true; the input reads as it did. -/
def fnExactIsQueryForUptoRow : OpenClaim := { program := "ytdpecjfamcefbaa", sum := "3b14e435cb3fb38c4b47fe658f315422bcb627b8c8379965ae8ac2f308e4846a", func := "loop.example/g01917/laws.FnExactIsQueryFor", spec := "fnExactIsQueryFor", unfollowed := true, recurses := true, apart := false, narrowed := true }
def FnExactIsQueryForUptoSaid : Prop := fnExactIsQueryForUptoRow.holds Try.pinned (OpenSpec.upto fnExactIsQueryForSpec)

/-- 'laws.FnExactVariableName', WHERE WHAT IT READS IS OF BULK AT MOST 1048576: true; the input reads as it did. -/
def fnExactVariableNameUptoRow : OpenClaim := { program := "ytdpecjfamcefbaa", sum := "3b14e435cb3fb38c4b47fe658f315422bcb627b8c8379965ae8ac2f308e4846a", func := "loop.example/g01917/laws.FnExactVariableName", spec := "fnExactVariableName", apart := false, narrowed := true }
def FnExactVariableNameUptoSaid : Prop := fnExactVariableNameUptoRow.holds Try.pinned (OpenSpec.upto fnExactVariableNameSpec)

/-- 'laws.FnExactFormatQuery', WHERE WHAT IT READS IS OF BULK AT MOST 1048576: true; the input reads as it did. -/
def fnExactFormatQueryUptoRow : OpenClaim := { program := "ytdpecjfamcefbaa", sum := "3b14e435cb3fb38c4b47fe658f315422bcb627b8c8379965ae8ac2f308e4846a", func := "loop.example/g01917/laws.FnExactFormatQuery", spec := "fnExactFormatQuery", inPlace := ["internal/abi.NoEscape", "internal/bytealg.MakeNoZero"], unfollowed := true, recurses := true, apart := false, narrowed := true }
def FnExactFormatQueryUptoSaid : Prop := fnExactFormatQueryUptoRow.holds Try.pinned (OpenSpec.upto fnExactFormatQuerySpec)

/-- 'laws.FnExactEqualQueries', WHERE WHAT IT READS IS OF BULK AT MOST 1048576: true; the input reads as it did. -/
def fnExactEqualQueriesUptoRow : OpenClaim := { program := "ytdpecjfamcefbaa", sum := "3b14e435cb3fb38c4b47fe658f315422bcb627b8c8379965ae8ac2f308e4846a", func := "loop.example/g01917/laws.FnExactEqualQueries", spec := "fnExactEqualQueries", unfollowed := true, recurses := true, apart := false, narrowed := true }
def FnExactEqualQueriesUptoSaid : Prop := fnExactEqualQueriesUptoRow.holds Try.pinned (OpenSpec.upto fnExactEqualQueriesSpec)

/-- 'laws.FnExactContainsVariable', WHERE WHAT IT READS IS OF BULK AT MOST 1048576: true; the input reads as it did. -/
def fnExactContainsVariableUptoRow : OpenClaim := { program := "ytdpecjfamcefbaa", sum := "3b14e435cb3fb38c4b47fe658f315422bcb627b8c8379965ae8ac2f308e4846a", func := "loop.example/g01917/laws.FnExactContainsVariable", spec := "fnExactContainsVariable", apart := false, narrowed := true }
def FnExactContainsVariableUptoSaid : Prop := fnExactContainsVariableUptoRow.holds Try.pinned (OpenSpec.upto fnExactContainsVariableSpec)

end Rows
end Go.Proofs.Ytdpecjfamcefbaa
