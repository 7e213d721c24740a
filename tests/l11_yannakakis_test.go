package tests

import (
	"fmt"
	"math"
	"math/rand"
	"slices"
	"strings"
	"testing"

	"loop.example/g01917/impl"
)

// The conversion compiles only if a VarRelation has no other fields.
var _ = impl.VarRelation(struct {
	Variables []int
	Relation  impl.Relation
}{})

func labeled(r impl.Relation, variables ...int) impl.VarRelation {
	return impl.VarRelation{Variables: variables, Relation: r}
}

// describeLabeled keeps messages about large relations readable.
func describeLabeled(b impl.VarRelation) string {
	return fmt.Sprintf("%v %s", short(b.Variables), describe(b.Relation))
}

// sameLabeled is the test's own comparison of any relations with variables.
func sameLabeled(a, b impl.VarRelation) bool {
	return plainOrder(a.Variables, b.Variables) == 0 && sameRelations(a.Relation, b.Relation)
}

// formatLabeled returns the letters of the variables and the rows.
func formatLabeled(b impl.VarRelation) string {
	return plainVariables(b.Variables) + plainFormatRelation(b.Relation)
}

func parsedLabeled(t *testing.T, s string) impl.VarRelation {
	t.Helper()
	letters, rows, _ := strings.Cut(strings.TrimPrefix(s, "("), ")")
	r, ok := plainParse(rows)
	b := labeled(r, plainNumbers(letters)...)
	if !ok || formatLabeled(b) != s {
		t.Fatalf("%q is no relation with variables", s)
	}
	return b
}

// plainIsValidLabeled is the test's own check of a relation with variables.
func plainIsValidLabeled(b impl.VarRelation) bool {
	for i, v := range b.Variables {
		if v < 0 || v >= variableLimit || i > 0 && v <= b.Variables[i-1] {
			return false
		}
	}
	return plainIsValid(b.Relation) && b.Relation.Arity == len(b.Variables)
}

// plainSemiJoin is the test's own result of SemiJoin for valid arguments.
func plainSemiJoin(a, b impl.VarRelation) impl.VarRelation {
	kept := labeled(relation(a.Relation.Arity), a.Variables...)
	others := valuesOfRows(b.Variables, b.Relation.Rows)
	for i, values := range valuesOfRows(a.Variables, a.Relation.Rows) {
		if slices.ContainsFunc(others, func(other map[int]int) bool { return agreeOnCommon(values, other) }) {
			kept.Relation.Rows = append(kept.Relation.Rows, a.Relation.Rows[i])
		}
	}
	return kept
}

// plainNaturalJoin is the test's own result of NaturalJoin for valid arguments.
func plainNaturalJoin(a, b impl.VarRelation) (impl.VarRelation, bool) {
	variables := plainAtomVariables(atom("", slices.Concat(a.Variables, b.Variables)...))
	others := valuesOfRows(b.Variables, b.Relation.Rows)
	var rows [][]int
	for _, values := range valuesOfRows(a.Variables, a.Relation.Rows) {
		for _, other := range others {
			var row []int
			for _, v := range variables {
				value, ok := values[v]
				if !ok {
					value = other[v]
				}
				row = append(row, value)
			}
			if agreeOnCommon(values, other) {
				rows = append(rows, row)
			}
		}
	}
	r, ok := plainRelation(len(variables), rows)
	if !ok {
		return impl.VarRelation{}, false
	}
	return labeled(r, variables...), true
}

func checkLabeled(t *testing.T, call string, got impl.VarRelation, ok bool, want impl.VarRelation, wantOk bool) {
	t.Helper()
	if !sameLabeled(got, want) || ok != wantOk {
		t.Fatalf("%s = %s, %v, want %s, %v", call, describeLabeled(got), ok, describeLabeled(want), wantOk)
	}
}

// checkJoins compares both joins with the test's own results.
func checkJoins(t *testing.T, a, b impl.VarRelation) {
	t.Helper()
	areValid := plainIsValidLabeled(a) && plainIsValidLabeled(b)
	kept, joined, joinedOk := impl.VarRelation{}, impl.VarRelation{}, false
	if areValid {
		kept = plainSemiJoin(a, b)
		joined, joinedOk = plainNaturalJoin(a, b)
	}
	pair := fmt.Sprintf("(%s, %s)", describeLabeled(a), describeLabeled(b))
	got, ok := impl.SemiJoin(a, b)
	checkLabeled(t, "SemiJoin"+pair, got, ok, kept, areValid)
	got, ok = impl.NaturalJoin(a, b)
	checkLabeled(t, "NaturalJoin"+pair, got, ok, joined, joinedOk)
}

// validLabeled contains relations for each set of variables.
func validLabeled() []impl.VarRelation {
	random := rand.New(rand.NewSource(15))
	var all []impl.VarRelation
	for set := range 1 << variableLimit {
		variables := plainAtomVariables(atom("", variablesIn(set, 1)...))
		count := len(variables)
		all = append(all, labeled(relation(count), variables...), labeled(relation(count, make([]int, count)), variables...))
		for _, values := range [][]int{{0, 7}, {0, 1, 99}} {
			var rows [][]int
			for range 10 {
				row := make([]int, count)
				for k := range row {
					row[k] = values[random.Intn(len(values))]
				}
				rows = append(rows, row)
			}
			r, _ := plainRelation(count, rows)
			all = append(all, labeled(r, variables...))
		}
	}
	return all
}

// labeledWithWrongVariables changes the variables of valid relations.
func labeledWithWrongVariables() []impl.VarRelation {
	var all []impl.VarRelation
	for i, b := range validLabeled() {
		r, variables := b.Relation, b.Variables
		all = append(all, labeled(r, append(slices.Clone(variables), variableLimit)...), labeled(r, append([]int{-1}, variables...)...))
		if len(variables) == 0 {
			continue
		}
		all = append(all, labeled(r, variables[1:]...), labeled(r, variables[:len(variables)-1]...), labeled(r, append(slices.Clone(variables), variables[0])...), labeled(r, make([]int, 300)...))
		for k := range variables {
			wrong := wrongVariables[(i+k)%len(wrongVariables)]
			for _, v := range []int{wrong, -1, variableLimit, variables[(k+1)%len(variables)]} {
				changed := slices.Clone(variables)
				changed[k] = v
				if len(variables) > 1 || v != variables[k] {
					all = append(all, labeled(r, changed...))
				}
			}
		}
		if len(variables) > 1 {
			reversed := slices.Clone(variables)
			slices.Reverse(reversed)
			all = append(all, labeled(r, reversed...))
		}
	}
	return all
}

// labeledInvalidRelations gives as many variables to invalid relations as they
// have columns.
func labeledInvalidRelations() []impl.VarRelation {
	all := []impl.VarRelation{labeled(relation(variableLimit+1), 0, 1, 2, 3, 4, 5), labeled(relation(7, make([]int, 7)), 0, 1, 2, 3, 4, 5, 6)}
	for _, r := range invalidRelations() {
		variables := []int{0, 1, 2, 3, 4}[:max(min(r.Arity, variableLimit), 0)]
		all = append(all, labeled(r, variables...))
	}
	return all
}

func invalidLabeled() []impl.VarRelation {
	return append(labeledWithWrongVariables(), labeledInvalidRelations()...)
}

func TestIsValidVarRelation(t *testing.T) {
	for _, c := range []struct {
		b    impl.VarRelation
		want bool
	}{
		{impl.VarRelation{}, true},
		{labeled(relation(0, nil)), true},
		{labeled(relation(1), 0), true},
		{labeled(relation(1), 4), true},
		{labeled(relation(1), 5), false},
		{labeled(relation(1), -1), false},
		{labeled(relation(1)), false},
		{labeled(relation(0), 0), false},
		{labeled(relation(2, []int{3, 1}), 0, 1), true},
		{labeled(relation(2, []int{3, 1}), 1, 4), true},
		{labeled(relation(2, []int{3, 1}), 1, 0), false},
		{labeled(relation(2, []int{3, 1}), 1, 1), false},
		{labeled(relation(2, []int{3, 1}), 1), false},
		{labeled(relation(2, []int{3, 1}), 0, 1, 2), false},
		{labeled(relation(2, []int{3, 1}), 4, 5), false},
		{labeled(relation(2, []int{3, 100}), 0, 1), false},
		{labeled(relation(2, []int{3}), 0, 1), false},
		{labeled(relation(2, []int{3, 1}, []int{2, 1}), 0, 1), false},
		{labeled(relation(5, []int{9, 8, 7, 6, 5}), 0, 1, 2, 3, 4), true},
		{labeled(relation(5, []int{9, 8, 7, 6, 5}), 0, 1, 2, 4, 3), false},
		{labeled(relation(6), 0, 1, 2, 3, 4, 5), false},
		{labeled(relation(6), 0, 1, 2, 3, 4), false},
		{labeled(relation(-1)), false},
		{labeled(relation(2, manyRows(2, rowLimit)...), 2, 3), true},
		{labeled(relation(2, manyRows(2, rowLimit+1)...), 2, 3), false},
	} {
		if got := impl.IsValidVarRelation(c.b); got != c.want {
			t.Errorf("IsValidVarRelation(%s) = %v", describeLabeled(c.b), got)
		}
	}
	for _, b := range validLabeled() {
		if !plainIsValidLabeled(b) || !impl.IsValidVarRelation(b) {
			t.Errorf("%s is valid", describeLabeled(b))
		}
	}
	for _, b := range invalidLabeled() {
		if plainIsValidLabeled(b) || impl.IsValidVarRelation(b) {
			t.Errorf("%s is invalid", describeLabeled(b))
		}
	}
}

// TestIsValidVarRelationForAllVariables takes every list of up to six numbers
// from -1 to 5, with each arity.
func TestIsValidVarRelationForAllVariables(t *testing.T) {
	for _, list := range allRows([]int{-1, 0, 1, 2, 3, 4, 5}, variableLimit+1) {
		for arity := -1; arity <= arityLimit+1; arity++ {
			for _, b := range []impl.VarRelation{labeled(relation(arity), list...), labeled(relation(arity, validRow(max(arity, 0))), list...)} {
				if got := impl.IsValidVarRelation(b); got != plainIsValidLabeled(b) {
					t.Fatalf("IsValidVarRelation(%s) = %v", describeLabeled(b), got)
				}
			}
		}
	}
	for _, v := range wrongVariables {
		for arity := range 3 {
			for _, list := range [][]int{{v}, {0, v}, {v, 4}} {
				if impl.IsValidVarRelation(labeled(relation(arity), list...)) {
					t.Errorf("the variables %v are valid", list)
				}
			}
		}
	}
	if impl.IsValidVarRelation(labeled(relation(1), make([]int, 1000000)...)) {
		t.Error("a million variables are valid")
	}
}

func checkAtomRelation(t *testing.T, db impl.Database, a impl.Atom) {
	t.Helper()
	want := labeled(plainAtomBindings(db, a), plainAtomVariables(a)...)
	if got := impl.AtomRelation(db, a); !sameLabeled(got, want) || !impl.IsValidVarRelation(got) {
		t.Fatalf("AtomRelation(%s, %.20q%v) = %s, want %s", describeDatabase(db), a.Relation, short(a.Vars), describeLabeled(got), describeLabeled(want))
	}
}

func TestAtomRelation(t *testing.T) {
	const text = "q=1:(7)\nr=2:(0,0) (0,1) (3,3)\ns=3:(0,1,0) (0,1,2) (1,0,1)\n"
	for _, c := range []struct {
		a    impl.Atom
		want string
	}{
		{atom("q", 3), "(U)1:(7)"},
		{atom("r", 0, 1), "(XY)2:(0,0) (0,1) (3,3)"},
		{atom("r", 4, 2), "(ZV)2:(0,0) (1,0) (3,3)"},
		{atom("r", 1, 1), "(Y)1:(0) (3)"},
		{atom("s", 2, 0, 2), "(XZ)2:(0,1) (1,0)"},
		{atom("t", 1, 0), "(XY)2:"},
		{atom("r", 0, 1, 2), "(XYZ)3:"},
		{atom("r", 0, 5), "(X)1:"},
		{atom("r", -1, 6), "()0:"},
		{impl.Atom{}, "()0:"},
	} {
		db := parsedDatabase(t, text)
		if got := formatLabeled(impl.AtomRelation(db, c.a)); got != c.want {
			t.Errorf("AtomRelation(%q, %s%v) = %s, want %s", text, c.a.Relation, c.a.Vars, got, c.want)
		}
		checkAtomRelation(t, db, c.a)
	}
	checkAtomRelation(t, parsedDatabase(t, text), atom("r", make([]int, 100000)...))
	lists := append(allRows([]int{-1, 0, 2, 4, 5}, 3), []int{4, 3, 2, 1, 0}, []int{0, 1, 2, 3, 4, 5}, []int{math.MinInt, 3}, []int{1 << 32, 1})
	for i, db := range allDatabases() {
		for _, x := range db.Tables[:min(len(db.Tables), tableLimit+1)] {
			for k := i % 7; k < len(lists); k += 7 {
				checkAtomRelation(t, db, atom(x.Name, lists[k]...))
			}
		}
	}
}

// joinCases lists two relations, the rows of the first one that the second one
// keeps, and the joined relation.
var joinCases = []struct{ first, second, kept, joined string }{
	{"(XY)2:(0,1) (0,2) (5,6)", "(YZ)2:(1,3) (2,4)", "(XY)2:(0,1) (0,2)", "(XYZ)3:(0,1,3) (0,2,4)"},
	{"(YZ)2:(1,3) (2,4)", "(XY)2:(0,1) (0,2) (5,6)", "(YZ)2:(1,3) (2,4)", "(XYZ)3:(0,1,3) (0,2,4)"},
	{"(XY)2:(0,1) (0,2)", "(YZ)2:(3,3) (4,4)", "(XY)2:", "(XYZ)3:"},
	{"(XY)2:(0,1) (2,1)", "(YZ)2:(1,0) (1,9)", "(XY)2:(0,1) (2,1)", "(XYZ)3:(0,1,0) (0,1,9) (2,1,0) (2,1,9)"},
	{"(X)1:(1) (2)", "(Y)1:(7) (8)", "(X)1:(1) (2)", "(XY)2:(1,7) (1,8) (2,7) (2,8)"},
	{"(Y)1:(0) (1)", "(X)1:(0) (3)", "(Y)1:(0) (1)", "(XY)2:(0,0) (0,1) (3,0) (3,1)"},
	{"(X)1:(1) (2)", "(Y)1:", "(X)1:", "(XY)2:"},
	{"(X)1:", "(Y)1:(7)", "(X)1:", "(XY)2:"},
	{"(X)1:", "(X)1:(7)", "(X)1:", "(X)1:"},
	{"(X)1:(0)", "(Y)1:(0)", "(X)1:(0)", "(XY)2:(0,0)"},
	{"(XY)2:(0,1) (2,3)", "(XY)2:(2,3) (4,5)", "(XY)2:(2,3)", "(XY)2:(2,3)"},
	{"(XY)2:(1,2)", "(XY)2:(2,1)", "(XY)2:", "(XY)2:"},
	{"(XY)2:(1,23)", "(XY)2:(12,3)", "(XY)2:", "(XY)2:"},
	{"(XY)2:(0,1) (1,0)", "(YZ)2:(0,0)", "(XY)2:(1,0)", "(XYZ)3:(1,0,0)"},
	{"(XYZ)3:(0,1,2) (0,1,3) (4,1,2) (4,4,4)", "(Y)1:(1)", "(XYZ)3:(0,1,2) (0,1,3) (4,1,2)", "(XYZ)3:(0,1,2) (0,1,3) (4,1,2)"},
	{"(Y)1:(1) (2)", "(XYZ)3:(0,1,2) (0,1,3) (4,1,2) (4,4,4)", "(Y)1:(1)", "(XYZ)3:(0,1,2) (0,1,3) (4,1,2)"},
	{"(XV)2:(0,9) (1,8)", "(YZU)3:(1,2,3)", "(XV)2:(0,9) (1,8)", "(XYZUV)5:(0,1,2,3,9) (1,1,2,3,8)"},
	{"(YU)2:(0,5) (1,4)", "(XUV)3:(0,5,5) (1,4,0) (2,4,0) (2,9,9)", "(YU)2:(0,5) (1,4)", "(XYUV)4:(0,0,5,5) (1,1,4,0) (2,1,4,0)"},
	{"(XZV)3:(1,2,3) (1,3,2)", "(XYV)3:(1,0,2) (1,9,3) (2,0,3)", "(XZV)3:(1,2,3) (1,3,2)", "(XYZV)4:(1,0,3,2) (1,9,2,3)"},
	{"(XYZUV)5:(0,0,0,0,0) (0,99,0,99,0)", "(YU)2:(0,99) (99,99)", "(XYZUV)5:(0,99,0,99,0)", "(XYZUV)5:(0,99,0,99,0)"},
	{"()0:()", "(X)1:(4)", "()0:()", "(X)1:(4)"},
	{"()0:()", "(X)1:", "()0:", "(X)1:"},
	{"()0:", "(X)1:(4)", "()0:", "(X)1:"},
	{"(X)1:(4)", "()0:()", "(X)1:(4)", "(X)1:(4)"},
	{"(X)1:(4)", "()0:", "(X)1:", "(X)1:"},
	{"()0:()", "()0:()", "()0:()", "()0:()"},
	{"()0:()", "()0:", "()0:", "()0:"},
	{"()0:", "()0:", "()0:", "()0:"},
}

func TestSemiJoinAndNaturalJoin(t *testing.T) {
	for _, c := range joinCases {
		a, b := parsedLabeled(t, c.first), parsedLabeled(t, c.second)
		if got, ok := impl.SemiJoin(a, b); !ok || formatLabeled(got) != c.kept {
			t.Errorf("SemiJoin(%s, %s) = %s, %v, want %s", c.first, c.second, formatLabeled(got), ok, c.kept)
		}
		if got, ok := impl.NaturalJoin(a, b); !ok || formatLabeled(got) != c.joined {
			t.Errorf("NaturalJoin(%s, %s) = %s, %v, want %s", c.first, c.second, formatLabeled(got), ok, c.joined)
		}
		checkJoins(t, a, b)
		checkJoins(t, b, a)
	}
}

func TestJoinsOfAllSetsOfVariables(t *testing.T) {
	all := validLabeled()
	for _, a := range all {
		for _, b := range all {
			checkJoins(t, a, b)
		}
	}
}

// TestJoinsOfAllSmallRelations takes all relations of two columns and two values
// with one common variable, two, and none.
func TestJoinsOfAllSmallRelations(t *testing.T) {
	relations := subsets(2, rowsOfLength([]int{0, 99}, 2))
	for _, r := range relations {
		for _, s := range relations {
			for _, variables := range [][]int{{1, 2}, {0, 1}, {0, 2}, {2, 4}, {3, 4}} {
				checkJoins(t, labeled(r, 1, 2), labeled(s, variables...))
			}
		}
	}
}

func TestJoinsOfInvalidRelations(t *testing.T) {
	valid := append(validLabeled()[40:44], labeled(relation(0, nil)), labeled(relation(2, manyRows(2, rowLimit)...), 0, 1))
	invalid := invalidLabeled()
	for i, a := range invalid {
		for _, b := range append(slices.Clone(valid), a, invalid[(7*i+3)%len(invalid)]) {
			for _, pair := range [][2]impl.VarRelation{{a, b}, {b, a}} {
				call := fmt.Sprintf("the join of %s and %s", describeLabeled(pair[0]), describeLabeled(pair[1]))
				got, ok := impl.SemiJoin(pair[0], pair[1])
				checkLabeled(t, call, got, ok, impl.VarRelation{}, false)
				got, ok = impl.NaturalJoin(pair[0], pair[1])
				checkLabeled(t, call, got, ok, impl.VarRelation{}, false)
			}
		}
	}
}

// columnRows returns that many rows with this first value.
func columnRows(first, count int) [][]int {
	var rows [][]int
	for v := range count {
		rows = append(rows, []int{first, v})
	}
	return rows
}

// TestNaturalJoinLimit joins each of the rows with the value 0 with 100 others,
// and a single row with further ones.
func TestNaturalJoinLimit(t *testing.T) {
	for count := 38; count <= 41; count++ {
		for _, further := range []int{0, 1, 2, 50, 99, 100} {
			first := relation(2, append(columnRows(0, count), []int{1, 7})...)
			second := relation(2, append(columnRows(0, 100), columnRows(1, further)...)...)
			want := 100*count + further
			for _, columns := range [][]int{{1, 2}, {3, 4}, {2, 4}} {
				a, b := labeled(first, 0, columns[0]), labeled(second, 0, columns[1])
				checkJoins(t, a, b)
				for _, pair := range [][2]impl.VarRelation{{a, b}, {b, a}} {
					got, ok := impl.NaturalJoin(pair[0], pair[1])
					if ok != (want <= 4000) || ok && len(got.Relation.Rows) != want {
						t.Errorf("NaturalJoin of %d rows = %s, %v", want, describeLabeled(got), ok)
					}
				}
			}
		}
	}
}

// TestJoinsOfManyRows joins relations of as many rows as allowed.
func TestJoinsOfManyRows(t *testing.T) {
	pairs, quadruples := relation(2, manyRows(2, rowLimit)...), relation(4, manyRows(4, rowLimit)...)
	none := impl.VarRelation{}
	for _, c := range []struct {
		a, b, kept, joined impl.VarRelation
	}{
		{labeled(pairs, 0, 1), labeled(pairs, 0, 1), labeled(pairs, 0, 1), labeled(pairs, 0, 1)},
		{labeled(pairs, 0, 1), labeled(pairs, 2, 3), labeled(pairs, 0, 1), none},
		{labeled(quadruples, 0, 1, 2, 4), labeled(relation(0, nil)), labeled(quadruples, 0, 1, 2, 4), labeled(quadruples, 0, 1, 2, 4)},
		{labeled(quadruples, 0, 1, 2, 4), labeled(relation(0)), labeled(relation(4), 0, 1, 2, 4), labeled(relation(4), 0, 1, 2, 4)},
		{labeled(quadruples, 0, 1, 2, 4), labeled(relation(1), 3), labeled(relation(4), 0, 1, 2, 4), labeled(relation(5), 0, 1, 2, 3, 4)},
		{labeled(quadruples, 0, 1, 2, 4), labeled(relation(1, []int{3}, []int{4}), 3), labeled(quadruples, 0, 1, 2, 4), none},
		{labeled(pairs, 3, 4), labeled(relation(3, []int{1, 2, 3}, []int{1, 2, 4}), 0, 1, 2), labeled(pairs, 3, 4), none},
	} {
		call := fmt.Sprintf("the join of %s and %s", describeLabeled(c.a), describeLabeled(c.b))
		got, ok := impl.SemiJoin(c.a, c.b)
		checkLabeled(t, call, got, ok, c.kept, true)
		got, ok = impl.NaturalJoin(c.a, c.b)
		checkLabeled(t, call, got, ok, c.joined, c.joined.Variables != nil)
	}
	checkJoins(t, labeled(quadruples, 0, 1, 2, 4), labeled(relation(1, []int{42}), 3))
	checkJoins(t, labeled(relation(1, []int{42}), 0), labeled(quadruples, 1, 2, 3, 4))
	checkJoins(t, labeled(quadruples, 0, 1, 2, 3), labeled(relation(2, manyRows(2, 50)...), 3, 4))
}

func TestEqualVarRelations(t *testing.T) {
	all := append(validLabeled(), labeledWithWrongVariables()[:120]...)
	for i, r := range slices.Concat(relationsOfInvalidArity(), smallInvalidRelations()) {
		all = append(all, labeled(r), labeled(r, i%3, 1))
	}
	for _, a := range all {
		for _, b := range all {
			if got := impl.EqualVarRelations(a, b); got != sameLabeled(a, b) {
				t.Fatalf("EqualVarRelations(%s, %s) = %v", describeLabeled(a), describeLabeled(b), got)
			}
		}
		if !impl.EqualVarRelations(a, labeled(cloneOf(a.Relation), append([]int{}, a.Variables...)...)) {
			t.Fatalf("%s is not equal to itself", describeLabeled(a))
		}
	}
	for _, r := range append(largeRelations(), largeInvalidRelations()...) {
		a, b := labeled(r, 0, 1), labeled(cloneOf(r), 0, 1)
		if !impl.EqualVarRelations(a, b) {
			t.Fatalf("%s is not equal to itself", describeLabeled(a))
		}
		b.Relation.Rows[len(r.Rows)-1] = []int{-5}
		if impl.EqualVarRelations(a, b) || impl.EqualVarRelations(a, labeled(r, 0, 1, 2)) || impl.EqualVarRelations(a, labeled(r, 0, 2)) {
			t.Fatalf("%s with one difference is equal", describeLabeled(a))
		}
	}
	if !impl.EqualVarRelations(impl.VarRelation{}, labeled(relation(0), []int{}...)) || !impl.EqualVarRelations(labeled(relation(0, nil)), labeled(relation(0, []int{}))) {
		t.Error("nil and empty slices are not equal")
	}
}

// plainReduced is the test's own result of FullReduction for a join tree: the
// values of each atom's variables in the bindings.
func plainReduced(db impl.Database, q impl.Query) []impl.VarRelation {
	bindings := plainBindings(db, q)
	var all []impl.VarRelation
	for _, a := range q.Atoms {
		variables := plainAtomVariables(a)
		var rows [][]int
		for _, binding := range bindings {
			var row []int
			for _, v := range variables {
				row = append(row, binding[v])
			}
			rows = append(rows, row)
		}
		r, _ := plainRelation(len(variables), rows)
		all = append(all, labeled(r, variables...))
	}
	return all
}

func sameReduced(a, b []impl.VarRelation) bool {
	return slices.EqualFunc(a, b, sameLabeled)
}

func describeReduced(all []impl.VarRelation) string {
	var texts []string
	for _, b := range all {
		texts = append(texts, describeLabeled(b))
	}
	return "[" + strings.Join(texts, "; ") + "]"
}

// checkAlongTrees compares the full reduction and the answers along each of
// these trees, which may be no join trees, with the test's own results. It
// returns the number of join trees.
func checkAlongTrees(t *testing.T, db impl.Database, q impl.Query, trees [][]int) int {
	t.Helper()
	isSuitable := plainIsQueryFor(db, q)
	_, allAnswers, areFew := plainAnswers(db, q)
	var allReduced []impl.VarRelation
	if isSuitable {
		allReduced = plainReduced(db, q)
	}
	joinTrees := 0
	for _, parents := range trees {
		arguments := fmt.Sprintf("(%s, %s, %v)", describeDatabase(db), describeQuery(q), short(parents))
		reduced, answers, isJoinTree := allReduced, allAnswers, isSuitable && plainIsJoinTree(q, parents)
		if isJoinTree {
			joinTrees++
		} else {
			reduced, answers = nil, impl.Relation{}
		}
		if got, ok := impl.FullReduction(db, q, forest(parents...)); !sameReduced(got, reduced) || ok != isJoinTree {
			t.Fatalf("FullReduction%s = %s, %v, want %s", arguments, describeReduced(got), ok, describeReduced(reduced))
		}
		got, ok := impl.EvaluateByJoinTree(db, q, forest(parents...))
		checkRelation(t, "EvaluateByJoinTree"+arguments, got, ok, answers, isJoinTree && areFew)
	}
	return joinTrees
}

// reductionCases lists databases, queries, and the rows of each atom that remain.
var reductionCases = []struct {
	db, query string
	reduced   []string
}{
	{"r=2:(0,1) (0,2) (5,6)\ns=2:(1,3) (2,4)\nt=2:(3,7)\n", "(XU)=r(XY),s(YZ),t(ZU)", []string{"(XY)2:(0,1)", "(YZ)2:(1,3)", "(ZU)2:(3,7)"}},
	{"r=2:(0,1) (0,2) (5,6)\ns=2:(1,3) (2,4)\nt=2:(3,7)\n", "(XU)=s(YZ),t(ZU),r(XY)", []string{"(YZ)2:(1,3)", "(ZU)2:(3,7)", "(XY)2:(0,1)"}},
	{"r=2:(0,0) (0,1) (3,3)\n", "(X)=r(XX)", []string{"(X)1:(0) (3)"}},
	{"r=2:(0,0) (0,1) (3,3)\n", "(YX)=r(YX)", []string{"(XY)2:(0,0) (1,0) (3,3)"}},
	{"r=2:\n", "()=r(XY)", []string{"(XY)2:"}},
	{"r=2:(0,1) (1,2) (2,3) (5,6)\n", "(XU)=r(XY),r(YZ),r(ZU)", []string{"(XY)2:(0,1)", "(YZ)2:(1,2)", "(ZU)2:(2,3)"}},
	{"r=2:(0,1) (1,0) (2,2) (3,4)\n", "(X)=r(XY),r(YX)", []string{"(XY)2:(0,1) (1,0) (2,2)", "(XY)2:(0,1) (1,0) (2,2)"}},
	{"r=2:(0,1) (0,2)\ns=2:(1,3) (2,4)\nt=2:(3,5) (4,6)\nu=2:(6,0) (7,0)\n", "(X)=r(XY),s(YZ),t(ZU),u(UV)", []string{"(XY)2:(0,2)", "(YZ)2:(2,4)", "(ZU)2:(4,6)", "(UV)2:(6,0)"}},
	{"r=2:(0,1) (1,1) (2,1)\ns=2:(1,8) (2,8)\nt=2:(0,5) (1,6) (1,7)\n", "(YZU)=r(XY),s(XZ),t(XU)", []string{"(XY)2:(1,1)", "(XZ)2:(1,8)", "(XU)2:(1,6) (1,7)"}},
	{"r=2:(0,1) (1,2)\ns=2:(1,2) (2,0)\nt=2:(0,1) (2,0)\nv=3:(0,1,2) (0,1,3) (1,2,0) (2,2,2)\n", "(X)=v(XYZ),r(XY),s(YZ),t(ZX)", []string{"(XYZ)3:(0,1,2) (1,2,0)", "(XY)2:(0,1) (1,2)", "(YZ)2:(1,2) (2,0)", "(XZ)2:(0,2) (1,0)"}},
	{"r=2:(0,1)\ns=2:\nt=2:(3,7)\n", "(XU)=r(XY),s(YZ),t(ZU)", []string{"(XY)2:", "(YZ)2:", "(ZU)2:"}},
	{"r=2:(0,1)\ns=2:(1,3)\nt=2:\n", "(X)=r(XY),s(YZ),t(ZU)", []string{"(XY)2:", "(YZ)2:", "(ZU)2:"}},
	{"r=2:(0,1)\ns=1:(4) (5)\n", "(X)=r(XY),s(Z)", []string{"(XY)2:(0,1)", "(Z)1:(4) (5)"}},
	{"r=2:(0,1)\ns=1:\n", "(X)=r(XY),s(Z)", []string{"(XY)2:", "(Z)1:"}},
	{"r=2:(0,1)\ns=1:\n", "(X)=s(Z),r(XY)", []string{"(Z)1:", "(XY)2:"}},
	{"r=2:(0,1)\ns=2:(2,3)\nt=1:(4)\n", "(U)=t(U),r(XY),s(YZ)", []string{"(U)1:", "(XY)2:", "(YZ)2:"}},
	{"r=2:(0,1) (2,3)\ns=2:(2,3)\nt=1:(4)\n", "()=r(XY),s(YY),t(Z)", []string{"(XY)2:", "(Y)1:", "(Z)1:"}},
	{"r=2:(0,1) (2,3)\ns=2:(3,4)\nt=2:(7,8) (8,8)\n", "(ZUV)=r(XY),s(YZ),t(UV),t(VV)", []string{"(XY)2:(2,3)", "(YZ)2:(3,4)", "(UV)2:(7,8) (8,8)", "(V)1:(8)"}},
}

func TestFullReduction(t *testing.T) {
	for _, c := range reductionCases {
		db, q := parsedDatabase(t, c.db), parsedQuery(t, c.query)
		for _, parents := range joinTreesOf(q, treesOf(len(q.Atoms))) {
			got, ok := impl.FullReduction(db, q, forest(parents...))
			var texts []string
			for _, b := range got {
				texts = append(texts, formatLabeled(b))
			}
			if !ok || !slices.Equal(texts, c.reduced) {
				t.Errorf("FullReduction(%q, %s, %v) = %v, %v, want %v", c.db, c.query, parents, texts, ok, c.reduced)
			}
		}
		if checkAlongTrees(t, db, q, treesOf(len(q.Atoms))) == 0 {
			t.Errorf("%s has no join tree", c.query)
		}
	}
}

// TestAnswersAlongTrees takes queries that are not acyclic too.
func TestAnswersAlongTrees(t *testing.T) {
	for _, c := range reductionCases {
		db, q := parsedDatabase(t, c.db), parsedQuery(t, c.query)
		for _, output := range outputsOf(q.VariableCount) {
			q.Output = output
			checkAlongTrees(t, db, q, treesOf(len(q.Atoms)))
		}
	}
	for _, c := range answerCases {
		db, q := parsedDatabase(t, c.db), parsedQuery(t, c.query)
		joinTrees := checkAlongTrees(t, db, q, treesOf(len(q.Atoms)))
		tree, ok := impl.BuildJoinTree(q)
		if ok != (joinTrees > 0) {
			t.Errorf("%s has %d join trees", c.query, joinTrees)
		}
		got, gotOk := impl.EvaluateByJoinTree(db, q, tree)
		if gotOk != ok || ok && plainFormatRelation(got) != c.answers {
			t.Errorf("EvaluateByJoinTree(%q, %s) = %s, %v, want %s", c.db, c.query, describe(got), gotOk, c.answers)
		}
	}
}

// TestComponentsWithoutRows takes queries of several components, of which some
// have no rows or no bindings.
func TestComponentsWithoutRows(t *testing.T) {
	for empty := range 1 << 4 {
		db := impl.Database{}
		for i, name := range []string{"a", "b", "c", "d"} {
			count := tableRowLimit
			if empty>>i&1 == 1 {
				count = 0
			}
			db.Tables = append(db.Tables, rangeTable(name, count))
		}
		q := parsedQuery(t, "(UX)=a(X),b(Y),c(Z),d(U)")
		for _, parents := range treesOf(4) {
			reduced, ok := impl.FullReduction(db, q, forest(parents...))
			want := tableRowLimit
			if empty > 0 {
				want = 0
			}
			for i, b := range reduced {
				if len(b.Relation.Rows) != want || plainOrder(b.Variables, []int{i}) != 0 || b.Relation.Arity != 1 {
					t.Fatalf("%v, %v: %s", describeDatabase(db), parents, describeReduced(reduced))
				}
			}
			got, gotOk := impl.EvaluateByJoinTree(db, q, forest(parents...))
			if !ok || len(reduced) != 4 || gotOk != (empty > 0) || gotOk && got.Arity != 2 || len(got.Rows) != 0 {
				t.Fatalf("%s, %v: %s, %v", describeDatabase(db), parents, describe(got), gotOk)
			}
		}
	}
	for _, c := range []struct {
		db, query string
		trees     int
	}{
		{"r=2:(0,1)\ns=2:(2,3)\nt=2:(4,5)\nu=1:(6)\n", "(XU)=r(XY),s(YZ),t(UV),u(V)", 16},
		{"r=2:(0,1)\ns=2:(1,3)\nt=2:(4,5)\nu=1:(5)\n", "(XU)=r(XY),s(YZ),t(UV),u(V)", 16},
		{"r=2:(0,1)\ns=2:(1,3)\nt=2:(4,5)\nu=1:(6)\n", "(XU)=r(XY),s(YZ),t(UV),u(V)", 16},
		{"r=2:(0,1)\ns=2:(1,3)\nt=2:(4,4) (5,5)\nu=1:\n", "(XU)=t(UU),s(YZ),u(V),r(XY)", 32},
		{"r=2:(0,1)\ns=2:(1,3)\nt=2:(4,3) (5,4)\nu=1:(7)\n", "()=t(UU),s(YZ),u(V),r(XY)", 32},
		{"r=2:(0,1)\ns=2:(1,3)\nt=2:(4,4) (5,4)\nu=1:(7)\n", "()=t(UU),s(YZ),u(V),r(XY)", 32},
	} {
		if got := checkAlongTrees(t, parsedDatabase(t, c.db), parsedQuery(t, c.query), treesOf(4)); got != c.trees {
			t.Errorf("%s has %d join trees, want %d", c.query, got, c.trees)
		}
	}
}

// TestAlongTreesForAllSmallRelations takes every relation of two columns and two
// values.
func TestAlongTreesForAllSmallRelations(t *testing.T) {
	relations := subsets(2, rowsOfLength([]int{0, 7}, 2))
	trees := treesUpTo(atomLimit)
	for i, s := range []string{
		"(XZ)=r(XY),s(YZ)", "(ZX)=r(YX),s(YZ)", "(X)=r(XY),s(YX)", "()=r(XX),s(XY)", "(ZX)=r(XY),s(ZU)", "(XY)=r(XX),s(YY)",
		"(U)=r(XY),s(YZ),r(ZU)", "(ZU)=s(ZU),r(XY),s(YZ)", "(YX)=r(XY),s(YX),s(YZ)", "(VX)=r(XY),s(YZ),s(UV)", "(XYZ)=s(XZ),r(XY),s(XX)",
		"(X)=r(XY),s(YZ),s(ZX)",
	} {
		q := parsedQuery(t, s)
		for k, r := range relations {
			for n, other := range relations {
				q.Output = outputsOf(q.VariableCount)[(i+k+n)%(2*q.VariableCount+5)]
				checkAlongTrees(t, database(table("r", r), table("s", other)), q, trees[len(q.Atoms)])
			}
		}
	}
}

func TestAlongTreesForRandomDatabases(t *testing.T) {
	random := rand.New(rand.NewSource(16))
	trees := treesUpTo(atomLimit)
	joinTrees, answered, shorter := 0, 0, 0
	for i := range 1500 {
		db, q := randomDatabase(random, 2+i%3), randomQuery(random)
		found := checkAlongTrees(t, db, q, trees[len(q.Atoms)])
		joinTrees += found
		if found == 0 || len(plainBindings(db, q)) == 0 {
			continue
		}
		answered++
		for k, b := range plainReduced(db, q) {
			if len(b.Relation.Rows) < len(plainAtomBindings(db, q.Atoms[k]).Rows) {
				shorter++
			}
		}
	}
	if joinTrees < 3000 || answered < 500 || shorter < 300 {
		t.Errorf("only %d join trees, %d queries with answers and %d atoms that lose rows but not all", joinTrees, answered, shorter)
	}
}

// TestAlongTreesForAllSetsOfVariables takes queries of all structures, with
// relations that have each row of two values but a few.
func TestAlongTreesForAllSetsOfVariables(t *testing.T) {
	random := rand.New(rand.NewSource(17))
	trees := treesUpTo(atomLimit)
	joinTrees := 0
	for i, q := range queriesOfAllSets() {
		if i%37 != 0 || !plainIsValidQuery(q) {
			continue
		}
		db := impl.Database{}
		for k := range q.Atoms {
			var rows [][]int
			for _, row := range rowsOfLength([]int{3, 4}, len(q.Atoms[k].Vars)) {
				if random.Intn(3) > 0 && len(rows) < tableRowLimit {
					rows = append(rows, row)
				}
			}
			q.Atoms[k].Relation = "abcd"[k : k+1]
			db.Tables = append(db.Tables, table(q.Atoms[k].Relation, relation(len(q.Atoms[k].Vars), rows...)))
		}
		q.Output = outputsOf(q.VariableCount)[i%(2*q.VariableCount+5)]
		joinTrees += checkAlongTrees(t, db, q, trees[len(q.Atoms)])
	}
	if joinTrees < 1000 {
		t.Errorf("only %d join trees", joinTrees)
	}
}

// TestManyBindingsAlongTrees takes numbers of bindings around MaxRows: any tree
// of these atoms is a join tree.
func TestManyBindingsAlongTrees(t *testing.T) {
	for last := 6; last <= 8; last++ {
		db := starDatabase([4]int{11, 11, 11, 3}, [4]int{1, 1, 1, last})
		for _, s := range []string{"(XYZUV)=a(XY),b(XZ),c(XU),d(XV)", "(X)=d(XY),c(XZ),b(XU),a(XV)", "()=b(VX),d(VY),a(VZ),c(VU)"} {
			q := parsedQuery(t, s)
			want := 11*11*11*3 + last
			for _, parents := range treesOf(4) {
				answers, ok := impl.EvaluateByJoinTree(db, q, forest(parents...))
				if ok != (want <= 4000) || ok && len(q.Output) == 5 && len(answers.Rows) != want || !ok && answers.Arity+len(answers.Rows) != 0 {
					t.Fatalf("%s along %v: %s, %v, want %d rows", s, parents, describe(answers), ok, want)
				}
			}
		}
		checkAlongTrees(t, db, parsedQuery(t, "(VX)=d(XY),c(XZ),b(XU),a(XV)"), treesOf(4)[20*(last-6):][:8])
	}
	for _, c := range []struct {
		counts [4]int
		want   int
	}{
		{[4]int{10, 10, 10, 4}, 4000}, {[4]int{4, 10, 10, 10}, 4000}, {[4]int{7, 11, 13, 4}, -1}, {[4]int{15, 16, 16, 1}, 3840},
		{[4]int{16, 16, 1, 16}, -1}, {[4]int{16, 16, 16, 0}, 0}, {[4]int{0, 16, 16, 16}, 0}, {[4]int{16, 0, 16, 16}, 0},
	} {
		db := database(rangeTable("a", c.counts[0]), rangeTable("b", c.counts[1]), rangeTable("c", c.counts[2]), rangeTable("d", c.counts[3]))
		q := parsedQuery(t, "(UZYX)=a(X),b(Y),c(Z),d(U)")
		for _, parents := range treesOf(4) {
			answers, ok := impl.EvaluateByJoinTree(db, q, forest(parents...))
			if ok != (c.want >= 0) || len(answers.Rows) != max(c.want, 0) {
				t.Fatalf("%v along %v: %s, %v, want %d rows", c.counts, parents, describe(answers), ok, c.want)
			}
		}
		if c.want > 0 {
			checkAlongTrees(t, db, q, treesOf(4)[30:32])
		}
	}
}

// TestFewBindingsOfManyRows has more than MaxRows choices of rows for three
// atoms, but few bindings.
func TestFewBindingsOfManyRows(t *testing.T) {
	full := relation(3)
	for i := range tableRowLimit {
		full.Rows = append(full.Rows, []int{i + 3, 18 - i, (i*5)%16 + 3})
	}
	for _, d := range []impl.Relation{full, relation(3, []int{3, 99, 3}), relation(3, []int{3, 4, 5}, []int{99, 4, 5}), relation(3)} {
		db := database(rangeTable("a", 16), rangeTable("b", 16), rangeTable("c", 16), table("d", d))
		for _, s := range []string{"(XYZ)=a(X),b(Y),c(Z),d(XYZ)", "(ZX)=d(XYZ),a(X),b(Y),c(Z)", "(X)=c(Z),b(Y),d(ZXY),a(X)"} {
			if checkAlongTrees(t, db, parsedQuery(t, s), treesOf(4)) != 4 {
				t.Errorf("%s has not 4 join trees", s)
			}
		}
	}
}

// TestUnsuitableQueriesAlongTrees offers join trees of queries that do not suit
// the database.
func TestUnsuitableQueriesAlongTrees(t *testing.T) {
	db := parsedDatabase(t, triangleDatabase)
	q := parsedQuery(t, "(XYZ)=r(XY),s(YZ)")
	unordered, crowded := cloneOfDatabase(db), cloneOfDatabase(db)
	unordered.Tables[0], unordered.Tables[1] = unordered.Tables[1], unordered.Tables[0]
	crowded.Tables = append(crowded.Tables, table("u", relation(2, manyRows(2, tableRowLimit+1)...)))
	for _, c := range []struct {
		db impl.Database
		q  impl.Query
	}{
		{impl.Database{}, q}, {unordered, q}, {crowded, q}, {db, parsedQuery(t, "(XYZ)=r(XY),u(YZ)")}, {db, parsedQuery(t, "(X)=r(X),s(XY)")},
		{parsedDatabase(t, "r=2:(0,1)\ns=1:(2)\n"), q}, {db, query(4, nil, q.Atoms...)}, {db, query(3, []int{0, 0}, q.Atoms...)}, {db, query(3, []int{3}, q.Atoms...)},
		{db, query(2, nil, q.Atoms...)}, {db, impl.Query{}},
	} {
		for _, parents := range [][]int{{1, -1}, {-1, 0}} {
			if got, ok := impl.FullReduction(c.db, c.q, forest(parents...)); ok || len(got) != 0 {
				t.Errorf("FullReduction(%s, %s, %v) = %s, %v", describeDatabase(c.db), describeQuery(c.q), parents, describeReduced(got), ok)
			}
			got, ok := impl.EvaluateByJoinTree(c.db, c.q, forest(parents...))
			checkNone(t, "EvaluateByJoinTree("+describeDatabase(c.db)+", "+describeQuery(c.q)+")", got, ok)
		}
	}
}

// TestAlongTreesForAllDatabases takes suitable and unsuitable queries for valid
// and invalid databases, with the parents of the reduction and a chain.
func TestAlongTreesForAllDatabases(t *testing.T) {
	joinTrees := 0
	for i, db := range allDatabases() {
		for k, q := range queriesFor(db) {
			if (i+k)%2 == 0 {
				continue
			}
			_, parents := plainReduction(q)
			chain := []int{}
			for a := range q.Atoms {
				chain = append(chain, a-1)
			}
			joinTrees += checkAlongTrees(t, db, q, [][]int{parents, chain})
		}
	}
	if joinTrees < 300 {
		t.Errorf("only %d join trees", joinTrees)
	}
	db := parsedDatabase(t, "a=1:(0)\nr=2:(0,0) (0,1) (1,1)\ns=1:(0) (1)\nt=3:(0,0,0)\nz=5:(0,0,0,0,0)\n")
	for i, q := range invalidQueries() {
		if i%3 == 0 {
			checkAlongTrees(t, db, q, [][]int{nil, {-1}, {1, -1}, {-1, 0}, {1, 2, -1}, {-1, 0, 0, 0}})
		}
	}
}

// TestParentsThatAreNoJoinTree takes every list of up to four of these numbers,
// and lists with one wrong number or of another length.
func TestParentsThatAreNoJoinTree(t *testing.T) {
	lists := allRows([]int{-2, -1, 0, 1, 2, 3, 4}, atomLimit)
	for _, v := range wrongParents {
		lists = append(lists, []int{v}, []int{v, -1}, []int{-1, v}, []int{-1, 0, v}, []int{1, -1, 1, v}, []int{-1, 0, 0, 0, v})
	}
	lists = append(lists, nil, slices.Repeat([]int{-1}, 200000), make([]int, 200000), []int{1, 2, 3, -1, 3}, []int{-1, 0, 1, 2, 3})
	for _, c := range []struct{ db, query string }{
		{"r=2:(0,1) (0,2) (5,6)\n", "(X)=r(XY)"},
		{"r=2:(0,1) (0,2) (1,6)\n", "(X)=r(XY),r(YZ)"},
		{"r=2:(0,1) (0,2) (1,6)\ns=2:(6,0) (6,1)\n", "(X)=r(XY),r(YZ),s(ZU)"},
		{"r=2:(0,1) (0,2) (1,6)\ns=2:(6,0) (6,1)\n", "(X)=r(XY),r(YZ),s(ZX)"},
		{"r=2:(0,1) (0,2) (1,6)\ns=2:(6,0) (6,1)\n", "(ZY)=r(XY),s(UZ),r(YU),r(VV)"},
	} {
		checkAlongTrees(t, parsedDatabase(t, c.db), parsedQuery(t, c.query), lists)
	}
}

// TestBothEvaluationsAreEqual compares the answers along each tree with those of
// the reference evaluation.
func TestBothEvaluationsAreEqual(t *testing.T) {
	random := rand.New(rand.NewSource(18))
	trees := treesUpTo(atomLimit)
	acyclic := 0
	for i := range 3000 {
		db, q := randomDatabase(random, 2+i%9), randomQuery(random)
		want, wantOk := impl.EvaluateQuery(db, q)
		built, isAcyclic := impl.BuildJoinTree(q)
		if isAcyclic {
			acyclic++
			got, ok := impl.EvaluateByJoinTree(db, q, built)
			checkRelation(t, "EvaluateByJoinTree", got, ok, want, wantOk)
		}
		for _, parents := range trees[len(q.Atoms)] {
			tree := forest(parents...)
			got, ok := impl.EvaluateByJoinTree(db, q, tree)
			if impl.IsValidJoinTree(q, tree) {
				checkRelation(t, "EvaluateByJoinTree of "+describeQuery(q), got, ok, want, wantOk)
			} else {
				checkNone(t, "EvaluateByJoinTree of "+describeQuery(q), got, ok)
			}
		}
	}
	if acyclic < 1000 {
		t.Errorf("only %d acyclic queries", acyclic)
	}
}

// asTables puts the variables and the rows of each relation into tables, which
// share their memory.
func asTables(all ...impl.VarRelation) impl.Database {
	db := impl.Database{}
	for _, b := range all {
		db.Tables = append(db.Tables, table("v", relation(0, b.Variables)), table("r", b.Relation))
	}
	return db
}

// guardedLabeled returns the relation in guarded memory, and a function that
// reports whether this memory is as it was.
func guardedLabeled(b impl.VarRelation) (impl.VarRelation, func() bool) {
	r, isRelationAsBefore := guardedRelation(b.Relation)
	inside, array := guardedInts(b.Variables)
	saved := slices.Clone(array)
	return labeled(r, inside...), func() bool { return isRelationAsBefore() && slices.Equal(array, saved) }
}

type joinCall struct {
	name string
	call func(a, b impl.VarRelation) (impl.VarRelation, bool)
}

func joinCalls() []joinCall {
	return []joinCall{{"SemiJoin", impl.SemiJoin}, {"NaturalJoin", impl.NaturalJoin}}
}

// checkJoinMemory calls each function of two relations with guarded arguments.
func checkJoinMemory(t *testing.T, first, second impl.VarRelation) {
	t.Helper()
	a, isAAsBefore := guardedLabeled(first)
	b, isBAsBefore := guardedLabeled(second)
	areAsBefore := func() bool { return isAAsBefore() && isBAsBefore() }
	impl.IsValidVarRelation(a)
	impl.EqualVarRelations(a, b)
	for _, c := range joinCalls() {
		call := func() (impl.Database, bool) {
			joined, ok := c.call(a, b)
			return asTables(joined), ok
		}
		if problem := databaseMemoryProblem(call, areAsBefore); problem != "" {
			t.Fatalf("%s(%s, %s): %s", c.name, describeLabeled(first), describeLabeled(second), problem)
		}
	}
}

func TestJoinMemory(t *testing.T) {
	for _, c := range joinCases {
		a, b := parsedLabeled(t, c.first), parsedLabeled(t, c.second)
		checkJoinMemory(t, a, b)
		checkJoinMemory(t, b, a)
		checkJoinMemory(t, a, a)
	}
	valid, invalid := validLabeled(), invalidLabeled()
	for i, a := range valid {
		for k := i % 8; k < len(valid); k += 8 {
			checkJoinMemory(t, a, valid[k])
		}
		for k := i; k < len(invalid); k += len(valid) {
			checkJoinMemory(t, a, invalid[k])
			checkJoinMemory(t, invalid[k], a)
		}
	}
	many := labeled(relation(2, manyRows(2, rowLimit)...), 1, 3)
	for _, b := range []impl.VarRelation{many, labeled(relation(1, []int{3}), 2), labeled(relation(1, []int{3}), 1), labeled(many.Relation, 0, 2), labeled(many.Relation, 0, 3)} {
		checkJoinMemory(t, many, b)
		checkJoinMemory(t, b, many)
	}
}

// checkReductionMemory calls the functions of a database with guarded arguments.
func checkReductionMemory(t *testing.T, first impl.Database, second impl.Query, parents []int) {
	t.Helper()
	db, isDatabaseAsBefore := guardedDatabase(first)
	q, isQueryAsBefore := guardedQuery(second)
	inside, array := guardedInts(parents)
	saved, tree := slices.Clone(array), impl.JoinForest{Parent: inside}
	areAsBefore := func() bool { return isDatabaseAsBefore() && isQueryAsBefore() && slices.Equal(array, saved) }
	for _, c := range []struct {
		name string
		call func() (impl.Database, bool)
	}{
		{"AtomRelation", func() (impl.Database, bool) {
			var all []impl.VarRelation
			for _, a := range q.Atoms[:min(len(q.Atoms), 8)] {
				all = append(all, impl.AtomRelation(db, a))
			}
			return asTables(all...), true
		}},
		{"FullReduction", func() (impl.Database, bool) {
			reduced, ok := impl.FullReduction(db, q, tree)
			return asTables(reduced...), ok
		}},
		{"EvaluateByJoinTree", func() (impl.Database, bool) {
			answers, ok := impl.EvaluateByJoinTree(db, q, tree)
			return database(table("", answers)), ok
		}},
	} {
		if problem := databaseMemoryProblem(c.call, areAsBefore); problem != "" {
			t.Fatalf("%s(%s, %s, %v): %s", c.name, describeDatabase(first), describeQuery(second), short(parents), problem)
		}
	}
}

func TestReductionMemory(t *testing.T) {
	for _, c := range reductionCases {
		db, q := parsedDatabase(t, c.db), parsedQuery(t, c.query)
		for _, parents := range append(treesOf(len(q.Atoms)), nil, []int{-1, -1, 0, 0, 3, 7, 0}) {
			checkReductionMemory(t, db, q, parents)
		}
	}
	random := rand.New(rand.NewSource(19))
	for i := range 400 {
		db, q := randomDatabase(random, 2+i%4), randomQuery(random)
		_, parents := plainReduction(q)
		checkReductionMemory(t, db, q, parents)
	}
	for i, db := range allDatabases() {
		for k, q := range queriesFor(db) {
			if (i+k)%20 == 0 {
				_, parents := plainReduction(q)
				checkReductionMemory(t, db, q, parents)
			}
		}
	}
	checkReductionMemory(t, starDatabase([4]int{10, 10, 10, 4}, [4]int{}), parsedQuery(t, "(VYZUX)=a(XY),b(XZ),c(XU),d(XV)"), []int{2, 0, -1, 2})
	checkReductionMemory(t, starDatabase([4]int{10, 10, 10, 4}, [4]int{1, 1, 1, 1}), parsedQuery(t, "(X)=a(XY),b(XZ),c(XU),d(XV)"), []int{2, 0, -1, 2})
}

// TestReductionPartsMayOverlap passes one relation in several tables, one list
// as the variables of several atoms, and one array as variables and rows.
func TestReductionPartsMayOverlap(t *testing.T) {
	array, variables := []int{9, 3, 4, 3, 4, 8}, []int{1, 0, 1, -1, 0, 0}
	saved, savedVariables := slices.Clone(array), slices.Clone(variables)
	r := relation(2, array[1:3], array[3:5])
	r.Rows[1] = array[4:6]
	db := database(table("r", r), table("s", r), table("t", relation(2, r.Rows[1:]...)))
	q := query(2, variables[:2], atom("r", variables[:2]...), atom("s", variables[1:3]...), atom("t", variables[:2]...))
	if checkAlongTrees(t, db, q, [][]int{variables[3:6], {1, 2, -1}}) != 2 {
		t.Errorf("%s has not both join trees", describeQuery(q))
	}
	reduced, _ := impl.FullReduction(db, q, forest(variables[3:6]...))
	isShared := tablesShareMemory(asTables(reduced...))
	shared := []int{0, 1, 2}
	a, b := labeled(relation(2, shared[:2], shared[1:]), shared[:2]...), labeled(relation(2, shared[:2], shared[1:]), shared[1:]...)
	checkJoins(t, a, b)
	checkJoins(t, b, a)
	checkJoins(t, a, a)
	for _, c := range joinCalls() {
		joined, _ := c.call(a, b)
		isShared = isShared || tablesShareMemory(asTables(joined)) || !slices.Equal(shared, []int{0, 1, 2})
	}
	if isShared || !slices.Equal(array, saved) || !slices.Equal(variables, savedVariables) {
		t.Error("results share memory")
	}
}
