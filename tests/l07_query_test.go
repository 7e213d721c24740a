package tests

import (
	"fmt"
	"math"
	"math/rand"
	"regexp"
	"slices"
	"strings"
	"testing"

	"loop.example/g01917/impl"
)

const atomLimit = 4
const variableLimit = 5

// The conversions compile only if an Atom and a Query have no other fields.
var _ = impl.Atom(struct {
	Relation string
	Vars     []int
}{})
var _ = impl.Query(struct {
	VariableCount int
	Atoms         []impl.Atom
	Output        []int
}{})

func atom(name string, variables ...int) impl.Atom {
	return impl.Atom{Relation: name, Vars: variables}
}

func query(count int, output []int, atoms ...impl.Atom) impl.Query {
	return impl.Query{VariableCount: count, Atoms: atoms, Output: output}
}

// describeQuery keeps messages about large queries readable.
func describeQuery(q impl.Query) string {
	if len(q.Atoms) > 8 {
		return fmt.Sprintf("{%d variables; %d atoms; %v}", q.VariableCount, len(q.Atoms), short(q.Output))
	}
	var atoms []string
	for _, a := range q.Atoms {
		atoms = append(atoms, fmt.Sprintf("%.20q%v", a.Relation, short(a.Vars)))
	}
	return fmt.Sprintf("{%d variables; %s; %v}", q.VariableCount, strings.Join(atoms, ","), short(q.Output))
}

func cloneOfQuery(q impl.Query) impl.Query {
	clone := query(q.VariableCount, append([]int{}, q.Output...))
	for _, a := range q.Atoms {
		clone.Atoms = append(clone.Atoms, atom(strings.Clone(a.Relation), append([]int{}, a.Vars...)...))
	}
	return clone
}

// sameQueries is the test's own comparison of any queries.
func sameQueries(a, b impl.Query) bool {
	if a.VariableCount != b.VariableCount || len(a.Atoms) != len(b.Atoms) || plainOrder(a.Output, b.Output) != 0 {
		return false
	}
	for i, x := range a.Atoms {
		if x.Relation != b.Atoms[i].Relation || plainOrder(x.Vars, b.Atoms[i].Vars) != 0 {
			return false
		}
	}
	return true
}

// plainIsValidQuery is the test's own check of a query.
func plainIsValidQuery(q impl.Query) bool {
	if q.VariableCount < 1 || q.VariableCount > variableLimit || len(q.Atoms) < 1 || len(q.Atoms) > atomLimit {
		return false
	}
	occurring, output := map[int]bool{}, map[int]bool{}
	for _, a := range q.Atoms {
		if !nameFormat.MatchString(a.Relation) || len(a.Vars) < 1 || len(a.Vars) > arityLimit {
			return false
		}
		for _, v := range a.Vars {
			if v < 0 || v >= q.VariableCount {
				return false
			}
			occurring[v] = true
		}
	}
	for _, v := range q.Output {
		if !occurring[v] || output[v] {
			return false
		}
		output[v] = true
	}
	return len(occurring) == q.VariableCount
}

// plainIsQueryFor is the test's own check of a query for a database.
func plainIsQueryFor(db impl.Database, q impl.Query) bool {
	columns := map[string]int{}
	for _, x := range db.Tables {
		columns[x.Name] = x.Relation.Arity
	}
	for _, a := range q.Atoms {
		if count, ok := columns[a.Relation]; !ok || count != len(a.Vars) {
			return false
		}
	}
	return plainIsValidDatabase(db) && plainIsValidQuery(q)
}

// numbered returns the valid query of these atoms in which the variables are
// numbered by their first occurrence.
func numbered(atoms []impl.Atom, output ...int) impl.Query {
	numbers := map[int]int{}
	q := query(0, output)
	for _, a := range atoms {
		renamed := atom(a.Relation)
		for _, v := range a.Vars {
			if _, ok := numbers[v]; !ok {
				numbers[v] = len(numbers)
			}
			renamed.Vars = append(renamed.Vars, numbers[v])
		}
		q.Atoms = append(q.Atoms, renamed)
	}
	q.VariableCount = len(numbers)
	return q
}

// outputsOf returns lists of different variables: none, each one alone, all of
// them in several orders, and some of them.
func outputsOf(count int) [][]int {
	all := [][]int{nil}
	ascending, descending := []int{}, []int{}
	for v := range count {
		all = append(all, []int{v}, []int{v, (v + 1) % count}[:min(2, count)])
		ascending, descending = append(ascending, v), append(descending, count-1-v)
	}
	rotated := append(slices.Clone(ascending[1:]), 0)
	return append(all, ascending, descending, rotated, descending[:count-1])
}

// validQueries contains queries with each number of variables and of atoms,
// atoms of each length, names of each length, and many outputs.
func validQueries() []impl.Query {
	all := []impl.Query{
		query(3, []int{0, 1, 2}, atom("r", 0, 1), atom("s", 1, 2), atom("t", 2, 0)),
		query(3, []int{0, 2}, atom("r", 0, 1), atom("s", 1, 2)),
		query(2, nil, atom("r", 1), atom("r", 0)),
		query(1, []int{0}, atom("r", 0, 0)),
		query(1, []int{}, atom("zzzz", 0, 0, 0, 0, 0)),
	}
	for atoms := 1; atoms <= atomLimit; atoms++ {
		for step := range 60 {
			var list []impl.Atom
			for i := range atoms {
				a := atom(sampleNames[(step+7*i)%len(sampleNames)])
				for k := range 1 + (step+i*(step%3))%arityLimit {
					a.Vars = append(a.Vars, (k*(1+step%4)+i*(step%2)+step/7)%(1+step%variableLimit))
				}
				list = append(list, a)
			}
			for _, output := range outputsOf(numbered(list).VariableCount) {
				all = append(all, numbered(list, output...))
			}
		}
	}
	return append(all, queriesOfEachShape()...)
}

// queriesOfEachShape puts all of the variables into one atom, into two, and
// one each into several, also in descending order.
func queriesOfEachShape() []impl.Query {
	var all []impl.Query
	for count := 1; count <= variableLimit; count++ {
		for _, output := range outputsOf(count) {
			orders := outputsOf(count)[2*count+1 : 2*count+4]
			for _, order := range orders {
				all = append(all, query(count, output, atom("r", order...)), query(count, output, atom("r", order...), atom("r", order...), atom("s", order[0]), atom("abcd", 0, 0, 0, 0, 0)))
				half := (count + 1) / 2
				all = append(all, query(count, output, atom("xyzz", order[:half]...), atom("a", order[count-half:]...)))
				if count <= atomLimit {
					q := query(count, output)
					for _, v := range order {
						q.Atoms = append(q.Atoms, atom("one", v))
					}
					all = append(all, q)
				}
			}
		}
	}
	return all
}

// queryNames are invalid names that look like a part of a query.
var queryNames = []string{
	"(", ")", ",", "r(", "(r", "r)", ",r", "r,", "r,s", "()", "r()", "(X)", "r(X)", "(X)r", "(X)=", "(X)=r", "r(X),s", "X", "rX", "Xr", "r\n", "XYZU",
}

// wrongVariables are no variables of any query.
var wrongVariables = []int{math.MinInt, -1 << 32, -256, -variableLimit, -2, -1, variableLimit, variableLimit + 1, 7, 10, 64, 88, 255, 256, 1 << 32, math.MaxInt}

// queriesWithOneFault changes one part of a valid query.
func queriesWithOneFault(q impl.Query) []impl.Query {
	var all []impl.Query
	with := func(change func(q *impl.Query)) {
		changed := cloneOfQuery(q)
		change(&changed)
		all = append(all, changed)
	}
	for _, count := range append(slices.Clone(wrongVariables), 0, q.VariableCount-1, q.VariableCount+1) {
		if count != variableLimit || q.VariableCount != variableLimit {
			with(func(q *impl.Query) { q.VariableCount = count })
		}
	}
	for _, v := range append(slices.Clone(wrongVariables), q.VariableCount) {
		with(func(q *impl.Query) { q.Output = append(q.Output, v) })
		with(func(q *impl.Query) { q.Output = append([]int{v}, q.Output...) })
		for i := range q.Atoms {
			with(func(q *impl.Query) { q.Atoms[i].Vars[len(q.Atoms[i].Vars)-1] = v })
			with(func(q *impl.Query) { q.Atoms[i].Vars[0] = v })
			with(func(q *impl.Query) { q.Atoms[i].Vars = append(q.Atoms[i].Vars, v) })
		}
	}
	for _, v := range q.Output {
		with(func(q *impl.Query) { q.Output = append(q.Output, v) })
		with(func(q *impl.Query) { q.Output = append([]int{v}, q.Output...) })
	}
	with(func(q *impl.Query) { q.Atoms = nil })
	for i := range q.Atoms {
		for _, name := range slices.Concat(invalidNames, queryNames) {
			with(func(q *impl.Query) { q.Atoms[i].Relation = name })
		}
		for _, name := range []string{"", "r"} {
			with(func(q *impl.Query) { q.Atoms = slices.Insert(q.Atoms, i, atom(name)) })
		}
		with(func(q *impl.Query) { q.Atoms[i].Vars = nil })
		with(func(q *impl.Query) {
			for len(q.Atoms[i].Vars) <= arityLimit {
				q.Atoms[i].Vars = append(q.Atoms[i].Vars, 0)
			}
		})
		with(func(q *impl.Query) {
			for len(q.Atoms) <= atomLimit {
				q.Atoms = append(q.Atoms, q.Atoms[i])
			}
		})
	}
	return all
}

// invalidQueries contains queries that nothing is right about, and those with
// one fault.
func invalidQueries() []impl.Query {
	all := []impl.Query{
		{}, {VariableCount: 1}, {VariableCount: 5, Output: []int{0, 1, 2, 3, 4}}, {Output: []int{0}},
		{Atoms: make([]impl.Atom, 1)}, {VariableCount: 1, Atoms: make([]impl.Atom, 1)}, {VariableCount: 1, Atoms: make([]impl.Atom, 1000)},
		query(0, nil, atom("r")), query(1, []int{0}, atom("r")), query(1, make([]int, 1000), atom("r", 0)), query(1, nil, atom("r", make([]int, 1000)...)),
		query(2, nil, atom("r", 0), atom("s", 0)), query(3, nil, atom("r", 2)), query(5, []int{3}, atom("r", 0, 1, 2, 4)),
		query(math.MaxInt, nil, atom("r", 0)), query(math.MinInt, nil, atom("r", 0)), query(6, nil, atom("r", 0, 1, 2, 3, 4), atom("r", 5)), query(6, nil, atom("r", 0, 1, 2, 3, 4, 5)),
	}
	for i, q := range validQueries() {
		if i%23 == 0 {
			all = append(all, queriesWithOneFault(q)...)
		}
	}
	return all
}

func allQueries() []impl.Query {
	return append(validQueries(), invalidQueries()...)
}

func checkQuery(t *testing.T, call string, got impl.Query, ok bool, want impl.Query, wantOk bool) {
	t.Helper()
	if !sameQueries(got, want) || ok != wantOk {
		t.Fatalf("%s = %s, %v, want %s, %v", call, describeQuery(got), ok, describeQuery(want), wantOk)
	}
}

func TestQueryLimits(t *testing.T) {
	if impl.MaxAtoms != atomLimit || impl.MaxVars != variableLimit {
		t.Errorf("MaxAtoms = %d, MaxVars = %d", impl.MaxAtoms, impl.MaxVars)
	}
}

func TestIsValidQuery(t *testing.T) {
	for _, c := range []struct {
		q    impl.Query
		want bool
	}{
		{query(1, nil, atom("r", 0)), true},
		{query(1, []int{0}, atom("r", 0, 0, 0, 0, 0)), true},
		{query(5, []int{4, 2, 0, 1, 3}, atom("abcd", 4, 3, 2, 1, 0)), true},
		{query(5, []int{4}, atom("r", 0), atom("r", 1), atom("r", 2), atom("r", 4, 3)), true},
		{query(2, []int{0}, atom("r", 1), atom("s", 0)), true},
		{impl.Query{}, false},
		{query(0, nil), false},
		{query(1, nil), false},
		{query(0, nil, atom("r")), false},
		{query(1, nil, atom("r")), false},
		{query(6, nil, atom("r", 0, 1, 2), atom("r", 3, 4, 5)), false},
		{query(1, nil, atom("r", 0), atom("r", 0), atom("r", 0), atom("r", 0), atom("r", 0)), false},
		{query(1, nil, atom("r", 0, 0, 0, 0, 0, 0)), false},
		{query(1, nil, atom("R", 0)), false},
		{query(1, nil, atom("", 0)), false},
		{query(1, nil, atom("abcde", 0)), false},
		{query(1, nil, atom("r", 0, 1)), false},
		{query(1, nil, atom("r", 0, -1)), false},
		{query(2, nil, atom("r", 0)), false},
		{query(2, nil, atom("r", 1)), false},
		{query(3, []int{0, 2}, atom("r", 0), atom("s", 2)), false},
		{query(2, []int{0, 0}, atom("r", 0, 1)), false},
		{query(2, []int{0, 1, 0}, atom("r", 0, 1)), false},
		{query(2, []int{2}, atom("r", 0, 1)), false},
		{query(2, []int{-1}, atom("r", 0, 1)), false},
	} {
		if got := impl.IsValidQuery(c.q); got != c.want {
			t.Errorf("IsValidQuery(%s) = %v", describeQuery(c.q), got)
		}
	}
	for _, q := range validQueries() {
		if !plainIsValidQuery(q) || !impl.IsValidQuery(q) {
			t.Fatalf("%s is valid", describeQuery(q))
		}
	}
	for _, q := range invalidQueries() {
		if plainIsValidQuery(q) || impl.IsValidQuery(q) {
			t.Fatalf("%s is invalid", describeQuery(q))
		}
	}
}

// TestIsValidQueryForAllSmallQueries takes every query of up to two atoms of up
// to two of these variables.
func TestIsValidQueryForAllSmallQueries(t *testing.T) {
	lists := allRows([]int{-1, 0, 1, 2}, 2)
	bodies := [][]impl.Atom{nil}
	for _, first := range lists {
		bodies = append(bodies, []impl.Atom{atom("r", first...)})
		for _, second := range lists {
			bodies = append(bodies, []impl.Atom{atom("s", first...), atom("r", second...)})
		}
	}
	for _, atoms := range bodies {
		for _, output := range allRows([]int{-1, 0, 1, 2}, 3) {
			for count := -1; count <= 4; count++ {
				q := query(count, output, atoms...)
				if got := impl.IsValidQuery(q); got != plainIsValidQuery(q) {
					t.Fatalf("IsValidQuery(%s) = %v", describeQuery(q), got)
				}
			}
		}
	}
}

// TestVariableThatOccursInNoAtom spreads each set of variables over one to four
// atoms.
func TestVariableThatOccursInNoAtom(t *testing.T) {
	for count := 1; count <= variableLimit; count++ {
		for set := 1; set < 1<<count; set++ {
			for atoms := 1; atoms <= atomLimit; atoms++ {
				q := query(count, nil)
				for range atoms {
					q.Atoms = append(q.Atoms, atom("r"))
				}
				for v := range count {
					if set>>v&1 == 1 {
						q.Atoms[v%atoms].Vars = append(q.Atoms[v%atoms].Vars, v)
						q.Output = append([]int{v}, q.Output...)
					}
				}
				for i := range q.Atoms {
					if len(q.Atoms[i].Vars) == 0 {
						q.Atoms[i].Vars = []int{q.Output[0]}
					}
				}
				if got := impl.IsValidQuery(q); got != (set == 1<<count-1) {
					t.Errorf("IsValidQuery(%s) = %v", describeQuery(q), got)
				}
				if got := impl.FormatQuery(q); (got != "") != (set == 1<<count-1) {
					t.Errorf("FormatQuery(%s) = %q", describeQuery(q), got)
				}
				checkParseQuery(t, plainFormatQuery(q))
			}
		}
	}
}

func TestIsValidQueryForAllOutputs(t *testing.T) {
	for count := 1; count <= variableLimit; count++ {
		for _, output := range allRows([]int{-1, 0, 1, 2, 3, 4, 5}, variableLimit+1) {
			q := query(count, output, atom("r", outputsOf(count)[2*count+1]...))
			if got := impl.IsValidQuery(q); got != plainIsValidQuery(q) {
				t.Fatalf("IsValidQuery(%s) = %v", describeQuery(q), got)
			}
		}
	}
}

func TestIsValidQueryWithNumbersOfAtoms(t *testing.T) {
	for atoms := range 10 {
		for variables := range 10 {
			q := query(1, nil)
			for range atoms {
				q.Atoms = append(q.Atoms, atom("r", make([]int, variables)...))
			}
			want := atoms >= 1 && atoms <= 4 && variables >= 1 && variables <= 5
			if got := impl.IsValidQuery(q); got != want {
				t.Errorf("IsValidQuery(%s) = %v", describeQuery(q), got)
			}
			if want {
				q.Atoms[atoms-1].Vars = make([]int, 6)
				if impl.IsValidQuery(q) {
					t.Errorf("%s is invalid", describeQuery(q))
				}
			}
		}
	}
}

func TestIsQueryFor(t *testing.T) {
	db := database(table("r", relation(2, []int{0, 1}, []int{0, 2}, []int{1, 2})), table("s", relation(2)), table("t", relation(1)), table("uuuu", relation(5, validRow(5))))
	for _, c := range []struct {
		q    impl.Query
		want bool
	}{
		{query(3, []int{0, 1, 2}, atom("r", 0, 1), atom("s", 1, 2), atom("r", 2, 0)), true},
		{query(2, nil, atom("s", 1, 0)), true},
		{query(1, []int{0}, atom("t", 0), atom("t", 0), atom("r", 0, 0), atom("uuuu", 0, 0, 0, 0, 0)), true},
		{query(5, nil, atom("uuuu", 4, 3, 2, 1, 0)), true},
		{query(1, nil, atom("r", 0)), false},
		{query(3, nil, atom("r", 0, 1, 2)), false},
		{query(2, nil, atom("t", 0, 1)), false},
		{query(2, nil, atom("r", 0, 1), atom("t", 1, 0)), false},
		{query(4, nil, atom("uuuu", 3, 2, 1, 0)), false},
		{query(2, nil, atom("u", 0, 1)), false},
		{query(2, nil, atom("r", 0, 1), atom("rr", 0, 1)), false},
		{query(2, nil, atom("a", 0, 1)), false},
		{query(2, nil, atom("zzzz", 0, 1)), false},
		{query(2, nil, atom("R", 0, 1)), false},
		{query(3, nil, atom("r", 0, 1)), false},
		{query(2, []int{0, 0}, atom("r", 0, 1)), false},
		{query(2, nil), false},
		{impl.Query{}, false},
	} {
		if got := impl.IsQueryFor(db, c.q); got != c.want {
			t.Errorf("IsQueryFor(%s, %s) = %v", describeDatabase(db), describeQuery(c.q), got)
		}
		if impl.IsQueryFor(database(), c.q) {
			t.Errorf("the empty database has no relation for %s", describeQuery(c.q))
		}
	}
}

// TestIsQueryForInvalidDatabases takes databases in which the query's relations
// are as they should be.
func TestIsQueryForInvalidDatabases(t *testing.T) {
	r, s := table("r", relation(2, []int{0, 1})), table("s", relation(1, []int{4}))
	q := query(2, []int{0}, atom("r", 0, 1), atom("s", 1))
	if !impl.IsQueryFor(database(r, s), q) || !impl.IsQueryFor(database(table("a", relation(5)), r, table("rr", relation(1)), s, table("t", relation(3)), table("z", relation(2))), q) {
		t.Error("the databases are valid")
	}
	for _, db := range []impl.Database{
		database(s, r), database(r, r, s), database(r, s, s), database(r, table("rA", relation(1)), s), database(r, s, table("zzzzz", relation(1))), database(table("", relation(1)), r, s),
		database(r, s, table("t", relation(0))), database(table("a", relation(6)), r, s), database(r, s, table("t", relation(1, []int{100}))), database(r, s, table("t", relation(1, []int{1}, []int{0}))),
		database(r, s, table("t", relation(2, manyRows(2, tableRowLimit+1)...))), database(r, s, table("t", relation(1)), table("u", relation(1)), table("v", relation(1)), table("w", relation(1)), table("x", relation(1))),
		database(table("r", relation(2, []int{0, -1})), s), database(table("r", relation(2, []int{0})), s), database(r, table("s", relation(1, []int{4}, []int{4}))),
	} {
		if impl.IsQueryFor(db, q) {
			t.Errorf("%s is invalid", describeDatabase(db))
		}
	}
}

// queriesFor contains queries for the database and some that differ from them
// in a name, in a number of variables, or in being invalid.
func queriesFor(db impl.Database) []impl.Query {
	var all []impl.Query
	tables := db.Tables[:min(len(db.Tables), tableLimit+1)]
	for start := range tables {
		var atoms []impl.Atom
		for i := range min(atomLimit+1, 2*len(tables)) {
			x := tables[(start+i)%len(tables)]
			a := atom(x.Name)
			for k := range min(max(x.Relation.Arity, 0), arityLimit+1) {
				a.Vars = append(a.Vars, (2*k+i+start)%variableLimit)
			}
			atoms = append(atoms, a)
			all = append(all, numbered(slices.Clone(atoms), 0), numbered(append(slices.Clone(atoms[:i]), atom(x.Name, append(slices.Clone(a.Vars), 1)...))))
			all = append(all, numbered(append(slices.Clone(atoms[:i]), atom(x.Name, a.Vars[:max(len(a.Vars)-1, 0)]...))), numbered(append(slices.Clone(atoms[:i]), atom(x.Name+"a", a.Vars...))))
			wrong := numbered(slices.Clone(atoms))
			wrong.VariableCount++
			all = append(all, wrong, numbered(slices.Clone(atoms), 0, 0))
		}
	}
	return all
}

func TestIsQueryForAllDatabases(t *testing.T) {
	queries := allQueries()
	fitting := 0
	for i, db := range allDatabases() {
		candidates := queriesFor(db)
		for k := i % 97; k < len(queries); k += 97 {
			candidates = append(candidates, queries[k])
		}
		for _, q := range candidates {
			want := plainIsQueryFor(db, q)
			if got := impl.IsQueryFor(db, q); got != want {
				t.Fatalf("IsQueryFor(%s, %s) = %v", describeDatabase(db), describeQuery(q), got)
			}
			if want {
				fitting++
			}
		}
	}
	if fitting < 1000 {
		t.Errorf("only %d queries fit", fitting)
	}
}

func TestVariableName(t *testing.T) {
	for v, want := range []string{"X", "Y", "Z", "U", "V"} {
		if got := impl.VariableName(v); got != want {
			t.Errorf("VariableName(%d) = %q", v, got)
		}
	}
	others := slices.Concat(wrongVariables, sampleNumbers(math.MaxInt))
	for v := -300; v <= 300; v++ {
		others = append(others, v)
	}
	for _, v := range others {
		if got := impl.VariableName(v); got != "" && (v < 0 || v >= variableLimit) {
			t.Errorf("VariableName(%d) = %q", v, got)
		}
	}
}

// plainVariables is the test's own format of variables; those of an invalid
// query may have no letter.
func plainVariables(variables []int) string {
	text := "("
	for _, v := range variables {
		text += map[int]string{0: "X", 1: "Y", 2: "Z", 3: "U", 4: "V"}[v]
	}
	return text + ")"
}

// plainFormatQuery is the test's own format of a query.
func plainFormatQuery(q impl.Query) string {
	text := plainVariables(q.Output)
	for i, a := range q.Atoms {
		text += string("=,"[min(i, 1)]) + a.Relation + plainVariables(a.Vars)
	}
	return text
}

func TestFormatQuery(t *testing.T) {
	for _, c := range []struct {
		q    impl.Query
		want string
	}{
		{query(3, []int{0, 2}, atom("r", 0, 1), atom("s", 1, 2)), "(XZ)=r(XY),s(YZ)"},
		{query(3, []int{0, 1, 2}, atom("r", 0, 1), atom("s", 1, 2), atom("t", 2, 0)), "(XYZ)=r(XY),s(YZ),t(ZX)"},
		{query(1, nil, atom("r", 0)), "()=r(X)"},
		{query(1, []int{0}, atom("r", 0, 0), atom("r", 0)), "(X)=r(XX),r(X)"},
		{query(5, []int{4, 3, 2, 1, 0}, atom("abcd", 0, 1, 2, 3, 4)), "(VUZYX)=abcd(XYZUV)"},
		{query(4, []int{3}, atom("z", 3), atom("yy", 2), atom("xxx", 1), atom("wwww", 0)), "(U)=z(U),yy(Z),xxx(Y),wwww(X)"},
		{impl.Query{}, ""},
		{query(1, nil), ""},
		{query(2, nil, atom("r", 0)), ""},
		{query(1, []int{0, 0}, atom("r", 0)), ""},
		{query(1, nil, atom("r(X),s", 0)), ""},
		{query(6, nil, atom("r", 0, 1, 2), atom("s", 3, 4, 5)), ""},
	} {
		if got := impl.FormatQuery(c.q); got != c.want {
			t.Errorf("FormatQuery(%s) = %q, want %q", describeQuery(c.q), got, c.want)
		}
	}
	for _, q := range validQueries() {
		if got := impl.FormatQuery(q); got != plainFormatQuery(q) {
			t.Fatalf("FormatQuery(%s) = %q", describeQuery(q), got)
		}
	}
	for _, q := range invalidQueries() {
		if got := impl.FormatQuery(q); got != "" {
			t.Fatalf("FormatQuery(%s) = %.60q", describeQuery(q), got)
		}
	}
}

// TestFormatsOfQueriesDiffer counts the different formats.
func TestFormatsOfQueriesDiffer(t *testing.T) {
	queries := map[string]impl.Query{}
	for _, q := range validQueries() {
		s := impl.FormatQuery(q)
		if other, ok := queries[s]; ok && !sameQueries(other, q) {
			t.Fatalf("%q is the format of %s and of %s", s, describeQuery(other), describeQuery(q))
		}
		queries[s] = q
	}
}

var atomFormat = `([a-z]{1,4})\(([XYZUV]{1,5})\)`
var oneAtomFormat = regexp.MustCompile(atomFormat)
var queryFormat = regexp.MustCompile(`^\(([XYZUV]*)\)=` + atomFormat + `(?:,` + atomFormat + `){0,3}$`)

// plainNumbers is the test's own reading of variables.
func plainNumbers(letters string) []int {
	var variables []int
	for i := range len(letters) {
		variables = append(variables, strings.IndexByte("XYZUV", letters[i]))
	}
	return variables
}

// plainParseQuery is the test's own parser of queries.
func plainParseQuery(s string) (impl.Query, bool) {
	if !queryFormat.MatchString(s) {
		return impl.Query{}, false
	}
	head, body, _ := strings.Cut(s, "=")
	q := query(0, plainNumbers(head[1:len(head)-1]))
	for _, parts := range oneAtomFormat.FindAllStringSubmatch(body, -1) {
		q.Atoms = append(q.Atoms, atom(parts[1], plainNumbers(parts[2])...))
		q.VariableCount = max(q.VariableCount, 1+slices.Max(plainNumbers(parts[2])))
	}
	if !plainIsValidQuery(q) {
		return impl.Query{}, false
	}
	return q, true
}

func checkParseQuery(t *testing.T, s string) {
	t.Helper()
	want, wantOk := plainParseQuery(s)
	got, ok := impl.ParseQuery(s)
	if !sameQueries(got, want) || ok != wantOk {
		t.Fatalf("ParseQuery(%.80q) = %s, %v", s, describeQuery(got), ok)
	}
	if ok && (impl.FormatQuery(got) != s || !impl.IsValidQuery(got)) {
		t.Fatalf("%.80q is parsed, but is not the format of %s", s, describeQuery(got))
	}
}

func TestParseQuery(t *testing.T) {
	got, ok := impl.ParseQuery("(XZ)=r(XY),s(YZ)")
	checkQuery(t, "ParseQuery", got, ok, query(3, []int{0, 2}, atom("r", 0, 1), atom("s", 1, 2)), true)
	got, ok = impl.ParseQuery("()=r(ZX),rs(Y)")
	checkQuery(t, "ParseQuery", got, ok, query(3, nil, atom("r", 2, 0), atom("rs", 1)), true)
	for _, q := range validQueries() {
		got, ok := impl.ParseQuery(plainFormatQuery(q))
		checkQuery(t, "ParseQuery of the format of "+describeQuery(q), got, ok, q, true)
		checkParseQuery(t, plainFormatQuery(q))
	}
	for _, q := range invalidQueries() {
		checkParseQuery(t, plainFormatQuery(q))
	}
}

func TestParseQueryRejects(t *testing.T) {
	rejected := []string{
		"", "=", "()", "()=", "(X)=", "(X)", "r(X)", "=r(X)", "X=r(X)", "(X=r(X)", "X)=r(X)", "(X)r(X)", "(X)==r(X)", "(X)=(X)=r(X)", "((X))=r(X)", "(X)=r((X))", "(X)=(r(X))", "()()=r(X)", "(X)()=r(X)",
		"(Y)=r(X)", "(XX)=r(X)", "(XYX)=r(XY)", "(XYZUVX)=r(XYZUV)", "()=r(Y)", "()=r(Z)", "()=r(V)", "()=r(XZ)", "(XZ)=r(X),s(Z)", "()=r(YZUV)", "(W)=r(W)", "(X)=r(XW)", "(XW)=r(X)", "(XA)=r(XA)", "(XT)=r(XT)",
		"(X)=r(X", "(X)=rX)", "(X)=rX", "(X)=r", "(X)=r()", "(X)=()", "(X)=(X)", "(X)=r(X),", "(X)=,r(X)", "(X)=r(X),,r(X)", "(X)=,", "(X)=r(X)s(X)", "(X)=r(X);s(X)", "(X)=r(X)=s(X)", "(X)=r(X),s", "(X)=r(X),s()", "(X)=r(X),(X)", "(X)=r(X),s(X",
		"(X)=r(XXXXXX)", "(XYZUV)=r(XYZUVX)", "(X)=abcde(X)", "(X)=r(X),abcde(X)", "(X)=r(X),r(X),r(X),r(X),r(X)", "(X)=r(X),r(X),r(X),r(X),", "(X)=r(X),r(X),r(X),r(X)r(X)", "(X)=r(X),r(X),r(X),r(X,r(X)",
		"(x)=r(X)", "(X)=r(x)", "(x)=r(x)", "(X)=R(X)", "(X)=rR(X)", "(X)=r1(X)", "(X)=X(X)", "(0)=r(0)", "(X)=r(0)", "(X,Y)=r(XY)", "(XY)=r(X,Y)", "(X Y)=r(XY)", "(XY)=r(X Y)",
		" (X)=r(X)", "(X)=r(X) ", "(X) =r(X)", "(X)= r(X)", "( X)=r(X)", "(X )=r(X)", "(X)=r( X)", "(X)=r (X)", "(X)=r(X), s(X)", "(X)=r(X) ,s(X)", "(X)=r(X)\n", "\n(X)=r(X)", "(X)=r(X)\n,s(X)", "(X\n)=r(X)", "(X)=r(X)\x00", "\x00(X)=r(X)",
		"(X)=r(X)(X)", "(X)=r(X))", "(X)=r)X(", ")X(=r(X)", "[X]=r(X)", "(X)=r[X]", "(X)<-r(X)", "(X):=r(X)", "(X)=r(X)&s(X)", "q(X)=r(X)",
	}
	for _, letter := range []string{"\xff", "\x80", "\xe1", "\xc3", "\ufffd", "\u0158", "\u0458", "\U00010058", "Ｘ", "Х", "é", "\xed\xa0\x80", "\xf4\x90\x80\x80", "X\u0301", "\x00", "X\xff", "\xffX", "(", ")", "=", ","} {
		rejected = append(rejected, "("+letter+")=r(X)", "()=r("+letter+")", "(X)=r(X"+letter+")", "(X"+letter+")=r(X)", "(X)=r(X),s("+letter+"X)", "(X)=r"+letter+"(X)", "(X)="+letter+"(X)", letter+"(X)=r(X)", "(X)=r(X)"+letter, letter)
	}
	for _, name := range slices.Concat(invalidNames, queryNames) {
		rejected = append(rejected, "(X)="+name+"(X)", "(X)=r(X),"+name+"(X)", "(X)="+name+"(X),r(X)", name)
	}
	for _, s := range rejected {
		// A name such as r(X),s in place of a name is a query after all.
		if _, ok := plainParseQuery(s); ok {
			checkParseQuery(t, s)
			continue
		}
		got, ok := impl.ParseQuery(s)
		checkQuery(t, fmt.Sprintf("ParseQuery(%.60q)", s), got, ok, impl.Query{}, false)
	}
}

func TestParseQueryAcceptsNothingElse(t *testing.T) {
	for _, s := range slices.Concat(allStrings(allBytes(), 2), allStrings("X()=r,", 7), allStrings("XYr()=", 6)) {
		checkParseQuery(t, s)
	}
	for _, prefix := range []string{"(", "()", "()=", "()=r", "()=r(", "(Y", "(Y)=r(X", "(X)=r(X)", "(X)=r(X),", "(XZ)=r(XY),s(", "(Y)=abc", "(X)=r(Y),r(Z),r(X),", "(X)=r(X),r(X),r(X),r(X)", "()=r(XYZ"} {
		for _, s := range allStrings("XYZVrs(),=", 3) {
			checkParseQuery(t, prefix+s)
			checkParseQuery(t, prefix+s+")")
			checkParseQuery(t, prefix+s+"(X)")
			checkParseQuery(t, prefix+s+")=r(YX)")
		}
	}
}

// TestParseQueryForAllVariables takes each list of up to six letters as the
// only atom's variables, and as the output of a query of two variables.
func TestParseQueryForAllVariables(t *testing.T) {
	for _, letters := range allStrings("XYZUVW", 6) {
		checkParseQuery(t, "()=r("+letters+")")
		checkParseQuery(t, "("+letters+")=r(YX)")
		checkParseQuery(t, "("+letters+")=r(XYZ),s(UV)")
		checkParseQuery(t, "(Z)=r(Z),s("+letters+")")
	}
}

func TestParseQueryWithOneChange(t *testing.T) {
	for _, s := range []string{
		"()=r(X)", "(X)=r(X)", "(XZ)=r(XY),s(YZ)", "(XYZ)=r(XY),s(YZ),t(ZX)", "(VUZYX)=abcd(XYZUV)", "(X)=r(XX),r(X),s(X),r(XXXXX)", "(UV)=a(XYZUV),bb(X),ccc(UV),dddd(V)",
	} {
		for _, changed := range changesOf(s) {
			checkParseQuery(t, changed)
		}
	}
}

// TestParseRandomTexts joins parts of queries in a random order.
func TestParseRandomTexts(t *testing.T) {
	random := rand.New(rand.NewSource(7))
	parts := []string{"(", ")", "=", ",", "X", "Y", "Z", "U", "V", "r", "s", "abcd", "(X)", "(XY)", "(Y)", "=r(XY)", ",s(Y)", ")=", "),", "\xff", "W"}
	parsed := 0
	for range 300000 {
		s := ""
		for range 1 + random.Intn(5) {
			s += parts[random.Intn(len(parts))]
		}
		checkParseQuery(t, s)
		if _, ok := impl.ParseQuery(s); ok {
			parsed++
		}
	}
	if parsed < 100 {
		t.Errorf("only %d queries are parsed", parsed)
	}
}

func TestParseLongQueries(t *testing.T) {
	for _, part := range []string{"(", ")", "=", ",", "X", "XYZUV", "r", "r(X)", "r(X),", ",r(X)", "(X)=r(X)", "()", "\x00", "\xff", "é", "\n"} {
		long := strings.Repeat(part, 30000)
		for _, prefix := range []string{"", "(", "(X", "(X)=", "(X)=r", "(X)=r(", "(X)=r(X", "(X)=r(X)", "(X)=r(X),", "(X)=r(X),r(X),r(X),r(X),"} {
			for _, suffix := range []string{"", ")", "(X)", ")=r(X)", "=r(X)"} {
				checkParseQuery(t, prefix+long+suffix)
			}
		}
	}
}

func TestEqualQueries(t *testing.T) {
	all := allQueries()
	for i, a := range all {
		for k := i % 61; k < len(all); k += 61 {
			if got := impl.EqualQueries(a, all[k]); got != sameQueries(a, all[k]) {
				t.Fatalf("EqualQueries(%s, %s) = %v", describeQuery(a), describeQuery(all[k]), got)
			}
		}
		if !impl.EqualQueries(a, a) || !impl.EqualQueries(a, cloneOfQuery(a)) {
			t.Fatalf("%s is not equal to itself", describeQuery(a))
		}
	}
	if !impl.EqualQueries(impl.Query{}, query(0, []int{}, []impl.Atom{}...)) || !impl.EqualQueries(impl.Query{Atoms: []impl.Atom{}}, query(0, []int{})) || !impl.EqualQueries(query(1, nil, impl.Atom{}), query(1, []int{}, impl.Atom{Vars: []int{}})) {
		t.Error("nil and empty slices are not equal")
	}
}

// TestEqualQueriesWithOneDifference changes one part of each query.
func TestEqualQueriesWithOneDifference(t *testing.T) {
	for _, a := range allQueries() {
		var changed []impl.Query
		with := func(change func(q *impl.Query)) {
			b := cloneOfQuery(a)
			change(&b)
			changed = append(changed, b)
		}
		with(func(q *impl.Query) { q.VariableCount++ })
		with(func(q *impl.Query) { q.VariableCount -= 256 })
		with(func(q *impl.Query) { q.Output = append(q.Output, 0) })
		with(func(q *impl.Query) { q.Atoms = append(q.Atoms, impl.Atom{}) })
		for i := range a.Output[:min(len(a.Output), 9)] {
			with(func(q *impl.Query) { q.Output[i]++ })
			with(func(q *impl.Query) { q.Output = q.Output[:i] })
		}
		for i := range a.Atoms[:min(len(a.Atoms), 9)] {
			with(func(q *impl.Query) { q.Atoms[i].Relation += "a" })
			with(func(q *impl.Query) { q.Atoms[i].Vars = append(q.Atoms[i].Vars, 0) })
			with(func(q *impl.Query) { q.Atoms = q.Atoms[:i] })
			for k := range a.Atoms[i].Vars[:min(len(a.Atoms[i].Vars), 9)] {
				with(func(q *impl.Query) { q.Atoms[i].Vars[k]++ })
				with(func(q *impl.Query) { q.Atoms[i].Vars = q.Atoms[i].Vars[:k] })
			}
		}
		for _, b := range changed {
			if impl.EqualQueries(a, b) || impl.EqualQueries(b, a) {
				t.Fatalf("%s is equal to %s", describeQuery(a), describeQuery(b))
			}
		}
	}
}

// TestEqualQueriesInOrder exchanges atoms, variables and output variables.
func TestEqualQueriesInOrder(t *testing.T) {
	q := query(2, []int{0, 1}, atom("r", 0, 1), atom("s", 0, 1))
	for _, other := range []impl.Query{
		query(2, []int{1, 0}, atom("r", 0, 1), atom("s", 0, 1)),
		query(2, []int{0, 1}, atom("r", 1, 0), atom("s", 0, 1)),
		query(2, []int{0, 1}, atom("s", 0, 1), atom("r", 0, 1)),
		query(2, []int{0, 1}, atom("r", 0, 1), atom("r", 0, 1)),
		query(2, []int{0, 1}, atom("r", 0, 1)),
		query(2, []int{0, 1}, atom("r", 0, 1), atom("s", 0, 1), atom("s", 0, 1)),
	} {
		if impl.EqualQueries(q, other) || impl.EqualQueries(other, q) {
			t.Errorf("%s is equal to %s", describeQuery(q), describeQuery(other))
		}
	}
}

func TestContainsVariable(t *testing.T) {
	for _, c := range []struct {
		a    impl.Atom
		v    int
		want bool
	}{
		{atom("r", 0, 1), 0, true},
		{atom("r", 0, 1), 1, true},
		{atom("r", 0, 1), 2, false},
		{atom("r", 4, 4, 4, 4, 0), 0, true},
		{atom("r", 4, 3, 2, 1, 0), 4, true},
		{atom("r", 4, 3, 1, 0), 2, false},
		{atom("r"), 0, false},
		{impl.Atom{}, 0, false},
		{impl.Atom{}, -1, false},
		{atom("", 2), 2, true},
		{atom("R", 3), 3, true},
		{atom("r", 0, 0, 0, 0, 0, 0, 3), 3, true},
	} {
		if got := impl.ContainsVariable(c.a, c.v); got != c.want {
			t.Errorf("ContainsVariable(%q%v, %d) = %v", c.a.Relation, c.a.Vars, c.v, got)
		}
	}
	for _, list := range allRows([]int{0, 1, 2, 3, 4}, arityLimit) {
		occurring := map[int]bool{}
		for _, v := range list {
			occurring[v] = true
		}
		for _, v := range append(slices.Clone(wrongVariables), 0, 1, 2, 3, 4) {
			if got := impl.ContainsVariable(atom("r", list...), v); got != occurring[v] {
				t.Fatalf("ContainsVariable(r%v, %d) = %v", list, v, got)
			}
		}
	}
}

// guardedQuery returns the query with its atoms in the middle of one array, its
// variables in the middle of another one, and with unused capacity everywhere,
// and a function that reports whether all of this memory is as it was.
func guardedQuery(q impl.Query) (impl.Query, func() bool) {
	guard := atom("grd", 7, 7)
	atoms := []impl.Atom{guard}
	output, outputArray := guardedInts(q.Output)
	arrays := [][]int{outputArray}
	for _, a := range q.Atoms {
		inside, array := guardedInts(a.Vars)
		atoms, arrays = append(atoms, atom(a.Relation, inside...)), append(arrays, array)
	}
	atoms = append(atoms, guard, guard, guard)
	saved, savedArrays := cloneOfQuery(query(0, nil, atoms...)), cloneOf(relation(0, arrays...))
	isAsBefore := func() bool {
		return sameQueries(query(0, nil, atoms...), saved) && sameRelations(relation(0, arrays...), savedArrays)
	}
	return impl.Query{VariableCount: q.VariableCount, Atoms: atoms[1 : len(q.Atoms)+1], Output: output}, isAsBefore
}

// TestQueryArguments calls each function with guarded arguments.
func TestQueryArguments(t *testing.T) {
	databases := allDatabases()
	for i, original := range allQueries() {
		q, isAsBefore := guardedQuery(original)
		db, isDatabaseAsBefore := guardedDatabase(databases[i%len(databases)])
		impl.IsValidQuery(q)
		impl.IsQueryFor(db, q)
		for _, fitting := range []string{"a=1:\nr=2:(0,1)\ns=1:(4)\nt=3:\n", "aaaa=5:(0,0,0,0,0)\nr=1:(0)\ns=2:\n"} {
			parsed, _ := impl.ParseDatabase(fitting)
			impl.IsQueryFor(parsed, q)
		}
		impl.FormatQuery(q)
		impl.EqualQueries(q, original)
		impl.EqualQueries(q, q)
		for _, a := range q.Atoms {
			for v := -1; v <= variableLimit; v++ {
				impl.ContainsVariable(a, v)
			}
		}
		if !isAsBefore() || !isDatabaseAsBefore() {
			t.Fatalf("%s or its database is modified", describeQuery(original))
		}
	}
}

// overwriteQuery writes to all of the atoms, variables and output variables, to
// unused capacity too.
func overwriteQuery(q impl.Query) {
	overwriteInts(q.Output)
	all := q.Atoms[:cap(q.Atoms)]
	for i := range all {
		overwriteInts(all[i].Vars)
		all[i] = atom("over", 77)
	}
}

// queryPartsShareMemory reports whether two lists of variables share memory.
func queryPartsShareMemory(q impl.Query) bool {
	lists := [][]int{q.Output}
	for _, a := range q.Atoms {
		lists = append(lists, a.Vars)
	}
	return rowsShareMemory(relation(0, lists...))
}

// TestParsedQueriesShareNoMemory overwrites a result and looks for the change
// in the results of other calls.
func TestParsedQueriesShareNoMemory(t *testing.T) {
	for _, q := range validQueries() {
		s := plainFormatQuery(q)
		first, _ := impl.ParseQuery(s)
		second, _ := impl.ParseQuery(s)
		overwriteQuery(first)
		// The next call might restore the values that were overwritten.
		kept := cloneOfQuery(second)
		third, _ := impl.ParseQuery(s)
		problem := ""
		switch {
		case !sameQueries(kept, q) || !sameQueries(third, q):
			problem = "the result changes with the previous one"
		case queryPartsShareMemory(second):
			problem = "parts of the result share memory"
		case !sameQueries(third, q):
			problem = "the result changes with a later write"
		}
		if problem != "" {
			t.Fatalf("ParseQuery(%q): %s", s, problem)
		}
	}
}

// TestQueryPartsMayOverlap passes one list as the variables of several atoms
// and as the output.
func TestQueryPartsMayOverlap(t *testing.T) {
	array := []int{9, 2, 1, 0, 9, 9}
	saved := slices.Clone(array)
	list := array[1:4]
	q := query(3, list, atom("r", list...), atom("s", list[:2]...), atom("t", list[1:]...))
	db, _ := impl.ParseDatabase("r=3:\ns=2:(0,1)\nt=2:\n")
	if !impl.IsValidQuery(q) || !impl.IsQueryFor(db, q) || !impl.EqualQueries(q, cloneOfQuery(q)) || impl.FormatQuery(q) != "(ZYX)=r(ZYX),s(ZY),t(YX)" {
		t.Errorf("%s is not taken as it is", describeQuery(q))
	}
	if !slices.Equal(array, saved) {
		t.Errorf("the list is now %v", array)
	}
}
