package tests

import (
	"math"
	"math/rand"
	"slices"
	"strings"
	"testing"

	"loop.example/g01917/impl"
)

func parsedDatabase(t *testing.T, s string) impl.Database {
	t.Helper()
	db, ok := impl.ParseDatabase(s)
	if !ok {
		t.Fatalf("%q is no database", s)
	}
	return db
}

func parsedQuery(t *testing.T, s string) impl.Query {
	t.Helper()
	q, ok := impl.ParseQuery(s)
	if !ok {
		t.Fatalf("%q is no query", s)
	}
	return q
}

// plainHolds reports whether the atom's relation has a row with the values of
// the atom's variables, as far as the row of values goes.
func plainHolds(db impl.Database, a impl.Atom, values []int) bool {
	for _, x := range db.Tables {
		for _, row := range x.Relation.Rows {
			agrees := x.Name == a.Relation
			for i, v := range a.Vars {
				agrees = agrees && (v >= len(values) || row[i] == values[v])
			}
			if agrees {
				return true
			}
		}
	}
	return false
}

func plainAllHold(db impl.Database, q impl.Query, values []int) bool {
	for _, a := range q.Atoms {
		if !plainHolds(db, a, values) {
			return false
		}
	}
	return true
}

func plainIsBinding(db impl.Database, q impl.Query, row []int) bool {
	return plainIsQueryFor(db, q) && len(row) == q.VariableCount && plainAllHold(db, q, row)
}

// valuesIn returns the values that occur in the database, in ascending order.
func valuesIn(db impl.Database) []int {
	var values []int
	for _, x := range db.Tables {
		values = append(values, slices.Concat(x.Relation.Rows...)...)
	}
	slices.Sort(values)
	return slices.Compact(values)
}

// plainBindings is the test's own list of all bindings in ascending order: it
// extends the rows by the value of one variable after another.
func plainBindings(db impl.Database, q impl.Query) [][]int {
	if !plainIsQueryFor(db, q) {
		return nil
	}
	values := valuesIn(db)
	rows := [][]int{{}}
	for range q.VariableCount {
		var longer [][]int
		for _, row := range rows {
			for _, v := range values {
				if extended := append(slices.Clone(row), v); plainAllHold(db, q, extended) {
					longer = append(longer, extended)
				}
			}
		}
		rows = longer
	}
	return rows
}

// plainAnswers is the test's own result of AllBindings and of EvaluateQuery.
func plainAnswers(db impl.Database, q impl.Query) (bindings, answers impl.Relation, ok bool) {
	rows := plainBindings(db, q)
	if !plainIsQueryFor(db, q) || len(rows) > rowLimit {
		return impl.Relation{}, impl.Relation{}, false
	}
	var projected [][]int
	for _, row := range rows {
		answer := []int{}
		for _, v := range q.Output {
			answer = append(answer, row[v])
		}
		projected = append(projected, answer)
	}
	answers, _ = plainRelation(len(q.Output), projected)
	return relation(q.VariableCount, rows...), answers, true
}

// plainAtomVariables is the test's own list of an atom's variables.
func plainAtomVariables(a impl.Atom) []int {
	var variables []int
	for _, v := range a.Vars {
		if 0 <= v && v < variableLimit {
			variables = append(variables, v)
		}
	}
	slices.Sort(variables)
	return slices.Compact(variables)
}

// plainAtomBindings is the test's own result of AtomBindings.
func plainAtomBindings(db impl.Database, a impl.Atom) impl.Relation {
	variables := plainAtomVariables(a)
	none := relation(len(variables))
	stored, ok := plainLookup(db, a.Relation)
	if !ok || stored.Arity != len(a.Vars) {
		return none
	}
	var rows [][]int
	for _, row := range stored.Rows {
		valueOf := map[int]int{}
		agrees := true
		for i, v := range a.Vars {
			if v < 0 || v >= variableLimit {
				return none
			}
			if earlier, ok := valueOf[v]; ok && earlier != row[i] {
				agrees = false
			}
			valueOf[v] = row[i]
		}
		var values []int
		for _, v := range variables {
			values = append(values, valueOf[v])
		}
		if agrees {
			rows = append(rows, values)
		}
	}
	bindings, _ := plainRelation(len(variables), rows)
	return bindings
}

// rowsNear contains some of the bindings, rows that differ from one of them in
// one value or in their length, and other rows of all lengths.
func rowsNear(bindings [][]int) [][]int {
	rows := [][]int{nil, {0}, {-1}, {math.MinInt, math.MaxInt}, make([]int, 1000)}
	for length := range variableLimit + 2 {
		rows = append(rows, make([]int, length), validRow(length), slices.Repeat([]int{-1}, length), slices.Repeat([]int{valueLimit + 1}, length))
	}
	for i := 0; i < len(bindings); i += 1 + len(bindings)/3 {
		row := bindings[i]
		rows = append(rows, row, append(slices.Clone(row), 0), row[:len(row)-1], row[1:])
		for k := range row {
			for _, v := range []int{-1, 0, row[k] - 1, row[k] + 1, row[k] + 256, row[k] + 1<<32, row[(k+1)%len(row)], valueLimit, valueLimit + 1, math.MinInt} {
				changed := slices.Clone(row)
				changed[k] = v
				rows = append(rows, changed)
			}
		}
	}
	return rows
}

func checkAnswers(t *testing.T, db impl.Database, q impl.Query) {
	t.Helper()
	wantBindings, wantAnswers, wantOk := plainAnswers(db, q)
	if got := impl.AllBindings(db, q); !sameRelations(got, wantBindings) {
		t.Fatalf("AllBindings(%s, %s) = %s, want %s", describeDatabase(db), describeQuery(q), describe(got), describe(wantBindings))
	}
	if got, ok := impl.EvaluateQuery(db, q); !sameRelations(got, wantAnswers) || ok != wantOk {
		t.Fatalf("EvaluateQuery(%s, %s) = %s, %v, want %s, %v", describeDatabase(db), describeQuery(q), describe(got), ok, describe(wantAnswers), wantOk)
	}
}

func checkIsBinding(t *testing.T, db impl.Database, q impl.Query, row []int) {
	t.Helper()
	if got := impl.IsBinding(db, q, row); got != plainIsBinding(db, q, row) {
		t.Fatalf("IsBinding(%s, %s, %v) = %v", describeDatabase(db), describeQuery(q), short(row), got)
	}
}

func checkAtom(t *testing.T, db impl.Database, a impl.Atom) {
	t.Helper()
	if got, want := impl.AtomVariables(a), plainAtomVariables(a); plainOrder(got, want) != 0 {
		t.Fatalf("AtomVariables(%.20q%v) = %v, want %v", a.Relation, short(a.Vars), got, want)
	}
	if got, want := impl.AtomBindings(db, a), plainAtomBindings(db, a); !sameRelations(got, want) {
		t.Fatalf("AtomBindings(%s, %.20q%v) = %s, want %s", describeDatabase(db), a.Relation, short(a.Vars), describe(got), describe(want))
	}
}

// checkEvaluation compares each function of the chapter with the test's own
// results.
func checkEvaluation(t *testing.T, db impl.Database, q impl.Query) {
	t.Helper()
	checkAnswers(t, db, q)
	for _, row := range rowsNear(plainBindings(db, q)) {
		checkIsBinding(t, db, q, row)
	}
	for _, a := range q.Atoms {
		checkAtom(t, db, a)
	}
}

const triangleDatabase = "r=2:(0,1) (0,2) (1,2)\ns=2:(1,2) (2,0) (2,3)\nt=2:(0,1) (2,0) (3,0)\n"

// answerCases lists databases, queries, all bindings and answers.
var answerCases = []struct{ db, query, bindings, answers string }{
	{triangleDatabase, "(XYZ)=r(XY),s(YZ),t(ZX)", "3:(0,1,2) (0,2,3) (1,2,0)", "3:(0,1,2) (0,2,3) (1,2,0)"},
	{triangleDatabase, "(ZX)=r(XY),s(YZ),t(ZX)", "3:(0,1,2) (0,2,3) (1,2,0)", "2:(0,1) (2,0) (3,0)"},
	{triangleDatabase, "(X)=r(XY),s(YZ)", "3:(0,1,2) (0,2,0) (0,2,3) (1,2,0) (1,2,3)", "1:(0) (1)"},
	{triangleDatabase, "(YX)=r(YX)", "2:(1,0) (2,0) (2,1)", "2:(0,1) (0,2) (1,2)"},
	{triangleDatabase, "()=r(XY),r(YX)", "2:", "0:"},
	{triangleDatabase, "(YX)=r(XY),r(YX)", "2:", "2:"},
	{triangleDatabase, "()=s(XY)", "2:(1,2) (2,0) (2,3)", "0:()"},
	{"r=2:(0,0) (0,1) (3,3)\n", "(X)=r(XX)", "1:(0) (3)", "1:(0) (3)"},
	{"r=2:(0,0) (0,1) (3,3)\n", "(XY)=r(XX),r(XY)", "2:(0,0) (0,1) (3,3)", "2:(0,0) (0,1) (3,3)"},
	{"r=2:(0,0) (0,1) (3,3)\n", "(Y)=r(XY),r(YY)", "2:(0,0) (3,3)", "1:(0) (3)"},
	{"r=2:(0,0) (0,1) (3,3)\n", "(YX)=r(XX),r(YY)", "2:(0,0) (0,3) (3,0) (3,3)", "2:(0,0) (0,3) (3,0) (3,3)"},
	{"r=3:(0,0,1) (0,1,0) (1,0,0) (2,2,2)\n", "(XY)=r(XYX)", "2:(0,1) (2,2)", "2:(0,1) (2,2)"},
	{"r=3:(0,0,1) (0,1,0) (1,0,0) (2,2,2)\n", "(Y)=r(YXX)", "2:(0,1) (2,2)", "1:(1) (2)"},
	{"r=3:(0,0,1) (0,1,0) (1,0,0) (2,2,2)\n", "(X)=r(XXX)", "1:(2)", "1:(2)"},
	{"r=5:(1,2,3,4,5) (5,4,3,2,1)\n", "(VUZYX)=r(VXUYZ)", "5:(2,4,5,3,1) (4,2,1,3,5)", "5:(1,3,5,4,2) (5,3,1,2,4)"},
	{"r=5:(1,1,1,1,1) (1,1,1,1,2) (2,1,1,1,1)\n", "(X)=r(XXXXX)", "1:(1)", "1:(1)"},
	{"a=1:(99)\nb=1:(0) (99)\n", "(X)=a(X),b(X),a(X),b(X)", "1:(99)", "1:(99)"},
	{"a=1:(99)\nb=1:(0) (99)\n", "(YX)=a(X),b(Y)", "2:(99,0) (99,99)", "2:(0,99) (99,99)"},
	{"a=1:\nb=1:(0) (99)\n", "(YX)=b(X),a(Y)", "2:", "2:"},
	{"a=1:\nb=1:(0) (99)\n", "(X)=b(X)", "1:(0) (99)", "1:(0) (99)"},
	{"a=1:\nb=1:(0) (99)\n", "()=a(X)", "1:", "0:"},
}

func TestAllBindingsAndAnswers(t *testing.T) {
	for _, c := range answerCases {
		db, q := parsedDatabase(t, c.db), parsedQuery(t, c.query)
		if got := plainFormatRelation(impl.AllBindings(db, q)); got != c.bindings {
			t.Errorf("AllBindings(%q, %s) = %s, want %s", c.db, c.query, got, c.bindings)
		}
		if got, ok := impl.EvaluateQuery(db, q); !ok || plainFormatRelation(got) != c.answers {
			t.Errorf("EvaluateQuery(%q, %s) = %s, %v, want %s", c.db, c.query, plainFormatRelation(got), ok, c.answers)
		}
		checkEvaluation(t, db, q)
	}
}

func TestUnsuitableQueries(t *testing.T) {
	db := parsedDatabase(t, triangleDatabase)
	q := parsedQuery(t, "(XYZ)=r(XY),s(YZ),t(ZX)")
	unordered := cloneOfDatabase(db)
	unordered.Tables[0], unordered.Tables[1] = unordered.Tables[1], unordered.Tables[0]
	crowded := cloneOfDatabase(db)
	crowded.Tables = append(crowded.Tables, table("u", relation(2, manyRows(2, tableRowLimit+1)...)))
	wrongOutput := query(3, []int{0, 3}, q.Atoms...)
	missing := parsedQuery(t, "(XYZ)=r(XY),s(YZ),u(ZX)")
	for _, c := range []struct {
		db impl.Database
		q  impl.Query
	}{
		{impl.Database{}, q}, {unordered, q}, {crowded, q}, {db, impl.Query{}}, {db, wrongOutput}, {db, missing},
		{parsedDatabase(t, "r=2:(0,1)\ns=2:(1,2)\nt=1:(2)\n"), q}, {db, query(4, nil, q.Atoms...)},
		{db, query(3, []int{0, 0}, q.Atoms...)}, {db, query(3, nil, append(slices.Clone(q.Atoms), q.Atoms[:2]...)...)},
	} {
		if got := impl.AllBindings(c.db, c.q); got.Arity != 0 || len(got.Rows) != 0 {
			t.Errorf("AllBindings(%s, %s) = %s", describeDatabase(c.db), describeQuery(c.q), describe(got))
		}
		got, ok := impl.EvaluateQuery(c.db, c.q)
		checkNone(t, "EvaluateQuery("+describeDatabase(c.db)+", "+describeQuery(c.q)+")", got, ok)
		for _, row := range [][]int{{0, 1, 2}, {0, 1, 2, 0}, {}, nil} {
			if impl.IsBinding(c.db, c.q, row) {
				t.Errorf("IsBinding(%s, %s, %v)", describeDatabase(c.db), describeQuery(c.q), row)
			}
		}
	}
}

// queriesOfPairs returns the queries of one or two atoms of two variables each.
func queriesOfPairs() []impl.Query {
	var all []impl.Query
	for length := 2; length <= 4; length += 2 {
		for _, list := range rowsOfLength([]int{0, 1, 2, 3}, length) {
			count := slices.Max(list) + 1
			outputs := outputsOf(count)
			output := outputs[len(all)%len(outputs)]
			q := query(count, output, atom("r", list[:2]...))
			if length == 2 {
				all = append(all, q)
				continue
			}
			for _, name := range []string{"r", "s"} {
				all = append(all, query(count, output, q.Atoms[0], atom(name, list[2:]...)), query(count, output, atom(name, list[2:]...), q.Atoms[0]))
			}
		}
	}
	return slices.DeleteFunc(all, func(q impl.Query) bool { return !plainIsValidQuery(q) })
}

// TestAnswersForAllSmallRelations takes every relation of two columns and two
// values.
func TestAnswersForAllSmallRelations(t *testing.T) {
	relations := subsets(2, rowsOfLength([]int{0, 7}, 2))
	queries := queriesOfPairs()
	if len(queries) < 300 {
		t.Errorf("only %d queries", len(queries))
	}
	for i, r := range relations {
		for k, s := range relations {
			db := database(table("r", r), table("s", s))
			for n, q := range queries {
				checkAnswers(t, db, q)
				if (i+k+n)%40 == 0 {
					for _, row := range rowsOfLength([]int{0, 7, 8}, q.VariableCount) {
						checkIsBinding(t, db, q, row)
					}
				}
			}
		}
	}
}

// TestBindingsHoldExactly takes every row of the values that occur and of two
// invalid ones: it is a binding exactly if it is among the bindings, and exactly
// if all atoms hold.
func TestBindingsHoldExactly(t *testing.T) {
	for _, c := range answerCases {
		db, q := parsedDatabase(t, c.db), parsedQuery(t, c.query)
		bindings := impl.AllBindings(db, q)
		found := 0
		for _, row := range rowsOfLength(append(valuesIn(db), -1, valueLimit+1), q.VariableCount) {
			holds := plainAllHold(db, q, row)
			if plainContains(bindings, row) != holds || impl.IsBinding(db, q, row) != holds {
				t.Fatalf("%s, %s: %v holds: %v", c.db, c.query, row, holds)
			}
			if holds {
				found++
			}
		}
		if found != len(bindings.Rows) {
			t.Errorf("%s, %s: %d bindings, not %d", c.db, c.query, found, len(bindings.Rows))
		}
		answers, answersOk := impl.EvaluateQuery(db, q)
		projected, projectedOk := impl.Project(bindings, q.Output)
		checkRelation(t, "EvaluateQuery("+c.db+", "+c.query+")", answers, answersOk, projected, projectedOk)
	}
}

// randomDatabase has relations of each arity with values below the limit.
func randomDatabase(random *rand.Rand, valueCount int) impl.Database {
	db := impl.Database{}
	for arity := 1; arity <= arityLimit; arity++ {
		var rows [][]int
		for range random.Intn(tableRowLimit + 1) {
			row := make([]int, arity)
			for k := range row {
				row[k] = random.Intn(valueCount)
			}
			rows = append(rows, row)
		}
		r, _ := plainRelation(arity, rows)
		db.Tables = append(db.Tables, table("abcde"[arity-1:arity], r))
	}
	return db
}

func randomQuery(random *rand.Rand) impl.Query {
	var atoms []impl.Atom
	for range 1 + random.Intn(atomLimit) {
		arity := 1 + random.Intn(arityLimit)
		a := atom("abcde"[arity-1 : arity])
		for range arity {
			a.Vars = append(a.Vars, random.Intn(variableLimit))
		}
		atoms = append(atoms, a)
	}
	q := numbered(atoms)
	q.Output = random.Perm(q.VariableCount)[:random.Intn(q.VariableCount+1)]
	return q
}

func TestAnswersForRandomDatabases(t *testing.T) {
	random := rand.New(rand.NewSource(8))
	for i := range 3000 {
		checkEvaluation(t, randomDatabase(random, 2+i%6), randomQuery(random))
	}
}

// TestEvaluationForAllDatabases takes suitable and unsuitable queries for valid
// and invalid databases.
func TestEvaluationForAllDatabases(t *testing.T) {
	queries := allQueries()
	for i, db := range allDatabases() {
		candidates := queriesFor(db)
		for k := i % 211; k < len(queries); k += 211 {
			candidates = append(candidates, queries[k])
		}
		for k, q := range candidates {
			checkAnswers(t, db, q)
			if (i+k)%10 == 0 {
				checkEvaluation(t, db, q)
			}
		}
	}
}

func TestInvalidQueriesHaveNoBindings(t *testing.T) {
	db := parsedDatabase(t, "a=1:(0)\nr=2:(0,0) (0,1) (1,1)\ns=1:(0) (1)\nt=3:(0,0,0)\nz=5:(0,0,0,0,0)\n")
	for _, q := range invalidQueries() {
		checkEvaluation(t, db, q)
	}
}

// starDatabase has relations in which the value 0 occurs in as many rows as the
// first numbers say, the value 1 in as many as the second numbers say.
func starDatabase(first, second [4]int) impl.Database {
	db := impl.Database{}
	for i, name := range []string{"a", "b", "c", "d"} {
		r := relation(2)
		for k := range first[i] {
			r.Rows = append(r.Rows, []int{0, 10*i + k})
		}
		for k := range second[i] {
			r.Rows = append(r.Rows, []int{1, 10*i + k + 50})
		}
		db.Tables = append(db.Tables, table(name, r))
	}
	return db
}

// TestNumberOfBindings takes numbers around MaxRows.
func TestNumberOfBindings(t *testing.T) {
	for last := 5; last <= 9; last++ {
		db := starDatabase([4]int{11, 11, 11, 3}, [4]int{1, 1, 1, last})
		want := 11*11*11*3 + last
		for _, s := range []string{"(XYZUV)=a(XY),b(XZ),c(XU),d(XV)", "(X)=d(XY),c(XZ),b(XU),a(XV)", "()=b(VX),d(VY),a(VZ),c(VU)", "(Z)=c(ZY),a(ZX),d(ZV),b(ZU)"} {
			q := parsedQuery(t, s)
			bindings := impl.AllBindings(db, q)
			answers, ok := impl.EvaluateQuery(db, q)
			if want > 4000 {
				checkNone(t, "AllBindings("+s+")", bindings, false)
				checkNone(t, "EvaluateQuery("+s+")", answers, ok)
			} else if len(bindings.Rows) != want || bindings.Arity != 5 || !ok {
				t.Errorf("%s: %s, %v, want %d rows", s, describe(bindings), ok, want)
			}
			checkAnswers(t, db, q)
		}
	}
}

// rangeTable is a relation of one column and as many rows.
func rangeTable(name string, count int) impl.Table {
	return table(name, relation(1, rowsOfLength(allValues()[3:3+count], 1)...))
}

func TestProductsOfRelations(t *testing.T) {
	for _, c := range []struct {
		counts [4]int
		query  string
		want   int
	}{
		{[4]int{10, 10, 10, 4}, "(XYZU)=a(X),b(Y),c(Z),d(U)", 4000},
		{[4]int{4, 10, 10, 10}, "(UX)=a(U),b(X),c(Z),d(Y)", 4000},
		{[4]int{16, 16, 16, 16}, "(XYZU)=a(X),b(Y),c(Z),d(U)", -1},
		{[4]int{16, 16, 16, 16}, "()=a(X),b(Y),c(Z)", -1},
		{[4]int{16, 16, 16, 16}, "(X)=a(X),a(Y),a(Z)", -1},
		{[4]int{16, 16, 16, 16}, "(X)=a(X),a(Y),b(Y),b(X)", 256},
		{[4]int{16, 16, 16, 1}, "()=d(X),c(Y),b(Z),a(U)", -1},
		{[4]int{16, 16, 16, 0}, "(XYZU)=a(X),b(Y),c(Z),d(U)", 0},
		{[4]int{16, 16, 16, 16}, "(Z)=a(X),b(Y),c(Z),d(X)", -1},
		{[4]int{15, 16, 16, 1}, "(UZYX)=a(X),b(Y),c(Z),d(U)", 3840},
		{[4]int{7, 11, 13, 4}, "(X)=a(X),b(Y),c(Z),d(U)", -1},
		{[4]int{7, 11, 13, 3}, "(X)=a(X),b(Y),c(Z),d(U)", 3003},
	} {
		db := database(rangeTable("a", c.counts[0]), rangeTable("b", c.counts[1]), rangeTable("c", c.counts[2]), rangeTable("d", c.counts[3]))
		q := parsedQuery(t, c.query)
		bindings := impl.AllBindings(db, q)
		if _, ok := impl.EvaluateQuery(db, q); len(bindings.Rows) != max(c.want, 0) || (bindings.Arity != 0) != (c.want >= 0) || ok != (c.want >= 0) {
			t.Errorf("%v, %s: %s, %v, want %d", c.counts, c.query, describe(bindings), ok, c.want)
		}
		checkEvaluation(t, db, q)
	}
}

// TestManyRowsOnTheWay has more than MaxRows choices of rows for three atoms,
// but few bindings.
func TestManyRowsOnTheWay(t *testing.T) {
	full := relation(3)
	for i := range tableRowLimit {
		full.Rows = append(full.Rows, []int{i + 3, 18 - i, (i*5)%16 + 3})
	}
	db := database(rangeTable("a", 16), rangeTable("b", 16), rangeTable("c", 16), table("d", full))
	for _, s := range []string{"(XYZ)=a(X),b(Y),c(Z),d(XYZ)", "(ZX)=d(XYZ),a(X),b(Y),c(Z)", "(X)=c(Z),b(Y),d(ZXY),a(X)", "()=a(X),a(Y),a(Z),d(XYZ)"} {
		q := parsedQuery(t, s)
		if got := impl.AllBindings(db, q); len(got.Rows) != tableRowLimit {
			t.Errorf("AllBindings of %s: %s", s, describe(got))
		}
		checkEvaluation(t, db, q)
	}
	db = database(rangeTable("a", 16), rangeTable("b", 16), rangeTable("c", 16), table("d", relation(3, []int{3, valueLimit, 3})))
	q := parsedQuery(t, "(XYZ)=a(X),b(Y),c(Z),d(XYZ)")
	if got := impl.AllBindings(db, q); got.Arity != 3 || len(got.Rows) != 0 {
		t.Errorf("AllBindings without any: %s", describe(got))
	}
	checkEvaluation(t, db, q)
}

func TestIsBinding(t *testing.T) {
	db := parsedDatabase(t, triangleDatabase)
	q := parsedQuery(t, "(X)=r(XY),s(YZ),t(ZX)")
	for _, c := range []struct {
		row  []int
		want bool
	}{
		{[]int{0, 1, 2}, true},
		{[]int{0, 2, 3}, true},
		{[]int{1, 2, 0}, true},
		{[]int{0, 2, 0}, false},
		{[]int{1, 2, 3}, false},
		{[]int{2, 3, 0}, false},
		{[]int{0, 1}, false},
		{[]int{0}, false},
		{nil, false},
		{[]int{0, 1, 2, 0}, false},
		{[]int{0, 1, 2, 3, 4, 5}, false},
		{[]int{-1, 1, 2}, false},
		{[]int{0, 1, 100}, false},
		{[]int{0, 1, 258}, false},
		{[]int{math.MinInt, math.MaxInt, 2}, false},
	} {
		if got := impl.IsBinding(db, q, c.row); got != c.want {
			t.Errorf("IsBinding(%v) = %v", c.row, got)
		}
	}
}

// TestIsBindingAmongTooManyBindings has more bindings than a relation may have
// rows.
func TestIsBindingAmongTooManyBindings(t *testing.T) {
	db := database(rangeTable("a", 16))
	q := parsedQuery(t, "()=a(X),a(Y),a(Z),a(U)")
	for _, c := range []struct {
		row  []int
		want bool
	}{
		{[]int{3, 3, 3, 3}, true}, {[]int{18, 18, 18, 18}, true}, {[]int{18, 3, 7, 9}, true},
		{[]int{2, 3, 3, 3}, false}, {[]int{18, 18, 18, 19}, false}, {[]int{3, 3, 3}, false}, {[]int{3, 3, 3, 3, 3}, false},
	} {
		if got := impl.IsBinding(db, q, c.row); got != c.want {
			t.Errorf("IsBinding(%v) = %v", c.row, got)
		}
	}
}

func TestAtomBindings(t *testing.T) {
	const pairs = "r=2:(0,0) (0,1) (3,3)\n"
	const triples = "q=1:(7)\nr=3:(0,0,1) (0,1,0) (1,0,0) (2,2,2) (3,2,1)\n"
	for _, c := range []struct {
		db   string
		a    impl.Atom
		want string
	}{
		{pairs, atom("r", 1, 1), "1:(0) (3)"},
		{pairs, atom("r", 4, 4), "1:(0) (3)"},
		{pairs, atom("r", 0, 1), "2:(0,0) (0,1) (3,3)"},
		{pairs, atom("r", 1, 0), "2:(0,0) (1,0) (3,3)"},
		{pairs, atom("r", 4, 2), "2:(0,0) (1,0) (3,3)"},
		{pairs, atom("s", 0), "1:"},
		{pairs, atom("s", 0, 1), "2:"},
		{pairs, atom("", 0, 1), "2:"},
		{pairs, atom("R", 1, 0), "2:"},
		{pairs, atom("rr", 1, 0), "2:"},
		{pairs, atom("r", 0), "1:"},
		{pairs, atom("r"), "0:"},
		{pairs, impl.Atom{}, "0:"},
		{pairs, atom("r", 0, 1, 2), "3:"},
		{pairs, atom("r", 0, 1, 2, 3, 4, 0), "5:"},
		{pairs, atom("r", 0, 5), "1:"},
		{pairs, atom("r", 5, 5), "0:"},
		{pairs, atom("r", -1, 0), "1:"},
		{pairs, atom("r", -1, -1), "0:"},
		{pairs, atom("r", math.MinInt, math.MaxInt), "0:"},
		{pairs, atom("r", 1<<32, 1), "1:"},
		{triples, atom("r", 0, 1, 0), "2:(0,1) (2,2)"},
		{triples, atom("r", 3, 3, 1), "2:(1,0) (2,2)"},
		{triples, atom("r", 2, 2, 2), "1:(2)"},
		{triples, atom("r", 2, 0, 1), "3:(0,0,1) (0,1,0) (1,0,0) (2,1,3) (2,2,2)"},
		{triples, atom("r", 0, 0, 6), "1:"},
		{triples, atom("q", 3), "1:(7)"},
		{"r=2:\n", atom("r", 2, 1), "2:"},
		{"r=2:(0,1) (1,0)\n", atom("r", 2, 2), "1:"},
		{"r=5:(9,8,7,6,5)\n", atom("r", 4, 3, 2, 1, 0), "5:(5,6,7,8,9)"},
		{"", atom("r", 0, 1), "2:"},
	} {
		db := parsedDatabase(t, c.db)
		if got := plainFormatRelation(impl.AtomBindings(db, c.a)); got != c.want {
			t.Errorf("AtomBindings(%q, %s%v) = %s, want %s", c.db, c.a.Relation, c.a.Vars, got, c.want)
		}
		checkAtom(t, db, c.a)
	}
}

// TestAtomBindingsForAllVariables takes every list of up to five numbers from
// -1 to 5.
func TestAtomBindingsForAllVariables(t *testing.T) {
	random := rand.New(rand.NewSource(9))
	few, many := randomDatabase(random, 2), randomDatabase(random, 100)
	for i, list := range allRows([]int{-1, 0, 1, 2, 3, 4, 5}, arityLimit) {
		name := "abcde"[max(len(list)-1, 0):max(len(list), 1)]
		checkAtom(t, few, atom(name, list...))
		checkAtom(t, many, atom(name, list...))
		checkAtom(t, few, atom("abcde"[i%5:i%5+1], list...))
	}
}

// TestAtomBindingsForAllDatabases takes atoms with the number of columns of a
// table and with one more or less, also of invalid databases.
func TestAtomBindingsForAllDatabases(t *testing.T) {
	lists := [][]int{{4, 3, 2, 1, 0, 0, 1}, {0, 1, 2, 3, 4, 4, 3}, {2, 2, 2, 2, 2, 2, 2}, {0, 1, 0, 1, 0, 1, 0}, {1, 5, 0, 3, 2, 4, -1}}
	for _, db := range allDatabases() {
		for _, x := range db.Tables[:min(len(db.Tables), tableLimit+1)] {
			arity := max(min(x.Relation.Arity, 6), 0)
			for _, list := range lists {
				for count := max(arity-1, 0); count <= arity+1; count++ {
					checkAtom(t, db, atom(x.Name, list[:count]...))
					checkAtom(t, db, atom(x.Name+"a", list[:count]...))
				}
			}
		}
	}
}

func TestAtomVariables(t *testing.T) {
	for _, c := range []struct {
		list []int
		want []int
	}{
		{nil, nil},
		{[]int{0}, []int{0}},
		{[]int{1, 1}, []int{1}},
		{[]int{4, 3, 2, 1, 0}, []int{0, 1, 2, 3, 4}},
		{[]int{3, 0, 3, 0, 3}, []int{0, 3}},
		{[]int{5}, nil},
		{[]int{-1, 4, 5}, []int{4}},
		{[]int{math.MinInt, 1, math.MaxInt, 1 << 32, 1<<32 + 2, -1 << 32}, []int{1}},
		{[]int{7, 6, 5, 4, 3, 2, 1, 0, 0, 1, 2}, []int{0, 1, 2, 3, 4}},
	} {
		for _, name := range []string{"r", "", "R", "\x00", strings.Repeat("a", 300)} {
			if got := impl.AtomVariables(atom(name, c.list...)); plainOrder(got, c.want) != 0 {
				t.Errorf("AtomVariables(%.20q%v) = %v", name, c.list, got)
			}
		}
	}
	for _, a := range []impl.Atom{atom("r", make([]int, 100000)...), atom("r", slices.Repeat([]int{5, 2, -1, 1}, 50000)...), atom("r", append(make([]int, 100000), 4)...)} {
		checkAtom(t, database(table("r", relation(2))), a)
	}
}

type evaluationCall struct {
	name string
	call func(db impl.Database, q impl.Query, a impl.Atom) (impl.Relation, bool)
}

// evaluationCalls returns each function whose result has slices.
func evaluationCalls() []evaluationCall {
	return []evaluationCall{
		{"AllBindings", func(db impl.Database, q impl.Query, a impl.Atom) (impl.Relation, bool) {
			return impl.AllBindings(db, q), true
		}},
		{"EvaluateQuery", func(db impl.Database, q impl.Query, a impl.Atom) (impl.Relation, bool) {
			return impl.EvaluateQuery(db, q)
		}},
		{"AtomBindings", func(db impl.Database, q impl.Query, a impl.Atom) (impl.Relation, bool) {
			return impl.AtomBindings(db, a), true
		}},
		{"AtomVariables", func(db impl.Database, q impl.Query, a impl.Atom) (impl.Relation, bool) {
			return relation(0, impl.AtomVariables(a)), true
		}},
	}
}

// checkEvaluationMemory calls each function with guarded arguments.
func checkEvaluationMemory(t *testing.T, first impl.Database, second impl.Query) {
	t.Helper()
	db, isDatabaseAsBefore := guardedDatabase(first)
	q, isQueryAsBefore := guardedQuery(second)
	areAsBefore := func() bool { return isDatabaseAsBefore() && isQueryAsBefore() }
	for _, row := range rowsNear(plainBindings(first, second)) {
		guardedRow, array := guardedInts(row)
		saved := slices.Clone(array)
		impl.IsBinding(db, q, guardedRow)
		if !slices.Equal(array, saved) || !areAsBefore() {
			t.Fatalf("IsBinding(%s, %s, %v) modifies an argument", describeDatabase(first), describeQuery(second), short(row))
		}
	}
	for _, a := range append(slices.Clone(q.Atoms), impl.Atom{}) {
		for _, c := range evaluationCalls() {
			call := func() (impl.Relation, bool) { return c.call(db, q, a) }
			if problem := memoryProblem(call, areAsBefore); problem != "" {
				t.Fatalf("%s(%s, %s, %.20q%v): %s", c.name, describeDatabase(first), describeQuery(second), a.Relation, short(a.Vars), problem)
			}
		}
	}
}

func TestEvaluationMemory(t *testing.T) {
	for _, c := range answerCases {
		checkEvaluationMemory(t, parsedDatabase(t, c.db), parsedQuery(t, c.query))
	}
	random := rand.New(rand.NewSource(10))
	for i := range 400 {
		checkEvaluationMemory(t, randomDatabase(random, 2+i%4), randomQuery(random))
	}
	for i, db := range allDatabases() {
		for k, q := range queriesFor(db) {
			if (i+k)%12 == 0 {
				checkEvaluationMemory(t, db, q)
			}
		}
	}
	db := parsedDatabase(t, "a=1:(0)\nr=2:(0,0) (0,1) (1,1)\ns=1:(0) (1)\n")
	for i, q := range allQueries() {
		if i%5 == 0 {
			checkEvaluationMemory(t, db, q)
		}
	}
	checkEvaluationMemory(t, starDatabase([4]int{10, 10, 10, 4}, [4]int{}), parsedQuery(t, "(VYZUX)=a(XY),b(XZ),c(XU),d(XV)"))
	checkEvaluationMemory(t, starDatabase([4]int{10, 10, 10, 4}, [4]int{1, 1, 1, 1}), parsedQuery(t, "(X)=a(XY),b(XZ),c(XU),d(XV)"))
}

// TestEvaluationPartsMayOverlap passes one relation in several tables, and one
// list as the variables of several atoms and as the output.
func TestEvaluationPartsMayOverlap(t *testing.T) {
	array := []int{9, 3, 4, 3, 5, 8}
	variables := []int{1, 0, 0, 1}
	saved, savedVariables := slices.Clone(array), slices.Clone(variables)
	r := relation(2, array[1:3], array[3:5])
	db := database(table("r", r), table("s", r), table("t", relation(2, r.Rows[1:]...)))
	for i := range 3 {
		list := variables[i : i+2]
		q := query(2, variables[:2], atom("r", list...), atom("s", variables[:2]...), atom("t", list...))
		checkEvaluation(t, db, q)
		for _, c := range evaluationCalls() {
			got, _ := c.call(db, q, q.Atoms[0])
			if rowsShareMemory(got) || !slices.Equal(array, saved) || !slices.Equal(variables, savedVariables) {
				t.Errorf("the result of %s shares memory", c.name)
			}
		}
	}
}
