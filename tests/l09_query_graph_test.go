package tests

import (
	"math"
	"math/rand"
	"slices"
	"strings"
	"testing"

	"loop.example/g01917/impl"
)

// plainOccurs is the test's own check whether the number is in the list.
func plainOccurs(list []int, number int) bool {
	for _, v := range list {
		if v == number {
			return true
		}
	}
	return false
}

// plainNeighbors is the test's own list of neighbors.
func plainNeighbors(q impl.Query, variable int) []int {
	var neighbors []int
	for v := 0; plainIsValidQuery(q) && v < q.VariableCount; v++ {
		for _, a := range q.Atoms {
			if v != variable && plainOccurs(a.Vars, v) && plainOccurs(a.Vars, variable) {
				neighbors = append(neighbors, v)
				break
			}
		}
	}
	return neighbors
}

// plainComponents is the test's own list of connected components: it gives each
// variable a label, and the variables of an atom the smallest of their labels
// until that changes nothing.
func plainComponents(q impl.Query) [][]int {
	if !plainIsValidQuery(q) {
		return nil
	}
	labels := make([]int, q.VariableCount)
	for v := range labels {
		labels[v] = v
	}
	for range q.Atoms {
		for _, a := range q.Atoms {
			smallest := labels[a.Vars[0]]
			for _, v := range a.Vars {
				smallest = min(smallest, labels[v])
			}
			for _, v := range a.Vars {
				labels[v] = smallest
			}
		}
	}
	var components [][]int
	for label := range labels {
		var component []int
		for v := range labels {
			if labels[v] == label {
				component = append(component, v)
			}
		}
		if component != nil {
			components = append(components, component)
		}
	}
	return components
}

// plainDegree is the test's own number of atoms with this variable.
func plainDegree(q impl.Query, variable int) int {
	degree := 0
	for _, a := range q.Atoms {
		if plainIsValidQuery(q) && plainOccurs(a.Vars, variable) {
			degree++
		}
	}
	return degree
}

// plainPrivate is the test's own list of the variables of only this atom.
func plainPrivate(q impl.Query, index int) []int {
	var private []int
	if !plainIsValidQuery(q) || index < 0 || index >= len(q.Atoms) {
		return private
	}
	for v := range q.VariableCount {
		if plainOccurs(q.Atoms[index].Vars, v) && plainDegree(q, v) == 1 {
			private = append(private, v)
		}
	}
	return private
}

// plainIsSubset is the test's own check whether each number of the first list
// is in the second one. It sorts both, because they may be long.
func plainIsSubset(first, second []int) bool {
	inOrder := slices.Sorted(slices.Values(second))
	for _, v := range slices.Compact(slices.Sorted(slices.Values(first))) {
		if _, found := slices.BinarySearch(inOrder, v); !found {
			return false
		}
	}
	return true
}

// plainCommon is the test's own list of common variables.
func plainCommon(first, second []int) []int {
	var common []int
	for v := range variableLimit {
		if plainOccurs(first, v) && plainOccurs(second, v) {
			common = append(common, v)
		}
	}
	return common
}

// candidateVariables are the variables of a query and other numbers.
var candidateVariables = append(slices.Clone(wrongVariables), 0, 1, 2, 3, 4)

// checkGraph compares the functions of a query with the test's own results.
func checkGraph(t *testing.T, q impl.Query, variables []int) {
	t.Helper()
	for _, v := range variables {
		if got, want := impl.Neighbors(q, v), plainNeighbors(q, v); plainOrder(got, want) != 0 {
			t.Fatalf("Neighbors(%s, %d) = %v, want %v", describeQuery(q), v, got, want)
		}
		if got, want := impl.VariableDegree(q, v), plainDegree(q, v); got != want {
			t.Fatalf("VariableDegree(%s, %d) = %d, want %d", describeQuery(q), v, got, want)
		}
	}
	want := plainComponents(q)
	if got := impl.ConnectedComponents(q); !sameRelations(relation(0, got...), relation(0, want...)) {
		t.Fatalf("ConnectedComponents(%s) = %v, want %v", describeQuery(q), got, want)
	}
	count := min(len(q.Atoms), 8)
	for _, i := range []int{math.MinInt, -count, -2, -1, 0, 1, 2, 3, 4, count - 1, count, count + 1, len(q.Atoms), 1 << 32, math.MaxInt} {
		if got, want := impl.PrivateVariables(q, i), plainPrivate(q, i); plainOrder(got, want) != 0 {
			t.Fatalf("PrivateVariables(%s, %d) = %v, want %v", describeQuery(q), i, got, want)
		}
	}
}

// checkPair compares the functions of two atoms with the test's own results.
func checkPair(t *testing.T, a, b impl.Atom) {
	t.Helper()
	if got, want := impl.IsAtomSubset(a, b), plainIsSubset(a.Vars, b.Vars); got != want {
		t.Fatalf("IsAtomSubset(%.20q%v, %.20q%v) = %v", a.Relation, short(a.Vars), b.Relation, short(b.Vars), got)
	}
	if got, want := impl.CommonVariables(a, b), plainCommon(a.Vars, b.Vars); plainOrder(got, want) != 0 {
		t.Fatalf("CommonVariables(%.20q%v, %.20q%v) = %v, want %v", a.Relation, short(a.Vars), b.Relation, short(b.Vars), got, want)
	}
}

// graphCases lists queries and, for each variable, its neighbors and its
// degree, then the components, and the private variables of each atom.
var graphCases = []struct {
	query      string
	neighbors  [][]int
	degrees    []int
	components [][]int
	private    [][]int
}{
	{"(X)=r(X)", [][]int{nil}, []int{1}, [][]int{{0}}, [][]int{{0}}},
	{"()=r(XX)", [][]int{nil}, []int{1}, [][]int{{0}}, [][]int{{0}}},
	{"()=r(XXX),s(X)", [][]int{nil}, []int{2}, [][]int{{0}}, [][]int{nil, nil}},
	{"()=r(X),r(X),r(X),r(X)", [][]int{nil}, []int{4}, [][]int{{0}}, [][]int{nil, nil, nil, nil}},
	{"(YX)=r(X),s(Y)", [][]int{nil, nil}, []int{1, 1}, [][]int{{0}, {1}}, [][]int{{0}, {1}}},
	{"(YX)=r(Y),s(X)", [][]int{nil, nil}, []int{1, 1}, [][]int{{0}, {1}}, [][]int{{1}, {0}}},
	{"(X)=r(YX),r(YX)", [][]int{{1}, {0}}, []int{2, 2}, [][]int{{0, 1}}, [][]int{nil, nil}},
	{"(XYZ)=r(XY),s(YZ),t(ZX)", [][]int{{1, 2}, {0, 2}, {0, 1}}, []int{2, 2, 2}, [][]int{{0, 1, 2}}, [][]int{nil, nil, nil}},
	{"(XZ)=r(XY),s(YZ)", [][]int{{1}, {0, 2}, {1}}, []int{1, 2, 1}, [][]int{{0, 1, 2}}, [][]int{{0}, {2}}},
	{"()=r(XZ),s(YU)", [][]int{{2}, {3}, {0}, {1}}, []int{1, 1, 1, 1}, [][]int{{0, 2}, {1, 3}}, [][]int{{0, 2}, {1, 3}}},
	{"()=s(UY),r(ZX),s(YYYU)", [][]int{{2}, {3}, {0}, {1}}, []int{1, 2, 1, 2}, [][]int{{0, 2}, {1, 3}}, [][]int{nil, {0, 2}, nil}},
	{"()=r(XY),s(YZ),t(UV)", [][]int{{1}, {0, 2}, {1}, {4}, {3}}, []int{1, 2, 1, 1, 1}, [][]int{{0, 1, 2}, {3, 4}}, [][]int{{0}, {2}, {3, 4}}},
	{"()=t(VX),s(YZ),r(UY)", [][]int{{4}, {2, 3}, {1}, {1}, {0}}, []int{1, 2, 1, 1, 1}, [][]int{{0, 4}, {1, 2, 3}}, [][]int{{0, 4}, {2}, {3}}},
	{"()=r(XV),s(ZU),t(UV),u(YZ)", [][]int{{4}, {2}, {1, 3}, {2, 4}, {0, 3}}, []int{1, 1, 2, 2, 2}, [][]int{{0, 1, 2, 3, 4}}, [][]int{{0}, nil, nil, {1}}},
	{"()=r(V),s(UZ),t(XYX)", [][]int{{1}, {0}, {3}, {2}, nil}, []int{1, 1, 1, 1, 1}, [][]int{{0, 1}, {2, 3}, {4}}, [][]int{{4}, {2, 3}, {0, 1}}},
	{"()=r(Z),s(U),t(V),u(YX)", [][]int{{1}, {0}, nil, nil, nil}, []int{1, 1, 1, 1, 1}, [][]int{{0, 1}, {2}, {3}, {4}}, [][]int{{2}, {3}, {4}, {0, 1}}},
	{"(V)=r(VUZYX)", [][]int{{1, 2, 3, 4}, {0, 2, 3, 4}, {0, 1, 3, 4}, {0, 1, 2, 4}, {0, 1, 2, 3}}, []int{1, 1, 1, 1, 1}, [][]int{{0, 1, 2, 3, 4}}, [][]int{{0, 1, 2, 3, 4}}},
	{"()=r(ZX),s(ZY),t(ZU),u(ZV)", [][]int{{2}, {2}, {0, 1, 3, 4}, {2}, {2}}, []int{1, 1, 4, 1, 1}, [][]int{{0, 1, 2, 3, 4}}, [][]int{{0}, {1}, {3}, {4}}},
}

func TestQueryGraph(t *testing.T) {
	for _, c := range graphCases {
		q := parsedQuery(t, c.query)
		for v, want := range c.neighbors {
			if got := impl.Neighbors(q, v); plainOrder(got, want) != 0 {
				t.Errorf("Neighbors(%s, %d) = %v, want %v", c.query, v, got, want)
			}
			if got := impl.VariableDegree(q, v); got != c.degrees[v] {
				t.Errorf("VariableDegree(%s, %d) = %d, want %d", c.query, v, got, c.degrees[v])
			}
		}
		if got := impl.ConnectedComponents(q); !sameRelations(relation(0, got...), relation(0, c.components...)) {
			t.Errorf("ConnectedComponents(%s) = %v, want %v", c.query, got, c.components)
		}
		for i, want := range c.private {
			if got := impl.PrivateVariables(q, i); plainOrder(got, want) != 0 {
				t.Errorf("PrivateVariables(%s, %d) = %v, want %v", c.query, i, got, want)
			}
		}
		checkGraph(t, q, candidateVariables)
	}
}

// TestNumbersThatAreNoVariables takes numbers that no variable of the query
// has, also those that other queries have.
func TestNumbersThatAreNoVariables(t *testing.T) {
	for _, c := range graphCases {
		q := parsedQuery(t, c.query)
		numbers := slices.Clone(wrongVariables)
		for v := q.VariableCount; v < variableLimit; v++ {
			numbers = append(numbers, v)
		}
		for _, v := range numbers {
			if got := impl.Neighbors(q, v); len(got) != 0 {
				t.Errorf("Neighbors(%s, %d) = %v", c.query, v, got)
			}
			if got := impl.VariableDegree(q, v); got != 0 {
				t.Errorf("VariableDegree(%s, %d) = %d", c.query, v, got)
			}
		}
		for _, i := range []int{math.MinInt, -1 << 32, -2, -1, len(q.Atoms), len(q.Atoms) + 1, atomLimit, 1 << 32, math.MaxInt} {
			if got := impl.PrivateVariables(q, i); len(got) != 0 {
				t.Errorf("PrivateVariables(%s, %d) = %v", c.query, i, got)
			}
		}
	}
}

func TestInvalidQueriesHaveNoGraph(t *testing.T) {
	for _, q := range invalidQueries() {
		for _, v := range candidateVariables {
			if neighbors, degree := impl.Neighbors(q, v), impl.VariableDegree(q, v); len(neighbors) != 0 || degree != 0 {
				t.Fatalf("variable %d of %s: %v, %d", v, describeQuery(q), neighbors, degree)
			}
		}
		if got := impl.ConnectedComponents(q); len(got) != 0 {
			t.Fatalf("ConnectedComponents(%s) = %v", describeQuery(q), got)
		}
		for i := -1; i <= atomLimit+1; i++ {
			if got := impl.PrivateVariables(q, i); len(got) != 0 {
				t.Fatalf("PrivateVariables(%s, %d) = %v", describeQuery(q), i, got)
			}
		}
	}
}

func TestGraphsOfAllQueries(t *testing.T) {
	for _, q := range validQueries() {
		checkGraph(t, q, candidateVariables)
	}
	for i, q := range invalidQueries() {
		if i%10 == 0 {
			checkGraph(t, q, candidateVariables)
		}
	}
}

// variablesIn returns the variables of the set in an order that depends on the
// number, and sometimes one of them twice.
func variablesIn(set, number int) []int {
	var variables []int
	for k := range variableLimit {
		v := (k*(1+number%4) + number) % variableLimit
		if set>>v&1 == 1 {
			variables = append(variables, v)
		}
	}
	if len(variables) < arityLimit && number%3 == 0 {
		variables = append(variables, variables[number%len(variables)])
	}
	return variables
}

// queryOfSets returns the query whose atoms have these sets of variables, in
// orders that depend on the number.
func queryOfSets(sets []int, number int) impl.Query {
	q := impl.Query{}
	for i, set := range sets {
		q.Atoms = append(q.Atoms, atom("r", variablesIn(set, number+i)...))
		for q.VariableCount < variableLimit && set>>q.VariableCount != 0 {
			q.VariableCount++
		}
	}
	return q
}

// queriesOfAllSets returns queries of up to four atoms with all choices of their
// sets of variables, in one of their orders.
func queriesOfAllSets() []impl.Query {
	var all []impl.Query
	var extend func(sets []int)
	extend = func(sets []int) {
		if number := len(all); len(sets) > 0 {
			ordered := slices.Concat(sets[number%len(sets):], sets[:number%len(sets)])
			if number/len(sets)%2 == 1 {
				slices.Reverse(ordered)
			}
			all = append(all, queryOfSets(ordered, number))
		}
		for set := 1; len(sets) < atomLimit && set < 1<<variableLimit; set++ {
			if len(sets) == 0 || sets[len(sets)-1] <= set {
				extend(append(slices.Clone(sets), set))
			}
		}
	}
	extend(nil)
	return all
}

func TestGraphsOfAllSetsOfVariables(t *testing.T) {
	queries := queriesOfAllSets()
	valid := 0
	for _, q := range queries {
		if plainIsValidQuery(q) {
			valid++
		}
		checkGraph(t, q, []int{-1, 0, 1, 2, 3, 4, 5})
	}
	if valid < 30000 {
		t.Errorf("only %d of %d queries are valid", valid, len(queries))
	}
}

// TestGraphOfRandomQueries checks on queries with variables in all arrangements
// what the definitions say about each other.
func TestGraphOfRandomQueries(t *testing.T) {
	random := rand.New(rand.NewSource(11))
	for range 20000 {
		q := randomQuery(random)
		checkGraph(t, q, []int{-1, 0, 1, 2, 3, 4, 5})
		componentOf, occurrences := map[int]int{}, 0
		for i, component := range impl.ConnectedComponents(q) {
			for _, v := range component {
				componentOf[v] = i
			}
		}
		for v := range q.VariableCount {
			occurrences += impl.VariableDegree(q, v)
			for _, neighbor := range impl.Neighbors(q, v) {
				if componentOf[v] != componentOf[neighbor] || !slices.Contains(impl.Neighbors(q, neighbor), v) {
					t.Fatalf("%d and %d of %s", v, neighbor, describeQuery(q))
				}
			}
		}
		for _, a := range q.Atoms {
			occurrences -= len(impl.AtomVariables(a))
		}
		if len(componentOf) != q.VariableCount || occurrences != 0 {
			t.Fatalf("%s: %v, %d", describeQuery(q), componentOf, occurrences)
		}
	}
}

// withSameGraph changes what is no part of the query's graph.
func withSameGraph(q impl.Query, number int) impl.Query {
	changed := cloneOfQuery(q)
	changed.Output = nil
	for k := range changed.Atoms {
		changed.Atoms[k].Relation = sampleNames[(number+k/2)%len(sampleNames)]
		slices.Reverse(changed.Atoms[k].Vars)
	}
	return changed
}

func TestOutputAndNamesDoNotMatter(t *testing.T) {
	for i, q := range validQueries() {
		if i%5 != 0 {
			continue
		}
		changed := withSameGraph(q, i)
		for v := range q.VariableCount {
			if plainOrder(impl.Neighbors(q, v), impl.Neighbors(changed, v)) != 0 || impl.VariableDegree(q, v) != impl.VariableDegree(changed, v) {
				t.Fatalf("variable %d of %s and of %s", v, describeQuery(q), describeQuery(changed))
			}
		}
		for k := range q.Atoms {
			if plainOrder(impl.PrivateVariables(q, k), impl.PrivateVariables(changed, k)) != 0 {
				t.Fatalf("PrivateVariables(%s, %d)", describeQuery(changed), k)
			}
		}
		if !sameRelations(relation(0, impl.ConnectedComponents(q)...), relation(0, impl.ConnectedComponents(changed)...)) {
			t.Fatalf("ConnectedComponents(%s)", describeQuery(changed))
		}
	}
}

// pairCases lists the variables of two atoms, whether the first ones are a
// subset of the second ones, and the common ones.
var pairCases = []struct {
	first, second []int
	isSubset      bool
	common        []int
}{
	{nil, nil, true, nil},
	{nil, []int{0}, true, nil},
	{[]int{0}, nil, false, nil},
	{[]int{0}, []int{0}, true, []int{0}},
	{[]int{0}, []int{1}, false, nil},
	{[]int{0, 0}, []int{0}, true, []int{0}},
	{[]int{0}, []int{0, 0, 0}, true, []int{0}},
	{[]int{0, 1}, []int{1, 2}, false, []int{1}},
	{[]int{0, 1}, []int{1, 0}, true, []int{0, 1}},
	{[]int{1, 0}, []int{0, 1, 2}, true, []int{0, 1}},
	{[]int{0, 1, 2}, []int{1, 0}, false, []int{0, 1}},
	{[]int{2, 2, 4}, []int{4, 3, 2, 1, 0}, true, []int{2, 4}},
	{[]int{4, 3, 2, 1, 0}, []int{0, 1, 2, 3, 4}, true, []int{0, 1, 2, 3, 4}},
	{[]int{4, 3, 2, 1, 0}, []int{0, 1, 2, 4, 4}, false, []int{0, 1, 2, 4}},
	{[]int{5}, []int{5}, true, nil},
	{[]int{5}, []int{0}, false, nil},
	{[]int{4, 5}, []int{5, 4}, true, []int{4}},
	{[]int{4, 5}, []int{4}, false, []int{4}},
	{[]int{4}, []int{5, 4}, true, []int{4}},
	{[]int{-1, 0}, []int{0}, false, []int{0}},
	{[]int{-1, 0}, []int{0, -1}, true, []int{0}},
	{[]int{64}, []int{0}, false, nil},
	{[]int{65}, []int{1}, false, nil},
	{[]int{-64}, []int{0}, false, nil},
	{[]int{1 << 32}, []int{0}, false, nil},
	{[]int{math.MinInt}, []int{math.MaxInt}, false, nil},
	{[]int{math.MinInt, 3, math.MaxInt}, []int{3, math.MaxInt, math.MinInt}, true, []int{3}},
}

func TestPairsOfAtoms(t *testing.T) {
	names := []string{"r", "s", "", "R", "abcde", "\x00", strings.Repeat("a", 300)}
	for i, c := range pairCases {
		for k := range names {
			a, b := atom(names[k], c.first...), atom(names[(i+k)%len(names)], c.second...)
			if got := impl.IsAtomSubset(a, b); got != c.isSubset {
				t.Errorf("IsAtomSubset(%.20q%v, %.20q%v) = %v", a.Relation, a.Vars, b.Relation, b.Vars, got)
			}
			if got := impl.CommonVariables(a, b); plainOrder(got, c.common) != 0 {
				t.Errorf("CommonVariables(%.20q%v, %.20q%v) = %v, want %v", a.Relation, a.Vars, b.Relation, b.Vars, got, c.common)
			}
			checkPair(t, b, a)
		}
	}
}

// TestPairsOfAllAtoms takes all pairs of short lists of these numbers, each set
// of variables with each list of up to five, and single numbers.
func TestPairsOfAllAtoms(t *testing.T) {
	lists := allRows([]int{-1, 0, 2, 4, 5, 64}, 3)
	for _, first := range lists {
		for _, second := range lists {
			checkPair(t, atom("r", first...), atom("s", second...))
		}
	}
	for i, list := range allRows([]int{0, 1, 2, 3, 4}, arityLimit) {
		for set := 1; set < 1<<variableLimit; set++ {
			a := atom("r", variablesIn(set, i)...)
			checkPair(t, a, atom("r", list...))
			checkPair(t, atom("s", list...), a)
		}
	}
	for _, v := range candidateVariables {
		for _, w := range candidateVariables {
			checkPair(t, atom("r", v), atom("s", w))
			checkPair(t, atom("r", v, w), atom("s", w))
			checkPair(t, atom("r", v), atom("s", w, v))
		}
	}
}

func TestPairsOfLongAtoms(t *testing.T) {
	const length = 200000
	ascending, descending := make([]int, length), make([]int, length)
	for i := range length {
		ascending[i], descending[i] = i, length-1-i
	}
	lists := [][]int{nil, {3}, {-3}, {length}, ascending, descending, ascending[1:], descending[:length-4], make([]int, length), slices.Repeat([]int{4, -1, 2}, length/3), append(slices.Clone(descending), math.MinInt)}
	for _, first := range lists {
		for _, second := range lists {
			checkPair(t, atom("r", first...), atom("s", second...))
		}
	}
}

type graphCall struct {
	name string
	call func(q impl.Query, number int) [][]int
}

// graphCalls returns each function whose result has slices. The atoms of a pair
// are the first one and the one with the number.
func graphCalls() []graphCall {
	return []graphCall{
		{"Neighbors", func(q impl.Query, number int) [][]int { return [][]int{impl.Neighbors(q, number)} }},
		{"ConnectedComponents", func(q impl.Query, number int) [][]int { return impl.ConnectedComponents(q) }},
		{"PrivateVariables", func(q impl.Query, number int) [][]int { return [][]int{impl.PrivateVariables(q, number)} }},
		{"CommonVariables", func(q impl.Query, number int) [][]int {
			if number < 0 || number >= len(q.Atoms) {
				return nil
			}
			return [][]int{impl.CommonVariables(q.Atoms[0], q.Atoms[number])}
		}},
	}
}

// checkGraphMemory calls each function with guarded arguments.
func checkGraphMemory(t *testing.T, original impl.Query) {
	t.Helper()
	q, isAsBefore := guardedQuery(original)
	for number := -1; number <= variableLimit; number++ {
		impl.VariableDegree(q, number)
		for _, a := range q.Atoms[:min(len(q.Atoms), 8)] {
			impl.IsAtomSubset(q.Atoms[0], a)
			impl.IsAtomSubset(a, q.Atoms[0])
		}
		if !isAsBefore() {
			t.Fatalf("VariableDegree or IsAtomSubset modifies %s", describeQuery(original))
		}
		for _, c := range graphCalls() {
			call := func() (impl.Relation, bool) { return relation(0, c.call(q, number)...), true }
			if problem := memoryProblem(call, isAsBefore); problem != "" {
				t.Fatalf("%s(%s, %d): %s", c.name, describeQuery(original), number, problem)
			}
		}
	}
}

func TestGraphMemory(t *testing.T) {
	for _, c := range graphCases {
		checkGraphMemory(t, parsedQuery(t, c.query))
	}
	for _, q := range validQueries() {
		checkGraphMemory(t, q)
	}
	for i, q := range invalidQueries() {
		if i%10 == 0 {
			checkGraphMemory(t, q)
		}
	}
}

// TestGraphPartsMayOverlap passes one list as the variables of several atoms
// and as the output.
func TestGraphPartsMayOverlap(t *testing.T) {
	array := []int{9, 4, 1, 0, 3, 2, 9}
	saved := slices.Clone(array)
	list := array[1:6]
	q := query(5, list, atom("r", list[:2]...), atom("s", list[1:2]...), atom("t", list[2:4]...), atom("u", list[3:]...))
	checkGraph(t, q, candidateVariables)
	checkPair(t, q.Atoms[0], q.Atoms[1])
	checkPair(t, q.Atoms[1], q.Atoms[0])
	for number := range q.Atoms {
		for _, c := range graphCalls() {
			if rowsShareMemory(relation(0, c.call(q, number)...)) || !slices.Equal(array, saved) {
				t.Errorf("the result of %s shares memory", c.name)
			}
		}
	}
}
