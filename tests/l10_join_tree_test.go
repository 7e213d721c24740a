package tests

import (
	"math"
	"math/rand"
	"slices"
	"testing"

	"loop.example/g01917/impl"
)

// The conversion compiles only if a JoinForest has no other fields.
var _ = impl.JoinForest(struct{ Parent []int }{})

func forest(parents ...int) impl.JoinForest {
	return impl.JoinForest{Parent: parents}
}

// plainAttachment is the test's own search for the atom to which the reduction
// attaches atom i after some have gone; -1 if there is none.
func plainAttachment(q impl.Query, gone map[int]bool, i int) int {
	for k := range q.Atoms {
		fits := k != i && !gone[i] && !gone[k]
		for _, v := range q.Atoms[i].Vars {
			for other, a := range q.Atoms {
				if other != i && !gone[other] && plainOccurs(a.Vars, v) && !plainOccurs(q.Atoms[k].Vars, v) {
					fits = false
				}
			}
		}
		if fits {
			return k
		}
	}
	return -1
}

// plainReduction is the test's own GYO reduction. It returns the removed atoms
// and the atom to which each one is attached.
func plainReduction(q impl.Query) (removed, parents []int) {
	if !plainIsValidQuery(q) {
		return nil, nil
	}
	gone := map[int]bool{}
	parents = slices.Repeat([]int{-1}, len(q.Atoms))
	for i := 0; i < len(q.Atoms); {
		k := plainAttachment(q, gone, i)
		if k < 0 {
			i++
			continue
		}
		removed, parents[i], gone[i] = append(removed, i), k, true
		i = 0
	}
	return removed, parents
}

// plainIsTree is the test's own check of parents: it looks for the atoms below
// the atoms that it has found.
func plainIsTree(parents []int) bool {
	roots, found := 0, map[int]bool{}
	for range parents {
		roots = 0
		for i, parent := range parents {
			if parent == -1 {
				roots++
			}
			if parent == -1 || found[parent] {
				found[i] = true
			}
		}
	}
	return roots == 1 && len(found) == len(parents)
}

// plainIsJoinTree is the test's own check of a join tree: in a tree, the atoms
// with one variable are connected exactly if the number of edges between them is
// one less than their number.
func plainIsJoinTree(q impl.Query, parents []int) bool {
	if !plainIsValidQuery(q) || len(parents) != len(q.Atoms) || !plainIsTree(parents) {
		return false
	}
	for v := range q.VariableCount {
		parts := 0
		for i, a := range q.Atoms {
			if plainOccurs(a.Vars, v) {
				parts++
				if parents[i] >= 0 && plainOccurs(q.Atoms[parents[i]].Vars, v) {
					parts--
				}
			}
		}
		if parts != 1 {
			return false
		}
	}
	return true
}

// treesOf returns the parents in each tree of that many atoms.
func treesOf(count int) [][]int {
	numbers := []int{-1}
	for i := range count {
		numbers = append(numbers, i)
	}
	return slices.DeleteFunc(rowsOfLength(numbers, count), func(parents []int) bool { return !plainIsTree(parents) })
}

// treesUpTo returns treesOf of each number of atoms up to the limit.
func treesUpTo(limit int) [][][]int {
	var all [][][]int
	for count := 0; count <= limit; count++ {
		all = append(all, treesOf(count))
	}
	return all
}

// joinTreesOf is the test's own list of the join trees among these trees.
func joinTreesOf(q impl.Query, trees [][]int) [][]int {
	var all [][]int
	for _, parents := range trees {
		if plainIsJoinTree(q, parents) {
			all = append(all, parents)
		}
	}
	return all
}

// checkReduction compares the reduction with the test's own one.
func checkReduction(t *testing.T, q impl.Query) {
	t.Helper()
	removed, parents := plainReduction(q)
	if got := impl.RemovableAtoms(q); plainOrder(got, removed) != 0 {
		t.Fatalf("RemovableAtoms(%s) = %v, want %v", describeQuery(q), got, removed)
	}
	isAcyclic := plainIsValidQuery(q) && len(q.Atoms)-len(removed) == 1
	if got := impl.IsAcyclic(q); got != isAcyclic {
		t.Fatalf("IsAcyclic(%s) = %v", describeQuery(q), got)
	}
	if !isAcyclic {
		parents = nil
	}
	tree, ok := impl.BuildJoinTree(q)
	if plainOrder(tree.Parent, parents) != 0 || ok != isAcyclic {
		t.Fatalf("BuildJoinTree(%s) = %v, %v, want %v, %v", describeQuery(q), tree.Parent, ok, parents, isAcyclic)
	}
	if impl.IsValidJoinTree(q, tree) != isAcyclic {
		t.Fatalf("BuildJoinTree(%s) = %v is no join tree", describeQuery(q), tree.Parent)
	}
}

// checkParents compares IsValidJoinTree with the test's own check.
func checkParents(t *testing.T, q impl.Query, parents []int) {
	t.Helper()
	if got := impl.IsValidJoinTree(q, forest(parents...)); got != plainIsJoinTree(q, parents) {
		t.Fatalf("IsValidJoinTree(%s, %v) = %v", describeQuery(q), short(parents), got)
	}
}

// checkJoinTrees checks that the query is acyclic exactly if one of all trees is
// a join tree of it.
func checkJoinTrees(t *testing.T, q impl.Query, trees [][]int) {
	t.Helper()
	checkReduction(t, q)
	hasJoinTree := false
	for _, parents := range trees {
		checkParents(t, q, parents)
		hasJoinTree = hasJoinTree || plainIsJoinTree(q, parents)
	}
	if got := impl.IsAcyclic(q); got != hasJoinTree {
		t.Fatalf("IsAcyclic(%s) = %v, but it has a join tree: %v", describeQuery(q), got, hasJoinTree)
	}
}

// treeCases lists queries, their removed atoms, the parents in their join tree
// (none if they are not acyclic), and the number of all their join trees.
var treeCases = []struct {
	query            string
	removed, parents []int
	trees            int
}{
	{"(X)=r(X)", nil, []int{-1}, 1},
	{"()=r(XYZUV)", nil, []int{-1}, 1},
	{"()=r(X),s(Y)", []int{0}, []int{1, -1}, 2},
	{"()=r(XX),r(X)", []int{0}, []int{1, -1}, 2},
	{"(XZ)=r(XY),s(YZ)", []int{0}, []int{1, -1}, 2},
	{"()=r(XY),s(YX),t(YX)", []int{0, 1}, []int{1, 2, -1}, 9},
	{"(X)=r(XY),s(YZ),t(ZU)", []int{0, 1}, []int{1, 2, -1}, 3},
	{"()=r(YZ),s(XY),t(ZU)", []int{1, 0}, []int{2, 0, -1}, 3},
	{"()=r(XYZ),s(YZU),t(ZUV)", []int{0, 1}, []int{1, 2, -1}, 3},
	{"()=r(XY),s(X),t(XYZ)", []int{0, 1}, []int{2, 2, -1}, 6},
	{"()=r(XY),s(YZ),t(U)", []int{0, 1}, []int{1, 2, -1}, 6},
	{"()=t(U),r(XY),s(YZ)", []int{0, 1}, []int{1, 2, -1}, 6},
	{"()=r(X),r(X),r(X),r(X)", []int{0, 1, 2}, []int{1, 2, 3, -1}, 64},
	{"()=r(X),s(Y),t(Z),u(VU)", []int{0, 1, 2}, []int{1, 2, 3, -1}, 64},
	{"()=r(ZX),s(ZY),t(ZU),u(ZV)", []int{0, 1, 2}, []int{1, 2, 3, -1}, 64},
	{"()=r(XY),s(YZ),t(ZU),u(UV)", []int{0, 1, 2}, []int{1, 2, 3, -1}, 4},
	{"()=s(YZ),t(ZU),r(XY),u(UV)", []int{2, 0, 1}, []int{1, 3, 0, -1}, 4},
	{"()=c(XYZ),r(XU),s(YV),t(Z)", []int{1, 2, 0}, []int{3, 0, 0, -1}, 4},
	{"()=r(XU),s(YV),t(Z),c(XYZ)", []int{0, 1, 2}, []int{3, 3, 3, -1}, 4},
	{"()=v(XYZ),r(XY),s(YZ),t(ZX)", []int{1, 2, 0}, []int{3, 0, 0, -1}, 4},
	{"()=r(XY),s(YZ),t(ZX),w(XYZ)", []int{0, 1, 2}, []int{3, 3, 3, -1}, 4},
	{"()=r(XY),s(Z),t(YU),u(Z)", []int{0, 1, 2}, []int{2, 3, 3, -1}, 16},
	{"(XYZ)=r(XY),s(YZ),t(ZX)", nil, nil, 0},
	{"()=r(XYZ),s(ZUV),t(VX)", nil, nil, 0},
	{"()=r(XY),s(YZ),t(ZU),u(UX)", nil, nil, 0},
	{"()=r(XYZ),s(YZU),t(ZUX),u(UXY)", nil, nil, 0},
	{"()=r(XY),s(YZ),t(ZX),u(XU)", []int{3}, nil, 0},
	{"()=u(XU),r(XY),s(YZ),t(ZX)", []int{0}, nil, 0},
	{"()=r(XY),u(U),s(YZ),t(ZX)", []int{1}, nil, 0},
	{"()=r(XY),s(YZ),t(ZX),r(XY)", []int{0}, nil, 0},
}

func TestReduction(t *testing.T) {
	for _, c := range treeCases {
		q := parsedQuery(t, c.query)
		if got := impl.RemovableAtoms(q); plainOrder(got, c.removed) != 0 {
			t.Errorf("RemovableAtoms(%s) = %v, want %v", c.query, got, c.removed)
		}
		if got := impl.IsAcyclic(q); got != (c.parents != nil) {
			t.Errorf("IsAcyclic(%s) = %v", c.query, got)
		}
		tree, ok := impl.BuildJoinTree(q)
		if plainOrder(tree.Parent, c.parents) != 0 || ok != (c.parents != nil) {
			t.Errorf("BuildJoinTree(%s) = %v, %v, want %v", c.query, tree.Parent, ok, c.parents)
		}
		checkReduction(t, q)
		trees := 0
		for _, parents := range treesOf(len(q.Atoms)) {
			if impl.IsValidJoinTree(q, forest(parents...)) {
				trees++
			}
		}
		if trees != c.trees {
			t.Errorf("%s has %d join trees, want %d", c.query, trees, c.trees)
		}
	}
}

// TestTriangle takes all triangle queries of three variables: none of them has a
// join tree, unless another atom contains all of the variables.
func TestTriangle(t *testing.T) {
	for _, order := range [][]int{{0, 1, 2}, {0, 2, 1}, {1, 0, 2}, {1, 2, 0}, {2, 0, 1}, {2, 1, 0}} {
		for turned := range 8 {
			q := query(3, order)
			for i := range 3 {
				a := atom("r", order[i], order[(i+1)%3])
				if turned>>i&1 == 1 {
					slices.Reverse(a.Vars)
				}
				q.Atoms = append(q.Atoms, a)
			}
			if tree, ok := impl.BuildJoinTree(q); ok || len(tree.Parent) != 0 || impl.IsAcyclic(q) || len(impl.RemovableAtoms(q)) != 0 {
				t.Errorf("%s: %v, %v, %v", describeQuery(q), tree.Parent, ok, impl.RemovableAtoms(q))
			}
			for _, parents := range allRows([]int{-2, -1, 0, 1, 2, 3}, 4) {
				if impl.IsValidJoinTree(q, forest(parents...)) {
					t.Errorf("%s has the join tree %v", describeQuery(q), parents)
				}
			}
			for i := range 4 {
				closed := cloneOfQuery(q)
				closed.Atoms = slices.Insert(closed.Atoms, i, atom("s", order...))
				if !impl.IsAcyclic(closed) || len(impl.RemovableAtoms(closed)) != 3 {
					t.Errorf("%s is not acyclic", describeQuery(closed))
				}
				checkJoinTrees(t, closed, treesOf(4))
			}
		}
	}
}

// TestAcyclicExactlyIfThereIsAJoinTree takes up to four atoms with all choices
// of their sets of four variables, in every order.
func TestAcyclicExactlyIfThereIsAJoinTree(t *testing.T) {
	trees, sets := treesUpTo(atomLimit), []int{}
	for set := 1; set < 1<<4; set++ {
		sets = append(sets, set)
	}
	acyclic, cyclic := 0, 0
	for number, chosen := range allRows(sets, atomLimit) {
		q := queryOfSets(chosen, number)
		checkJoinTrees(t, q, trees[len(chosen)])
		switch {
		case impl.IsAcyclic(q):
			acyclic++
		case plainIsValidQuery(q):
			cyclic++
		}
	}
	if acyclic < 10000 || cyclic < 1000 {
		t.Errorf("only %d acyclic and %d other queries", acyclic, cyclic)
	}
}

func TestJoinTreesOfAllQueries(t *testing.T) {
	trees := treesUpTo(atomLimit)
	for _, q := range append(validQueries(), queriesOfAllSets()...) {
		checkJoinTrees(t, q, trees[len(q.Atoms)])
	}
	random := rand.New(rand.NewSource(12))
	for range 5000 {
		q := randomQuery(random)
		checkJoinTrees(t, q, trees[len(q.Atoms)])
	}
}

// TestInvalidQueriesHaveNoJoinTree offers them parents that would be a tree.
func TestInvalidQueriesHaveNoJoinTree(t *testing.T) {
	trees := treesUpTo(atomLimit)
	for _, q := range invalidQueries() {
		if removed := impl.RemovableAtoms(q); len(removed) != 0 {
			t.Fatalf("RemovableAtoms(%s) = %v", describeQuery(q), removed)
		}
		if tree, ok := impl.BuildJoinTree(q); ok || len(tree.Parent) != 0 || impl.IsAcyclic(q) {
			t.Fatalf("BuildJoinTree(%s) = %v, %v", describeQuery(q), tree.Parent, ok)
		}
		offered := [][]int{nil, {-1}, {1, -1}, make([]int, len(q.Atoms)), slices.Repeat([]int{-1}, len(q.Atoms))}
		chain := []int{}
		for i := range q.Atoms {
			chain = append(chain, i-1)
		}
		offered = append(offered, chain)
		if len(q.Atoms) <= atomLimit {
			offered = append(offered, trees[len(q.Atoms)]...)
		}
		for _, parents := range offered {
			if impl.IsValidJoinTree(q, forest(parents...)) {
				t.Fatalf("IsValidJoinTree(%s, %v)", describeQuery(q), short(parents))
			}
		}
	}
}

// TestNumbersOfAtomsInJoinTrees takes one atom too many, and as many as allowed.
func TestNumbersOfAtomsInJoinTrees(t *testing.T) {
	for atoms := range atomLimit + 3 {
		q, chain := query(2, []int{1}), []int{}
		for i := range atoms {
			q.Atoms = append(q.Atoms, atom("r", 0, 1))
			chain = append(chain, i-1)
		}
		want := 1 <= atoms && atoms <= 4
		tree, ok := impl.BuildJoinTree(q)
		if ok != want || impl.IsAcyclic(q) != want || impl.IsValidJoinTree(q, tree) != want || impl.IsValidJoinTree(q, forest(chain...)) != want {
			t.Errorf("%d atoms: %v, %v", atoms, tree.Parent, ok)
		}
		if got := impl.RemovableAtoms(q); want && len(got) != atoms-1 || !want && len(got) != 0 {
			t.Errorf("RemovableAtoms of %d atoms = %v", atoms, got)
		}
	}
}

// TestIsValidJoinTreeForAllParents takes every list of up to five of these
// numbers, also of another length than the number of atoms.
func TestIsValidJoinTreeForAllParents(t *testing.T) {
	lists := allRows([]int{-2, -1, 0, 1, 2, 3, 4}, atomLimit+1)
	for _, c := range treeCases {
		q := parsedQuery(t, c.query)
		for _, parents := range lists {
			checkParents(t, q, parents)
		}
	}
}

// wrongParents are no parents in any tree.
var wrongParents = []int{math.MinInt, -1 << 32, -256, -3, -2, atomLimit, atomLimit + 1, 255, 256, 1 << 32, 1<<32 + 1, math.MaxInt}

// TestJoinTreesWithOneFault changes one part of each join tree.
func TestJoinTreesWithOneFault(t *testing.T) {
	for _, c := range treeCases {
		q := parsedQuery(t, c.query)
		for _, parents := range joinTreesOf(q, treesOf(len(q.Atoms))) {
			faulty := [][]int{nil, parents[1:], parents[:len(parents)-1], append([]int{0}, parents...), append(slices.Clone(parents), 0), append(slices.Clone(parents), -1)}
			for i := range parents {
				root := slices.Index(parents, -1)
				for _, parent := range append(slices.Clone(wrongParents), len(parents), i, -1) {
					changed := slices.Clone(parents)
					changed[i] = parent
					if parent != parents[i] {
						faulty = append(faulty, changed)
					}
				}
				circle := slices.Clone(parents)
				circle[root] = i
				faulty = append(faulty, circle)
			}
			for _, changed := range faulty {
				if impl.IsValidJoinTree(q, forest(changed...)) {
					t.Fatalf("IsValidJoinTree(%s, %v)", c.query, changed)
				}
				checkParents(t, q, changed)
			}
		}
	}
}

// valuesOfRows returns for each row the value of each variable.
func valuesOfRows(variables []int, rows [][]int) []map[int]int {
	var all []map[int]int
	for _, row := range rows {
		values := map[int]int{}
		for i, v := range variables {
			values[v] = row[i]
		}
		all = append(all, values)
	}
	return all
}

// rowsOfAtoms returns for each atom the values of its variables in each row that
// fits it.
func rowsOfAtoms(db impl.Database, q impl.Query) [][]map[int]int {
	var all [][]map[int]int
	for _, a := range q.Atoms {
		all = append(all, valuesOfRows(plainAtomVariables(a), plainAtomBindings(db, a).Rows))
	}
	return all
}

// agreeOnCommon reports whether no variable has different values.
func agreeOnCommon(first, second map[int]int) bool {
	for v, value := range first {
		if other, ok := second[v]; ok && other != value {
			return false
		}
	}
	return true
}

// answersAlong chooses a row for each atom such that it agrees with the row of
// its parent. It compares no other rows.
func answersAlong(q impl.Query, rows [][]map[int]int, parents []int) impl.Relation {
	var answers [][]int
	var chosen []map[int]int
	var choose func()
	choose = func() {
		last := len(chosen) - 1
		for i, parent := range parents {
			if parent >= 0 && max(i, parent) == last && !agreeOnCommon(chosen[i], chosen[parent]) {
				return
			}
		}
		if len(chosen) < len(rows) {
			for _, values := range rows[len(chosen)] {
				chosen = append(chosen, values)
				choose()
				chosen = chosen[:len(chosen)-1]
			}
			return
		}
		answer := []int{}
		for _, v := range q.Output {
			i := slices.IndexFunc(q.Atoms, func(a impl.Atom) bool { return plainOccurs(a.Vars, v) })
			answer = append(answer, chosen[i][v])
		}
		answers = append(answers, answer)
	}
	choose()
	result, _ := plainRelation(len(q.Output), answers)
	return result
}

// TestJoinTreesYieldTheSameAnswers evaluates random acyclic queries along each
// of their valid join trees.
func TestJoinTreesYieldTheSameAnswers(t *testing.T) {
	random := rand.New(rand.NewSource(13))
	trees := treesUpTo(atomLimit)
	evaluated, answered := 0, 0
	for i := range 600 {
		db, q := randomDatabase(random, 2+i%3), randomQuery(random)
		want, ok := impl.EvaluateQuery(db, q)
		if !ok || !impl.IsAcyclic(q) {
			continue
		}
		rows := rowsOfAtoms(db, q)
		for _, parents := range trees[len(q.Atoms)] {
			if !impl.IsValidJoinTree(q, forest(parents...)) {
				continue
			}
			evaluated++
			if got := answersAlong(q, rows, parents); !sameRelations(got, want) {
				t.Fatalf("%s, %s along %v: %s, want %s", describeDatabase(db), describeQuery(q), parents, describe(got), describe(want))
			}
		}
		if len(want.Rows) > 0 {
			answered++
		}
	}
	if evaluated < 1000 || answered < 100 {
		t.Errorf("only %d join trees and %d queries with answers", evaluated, answered)
	}
}

// databasesWithTwoValues returns databases with one row for each atom, which all
// have different names: one variable has the value 1 in some of the atoms, and
// all other values are 0.
func databasesWithTwoValues(q impl.Query) []impl.Database {
	var all []impl.Database
	for v := range q.VariableCount {
		for ones := range 1 << len(q.Atoms) {
			db := impl.Database{}
			for i, a := range q.Atoms {
				row := make([]int, len(a.Vars))
				for k := range row {
					if a.Vars[k] == v {
						row[k] = ones >> i & 1
					}
				}
				db.Tables = append(db.Tables, table(a.Relation, relation(len(row), row)))
			}
			all = append(all, db)
		}
	}
	return all
}

// TestOnlyJoinTreesYieldTheAnswers looks for a database on which a tree does not
// yield the answers: there is one exactly if it is no join tree.
func TestOnlyJoinTreesYieldTheAnswers(t *testing.T) {
	random := rand.New(rand.NewSource(14))
	var queries []impl.Query
	for _, c := range treeCases {
		queries = append(queries, parsedQuery(t, c.query))
	}
	for range 60 {
		queries = append(queries, randomQuery(random))
	}
	trees := treesUpTo(atomLimit)
	for _, q := range queries {
		for i := range q.Atoms {
			q.Atoms[i].Relation = "abcd"[i : i+1]
		}
		differs := map[int]bool{}
		for _, db := range databasesWithTwoValues(q) {
			want, _ := impl.EvaluateQuery(db, q)
			rows := rowsOfAtoms(db, q)
			for i, parents := range trees[len(q.Atoms)] {
				if !sameRelations(answersAlong(q, rows, parents), want) {
					differs[i] = true
				}
			}
		}
		for i, parents := range trees[len(q.Atoms)] {
			if got := impl.IsValidJoinTree(q, forest(parents...)); got == differs[i] {
				t.Fatalf("IsValidJoinTree(%s, %v) = %v", describeQuery(q), parents, got)
			}
		}
	}
}

func TestOutputAndNamesDoNotMatterForJoinTrees(t *testing.T) {
	trees := treesUpTo(atomLimit)
	for i, q := range validQueries() {
		if i%5 != 0 {
			continue
		}
		changed := withSameGraph(q, i)
		if plainOrder(impl.RemovableAtoms(q), impl.RemovableAtoms(changed)) != 0 || impl.IsAcyclic(q) != impl.IsAcyclic(changed) {
			t.Fatalf("the reductions of %s and %s differ", describeQuery(q), describeQuery(changed))
		}
		first, _ := impl.BuildJoinTree(q)
		second, _ := impl.BuildJoinTree(changed)
		if plainOrder(first.Parent, second.Parent) != 0 {
			t.Fatalf("the join trees of %s and %s differ", describeQuery(q), describeQuery(changed))
		}
		for _, parents := range trees[len(q.Atoms)] {
			if impl.IsValidJoinTree(q, forest(parents...)) != impl.IsValidJoinTree(changed, forest(parents...)) {
				t.Fatalf("%v is a join tree of only one of %s and %s", parents, describeQuery(q), describeQuery(changed))
			}
		}
	}
}

// plainRoot is the test's own search for the only -1.
func plainRoot(parents []int) int {
	root, count := -1, 0
	for i, parent := range parents {
		if parent == -1 {
			root = i
			count++
		}
	}
	if count != 1 {
		return -1
	}
	return root
}

// plainChildren is the test's own list of the atoms with this parent.
func plainChildren(parents []int, index int) []int {
	var children []int
	for i, parent := range parents {
		if parent == index && index >= 0 {
			children = append(children, i)
		}
	}
	return children
}

// checkForest compares the functions of a forest with the test's own results.
func checkForest(t *testing.T, parents []int) {
	t.Helper()
	if got, want := impl.JoinTreeRoot(forest(parents...)), plainRoot(parents); got != want {
		t.Fatalf("JoinTreeRoot(%v) = %d, want %d", short(parents), got, want)
	}
	for _, index := range append(slices.Clone(wrongParents), -1, 0, 1, 2, 3, len(parents)-1, len(parents), len(parents)+1) {
		if got, want := impl.JoinTreeChildren(forest(parents...), index), plainChildren(parents, index); plainOrder(got, want) != 0 {
			t.Fatalf("JoinTreeChildren(%v, %d) = %v, want %v", short(parents), index, short(got), short(want))
		}
	}
}

func TestJoinTreeRoot(t *testing.T) {
	for _, c := range []struct {
		parents []int
		want    int
	}{
		{nil, -1},
		{[]int{}, -1},
		{[]int{-1}, 0},
		{[]int{0}, -1},
		{[]int{-2}, -1},
		{[]int{-1, -1}, -1},
		{[]int{1, -1}, 1},
		{[]int{-1, 0}, 0},
		{[]int{1, 0}, -1},
		{[]int{1, 2, -1}, 2},
		{[]int{2, 2, -1}, 2},
		{[]int{1, 0, -1}, 2},
		{[]int{-1, 5, -1}, -1},
		{[]int{-1, 0, -1, -1}, -1},
		{[]int{7, -3, -1, math.MaxInt}, 2},
		{[]int{0, 0, 0, 0, 0, 0, 0, -1, 0}, 7},
	} {
		if got := impl.JoinTreeRoot(forest(c.parents...)); got != c.want {
			t.Errorf("JoinTreeRoot(%v) = %d, want %d", c.parents, got, c.want)
		}
	}
}

func TestJoinTreeChildren(t *testing.T) {
	for _, c := range []struct {
		parents []int
		index   int
		want    []int
	}{
		{nil, 0, nil},
		{nil, -1, nil},
		{[]int{-1}, 0, nil},
		{[]int{-1}, -1, nil},
		{[]int{-1, -1}, -1, nil},
		{[]int{-2, -2}, -2, nil},
		{[]int{0}, 0, []int{0}},
		{[]int{1, 2, -1}, 2, []int{1}},
		{[]int{1, 2, -1}, 1, []int{0}},
		{[]int{1, 2, -1}, 0, nil},
		{[]int{1, 2, -1}, 3, nil},
		{[]int{3, 3, 3, -1}, 3, []int{0, 1, 2}},
		{[]int{-1, 0, 1, 0}, 0, []int{1, 3}},
		{[]int{7, -1, 7}, 7, []int{0, 2}},
		{[]int{math.MaxInt, math.MinInt}, math.MaxInt, []int{0}},
		{[]int{math.MaxInt, math.MinInt}, math.MinInt, nil},
	} {
		if got := impl.JoinTreeChildren(forest(c.parents...), c.index); plainOrder(got, c.want) != 0 {
			t.Errorf("JoinTreeChildren(%v, %d) = %v, want %v", c.parents, c.index, got, c.want)
		}
	}
}

func TestAllForests(t *testing.T) {
	for _, parents := range allRows([]int{-2, -1, 0, 1, 2, 3, 4}, 5) {
		checkForest(t, parents)
	}
	for _, first := range wrongParents {
		for _, second := range append(slices.Clone(wrongParents), -1, 0, 1) {
			checkForest(t, []int{first, second})
			checkForest(t, []int{second, -1, first, second})
		}
	}
}

func TestLongForests(t *testing.T) {
	const length = 200000
	chain, circle := make([]int, length), make([]int, length)
	for i := range length {
		chain[i], circle[i] = i-1, (i+1)%length
	}
	star := make([]int, length)
	star[length/2] = -1
	roots := slices.Repeat([]int{-1}, length)
	q := query(1, nil, atom("r", 0), atom("r", 0), atom("r", 0), atom("r", 0))
	for _, parents := range [][]int{chain, circle, star, roots, make([]int, length), slices.Repeat([]int{-1, 3, length}, length/3)} {
		checkForest(t, parents)
		if impl.IsValidJoinTree(q, forest(parents...)) || impl.IsValidJoinTree(impl.Query{Atoms: make([]impl.Atom, len(parents))}, forest(parents...)) {
			t.Errorf("%v is a join tree", short(parents))
		}
	}
}

type treeCall struct {
	name string
	call func(q impl.Query, tree impl.JoinForest, number int) ([]int, bool)
}

// treeCalls returns each function whose result has slices.
func treeCalls() []treeCall {
	return []treeCall{
		{"RemovableAtoms", func(q impl.Query, tree impl.JoinForest, number int) ([]int, bool) {
			return impl.RemovableAtoms(q), true
		}},
		{"BuildJoinTree", func(q impl.Query, tree impl.JoinForest, number int) ([]int, bool) {
			built, ok := impl.BuildJoinTree(q)
			return built.Parent, ok
		}},
		{"JoinTreeChildren", func(q impl.Query, tree impl.JoinForest, number int) ([]int, bool) {
			return impl.JoinTreeChildren(tree, number), true
		}},
	}
}

// checkTreeMemory calls each function with guarded arguments.
func checkTreeMemory(t *testing.T, original impl.Query, parents []int) {
	t.Helper()
	q, isQueryAsBefore := guardedQuery(original)
	inside, array := guardedInts(parents)
	saved, tree := slices.Clone(array), impl.JoinForest{Parent: inside}
	areAsBefore := func() bool { return isQueryAsBefore() && slices.Equal(array, saved) }
	impl.IsAcyclic(q)
	impl.IsValidJoinTree(q, tree)
	impl.JoinTreeRoot(tree)
	if !areAsBefore() {
		t.Fatalf("IsAcyclic, IsValidJoinTree or JoinTreeRoot modifies %s or %v", describeQuery(original), parents)
	}
	for _, number := range []int{-1, 0, 1, 3, len(parents)} {
		for _, c := range treeCalls() {
			call := func() (impl.Relation, bool) {
				list, ok := c.call(q, tree, number)
				return relation(0, list), ok
			}
			if problem := memoryProblem(call, areAsBefore); problem != "" {
				t.Fatalf("%s(%s, %v, %d): %s", c.name, describeQuery(original), parents, number, problem)
			}
		}
	}
}

func TestJoinTreeMemory(t *testing.T) {
	for _, c := range treeCases {
		q := parsedQuery(t, c.query)
		for _, parents := range append(treesOf(len(q.Atoms)), nil, []int{-1, -1, 0, 0, 3, 7, 0}) {
			checkTreeMemory(t, q, parents)
		}
	}
	for i, q := range allQueries() {
		if i%5 == 0 {
			_, parents := plainReduction(q)
			checkTreeMemory(t, q, parents)
		}
	}
}

// TestJoinTreePartsMayOverlap passes parts of one list as the variables of the
// atoms, as the output and as the parents.
func TestJoinTreePartsMayOverlap(t *testing.T) {
	array := []int{9, 0, 1, 2, -1, 9}
	saved := slices.Clone(array)
	q := query(3, array[1:4], atom("r", array[1:3]...), atom("s", array[2:4]...), atom("t", array[3:4]...))
	tree := forest(array[2:5]...)
	checkReduction(t, q)
	if !impl.IsValidJoinTree(q, tree) || impl.JoinTreeRoot(tree) != 2 {
		t.Errorf("%v is no join tree of %s", tree.Parent, describeQuery(q))
	}
	for number := range q.Atoms {
		for _, c := range treeCalls() {
			got, _ := c.call(q, tree, number)
			overwriteInts(got)
			if !slices.Equal(array, saved) {
				t.Fatalf("the result of %s shares memory", c.name)
			}
		}
	}
}
