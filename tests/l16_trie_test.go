package tests

import (
	"fmt"
	"math"
	"math/rand"
	"slices"
	"testing"

	"loop.example/g01917/impl"
)

// The conversion compiles only if a Trie has no other fields.
var _ = impl.Trie(struct {
	Arity int
	Rows  [][]int
}{})

func trieOf(r impl.Relation) impl.Trie {
	return impl.Trie{Arity: r.Arity, Rows: r.Rows}
}

func relationOf(x impl.Trie) impl.Relation {
	return relation(x.Arity, x.Rows...)
}

func parsedRelation(t *testing.T, s string) impl.Relation {
	t.Helper()
	r, ok := plainParse(s)
	if !ok {
		t.Fatalf("%q is no relation", s)
	}
	return r
}

// plainIsPermutation is the test's own check of a permutation.
func plainIsPermutation(columns []int) bool {
	if len(columns) > arityLimit {
		return false
	}
	for number := range columns {
		count := 0
		for _, column := range columns {
			if column == number {
				count++
			}
		}
		if count != 1 {
			return false
		}
	}
	return true
}

// permutationsOf returns all permutations of that many columns.
func permutationsOf(count int) [][]int {
	numbers := []int{0, 1, 2, 3, 4}[:count]
	return slices.DeleteFunc(rowsOfLength(numbers, count), func(list []int) bool { return !plainIsPermutation(list) })
}

// permutationsFor returns all permutations of the columns of a small relation,
// and some of those of a large one.
func permutationsFor(r impl.Relation) [][]int {
	all := permutationsOf(r.Arity)
	if len(r.Rows) <= 8 {
		return all
	}
	some := slices.Clone(all[len(all)-1:])
	for i := 0; i < len(all); i += 7 {
		some = append(some, all[i])
	}
	return some
}

// plainPermuted moves the values of each row.
func plainPermuted(r impl.Relation, columns []int, move func(row, moved []int, position, column int)) (impl.Relation, bool) {
	if !plainIsValid(r) || !plainIsPermutation(columns) || len(columns) != r.Arity {
		return impl.Relation{}, false
	}
	var rows [][]int
	for _, row := range r.Rows {
		moved := make([]int, len(row))
		for position, column := range columns {
			move(row, moved, position, column)
		}
		rows = append(rows, moved)
	}
	return plainRelation(r.Arity, rows)
}

// plainTrie is the test's own result of BuildTrie, as a relation.
func plainTrie(r impl.Relation, columns []int) (impl.Relation, bool) {
	return plainPermuted(r, columns, func(row, moved []int, position, column int) { moved[position] = row[column] })
}

// plainUntrie is the test's own result of TrieToRelation.
func plainUntrie(x impl.Trie, columns []int) (impl.Relation, bool) {
	return plainPermuted(relationOf(x), columns, func(row, moved []int, position, column int) { moved[column] = row[position] })
}

// checkColumns compares the trie of a relation, and the relation of the same
// rows as a trie, with the test's own results.
func checkColumns(t *testing.T, r impl.Relation, columns []int) {
	t.Helper()
	want, wantOk := plainTrie(r, columns)
	got, ok := impl.BuildTrie(r, columns)
	checkRelation(t, fmt.Sprintf("BuildTrie(%s, %v)", describe(r), short(columns)), relationOf(got), ok, want, wantOk)
	want, wantOk = plainUntrie(trieOf(r), columns)
	restored, ok := impl.TrieToRelation(trieOf(r), columns)
	checkRelation(t, fmt.Sprintf("TrieToRelation(%s, %v)", describe(r), short(columns)), restored, ok, want, wantOk)
}

// plainPrefixRange is the test's own result of TriePrefixRange.
func plainPrefixRange(x impl.Trie, prefix []int) (low, high int) {
	if !plainIsValid(relationOf(x)) || len(prefix) > x.Arity {
		return 0, 0
	}
	for _, row := range x.Rows {
		order := plainOrder(row[:len(prefix)], prefix)
		if order < 0 {
			low++
		}
		if order <= 0 {
			high++
		}
	}
	return low, high
}

// plainTrieChildren is the test's own result of TrieChildren.
func plainTrieChildren(x impl.Trie, prefix []int) []int {
	var children []int
	if !plainIsValid(relationOf(x)) || len(prefix) >= x.Arity {
		return children
	}
	var follows [valueLimit + 1]bool
	for _, row := range x.Rows {
		if slices.Equal(row[:len(prefix)], prefix) {
			follows[row[len(prefix)]] = true
		}
	}
	for v, ok := range follows {
		if ok {
			children = append(children, v)
		}
	}
	return children
}

// checkPrefix compares the functions of a prefix with the test's own results.
func checkPrefix(t *testing.T, x impl.Trie, prefix []int) {
	t.Helper()
	call := fmt.Sprintf("of %s and the prefix %v", describe(relationOf(x)), short(prefix))
	low, high := plainPrefixRange(x, prefix)
	if gotLow, gotHigh := impl.TriePrefixRange(x, prefix); gotLow != low || gotHigh != high {
		t.Fatalf("TriePrefixRange %s = %d, %d, want %d, %d", call, gotLow, gotHigh, low, high)
	}
	if got := impl.TriePrefixCount(x, prefix); got != high-low {
		t.Fatalf("TriePrefixCount %s = %d, want %d", call, got, high-low)
	}
	if got, want := impl.TrieChildren(x, prefix), plainTrieChildren(x, prefix); plainOrder(got, want) != 0 {
		t.Fatalf("TrieChildren %s = %v, want %v", call, got, want)
	}
}

func TestIsPermutation(t *testing.T) {
	for _, c := range []struct {
		columns []int
		want    bool
	}{
		{nil, true},
		{[]int{}, true},
		{[]int{0}, true},
		{[]int{1}, false},
		{[]int{-1}, false},
		{[]int{0, 1}, true},
		{[]int{1, 0}, true},
		{[]int{0, 0}, false},
		{[]int{1, 1}, false},
		{[]int{1, 2}, false},
		{[]int{0, -1}, false},
		{[]int{2, 0, 1}, true},
		{[]int{0, 1, 3}, false},
		{[]int{0, 2, 2}, false},
		{[]int{0, 0, 3}, false},
		{[]int{1, 1, 1}, false},
		{[]int{3, 2, 1, 0}, true},
		{[]int{4, 2, 0, 1, 3}, true},
		{[]int{0, 1, 2, 3, 4}, true},
		{[]int{0, 1, 2, 3, 5}, false},
		{[]int{5, 4, 3, 2, 1}, false},
		{[]int{0, 1, 2, 3, 4, 5}, false},
		{[]int{5, 4, 3, 2, 1, 0}, false},
		{[]int{0, 1, 2, 3, 4, 0}, false},
		{[]int{1 << 32, 1}, false},
		{[]int{0, 1<<32 + 1}, false},
		{[]int{math.MinInt}, false},
		{[]int{0, math.MaxInt}, false},
	} {
		if got := impl.IsPermutation(c.columns); got != c.want {
			t.Errorf("IsPermutation(%v) = %v", c.columns, got)
		}
	}
}

func TestIsPermutationForAllLists(t *testing.T) {
	count := map[int]int{}
	for _, columns := range allRows([]int{-1, 0, 1, 2, 3, 4, 5}, arityLimit+1) {
		got := impl.IsPermutation(columns)
		if got != plainIsPermutation(columns) {
			t.Fatalf("IsPermutation(%v) = %v", columns, got)
		}
		if got {
			count[len(columns)]++
		}
	}
	if want := map[int]int{0: 1, 1: 1, 2: 2, 3: 6, 4: 24, 5: 120}; fmt.Sprint(count) != fmt.Sprint(want) {
		t.Errorf("there are %v permutations, want %v", count, want)
	}
}

func TestLongListsAreNoPermutations(t *testing.T) {
	for _, length := range []int{arityLimit + 1, arityLimit + 2, 100, 256, 1000000} {
		ascending := make([]int, length)
		for i := range ascending {
			ascending[i] = i
		}
		descending := slices.Clone(ascending)
		slices.Reverse(descending)
		for _, columns := range [][]int{ascending, descending, make([]int, length)} {
			if impl.IsPermutation(columns) {
				t.Errorf("IsPermutation accepts %d numbers, %v and so on", length, short(columns))
			}
			checkColumns(t, relation(length), columns)
			checkColumns(t, relation(length, ascending), columns)
			checkColumns(t, relation(arityLimit, validRow(arityLimit)), columns)
		}
	}
}

// trieCases lists a relation, the columns of a trie, and its rows.
var trieCases = []struct {
	relation string
	columns  []int
	trie     string
}{
	{"2:(0,5) (1,3) (1,5)", []int{1, 0}, "2:(3,1) (5,0) (5,1)"},
	{"2:(0,5) (1,3) (1,5)", []int{0, 1}, "2:(0,5) (1,3) (1,5)"},
	{"2:(3,1) (5,0) (5,1)", []int{1, 0}, "2:(0,5) (1,3) (1,5)"},
	{"2:", []int{1, 0}, "2:"},
	{"2:(1,1) (2,2)", []int{1, 0}, "2:(1,1) (2,2)"},
	{"0:", nil, "0:"},
	{"0:()", nil, "0:()"},
	{"0:()", []int{}, "0:()"},
	{"1:", []int{0}, "1:"},
	{"1:(0) (9) (10) (99)", []int{0}, "1:(0) (9) (10) (99)"},
	{"3:(0,1,2) (0,2,1) (1,0,0)", []int{0, 2, 1}, "3:(0,1,2) (0,2,1) (1,0,0)"},
	{"3:(0,1,2) (0,2,3) (1,0,0)", []int{0, 2, 1}, "3:(0,2,1) (0,3,2) (1,0,0)"},
	{"3:(0,1,2) (0,2,3) (1,0,0)", []int{1, 2, 0}, "3:(0,0,1) (1,2,0) (2,3,0)"},
	{"3:(0,1,2) (0,2,3) (1,0,0)", []int{2, 0, 1}, "3:(0,1,0) (2,0,1) (3,0,2)"},
	{"3:(0,1,2) (0,2,3) (1,0,0)", []int{2, 1, 0}, "3:(0,0,1) (2,1,0) (3,2,0)"},
	{"3:(7,8,9)", []int{1, 2, 0}, "3:(8,9,7)"},
	{"3:(7,8,9)", []int{2, 0, 1}, "3:(9,7,8)"},
	{"4:(1,2,3,4) (4,3,2,1)", []int{2, 3, 0, 1}, "4:(2,1,4,3) (3,4,1,2)"},
	{"4:(1,2,3,4) (4,3,2,1)", []int{1, 2, 3, 0}, "4:(2,3,4,1) (3,2,1,4)"},
	{"5:(0,1,2,3,4) (5,6,7,8,9)", []int{4, 2, 0, 1, 3}, "5:(4,2,0,1,3) (9,7,5,6,8)"},
	{"5:(99,0,99,0,99)", []int{1, 3, 0, 2, 4}, "5:(0,0,99,99,99)"},
}

func TestBuildTrie(t *testing.T) {
	for _, c := range trieCases {
		r, want := parsedRelation(t, c.relation), parsedRelation(t, c.trie)
		x, ok := impl.BuildTrie(r, c.columns)
		checkRelation(t, fmt.Sprintf("BuildTrie(%s, %v)", c.relation, c.columns), relationOf(x), ok, want, true)
		restored, ok := impl.TrieToRelation(trieOf(want), c.columns)
		checkRelation(t, fmt.Sprintf("TrieToRelation(%s, %v)", c.trie, c.columns), restored, ok, r, true)
		checkColumns(t, r, c.columns)
		checkColumns(t, want, c.columns)
	}
}

func TestTriesRestoreTheirRelations(t *testing.T) {
	for _, r := range validRelations() {
		for _, columns := range permutationsFor(r) {
			x, ok := impl.BuildTrie(r, columns)
			if !ok || !impl.IsValidTrie(x) || len(x.Rows) != len(r.Rows) {
				t.Fatalf("BuildTrie(%s, %v) = %s, %v", describe(r), columns, describe(relationOf(x)), ok)
			}
			restored, ok := impl.TrieToRelation(x, columns)
			checkRelation(t, fmt.Sprintf("TrieToRelation after BuildTrie(%s, %v)", describe(r), columns), restored, ok, r, true)
			source, ok := impl.TrieToRelation(trieOf(r), columns)
			if !ok || !impl.IsValidRelation(source) {
				t.Fatalf("TrieToRelation(%s, %v) = %s, %v", describe(r), columns, describe(source), ok)
			}
			x, ok = impl.BuildTrie(source, columns)
			checkRelation(t, fmt.Sprintf("BuildTrie after TrieToRelation(%s, %v)", describe(r), columns), relationOf(x), ok, r, true)
			checkColumns(t, r, columns)
		}
	}
}

// TestColumnsAreDistinguished has a different value in each column, so that no
// two permutations make the same trie.
func TestColumnsAreDistinguished(t *testing.T) {
	for arity := range arityLimit + 1 {
		r := relation(arity, validRow(arity))
		tries, relations := map[string]bool{}, map[string]bool{}
		for _, columns := range permutationsOf(arity) {
			checkColumns(t, r, columns)
			x, _ := impl.BuildTrie(r, columns)
			restored, _ := impl.TrieToRelation(trieOf(r), columns)
			tries[plainFormatRelation(relationOf(x))] = true
			relations[plainFormatRelation(restored)] = true
		}
		if count := len(permutationsOf(arity)); len(tries) != count || len(relations) != count {
			t.Errorf("%d permutations make %d tries and %d relations", count, len(tries), len(relations))
		}
	}
}

// columnLists contains lists that are a permutation of the columns of some
// relations or of none.
func columnLists() [][]int {
	return append(allRows([]int{-1, 0, 1, 2, 3}, 3), [][]int{
		{3, 1, 0, 2}, {3, 1, 0, 0}, {4, 1, 0, 2}, {0, 1, 2, 3, 4}, {4, 0, 3, 1, 2}, {4, 0, 3, 1, 1}, {5, 0, 3, 1, 2}, {-1, 0, 3, 1, 2},
		{0, 1, 2, 3, 4, 5}, {5, 4, 3, 2, 1, 0}, {0, 1, 2, 3, 4, 4}, {0, 1, 2, 3, 4, -1}, {0, 1, 2, 3, 4, 5, 6},
		{math.MinInt}, {math.MaxInt, 0}, {1 << 32}, {0, 1<<32 + 1}, {1, 1 << 32}, slices.Repeat([]int{0}, 4000), slices.Repeat([]int{-1}, 4000),
	}...)
}

func TestTriesOfAllColumns(t *testing.T) {
	for _, columns := range columnLists() {
		for _, r := range slices.Concat(smallRelations(), relationsOfInvalidArity(), smallInvalidRelations()) {
			checkColumns(t, r, columns)
		}
	}
	for _, r := range append(largeRelations(), largeInvalidRelations()...) {
		for i, columns := range columnLists() {
			if i%10 == 0 || len(columns) > 3 {
				checkColumns(t, r, columns)
			}
		}
	}
}

// TestTriesOfInvalidRelations has a permutation of as many columns as Arity
// says, if there can be one.
func TestTriesOfInvalidRelations(t *testing.T) {
	for _, r := range invalidRelations() {
		x, ok := impl.BuildTrie(r, nil)
		checkNone(t, "BuildTrie of "+describe(r), relationOf(x), ok)
		restored, ok := impl.TrieToRelation(trieOf(r), nil)
		checkNone(t, "TrieToRelation of "+describe(r), restored, ok)
		if r.Arity < 0 || r.Arity > 256 {
			continue
		}
		columns := make([]int, r.Arity)
		for i := range columns {
			columns[i] = r.Arity - 1 - i
		}
		x, ok = impl.BuildTrie(r, columns)
		checkNone(t, fmt.Sprintf("BuildTrie(%s, %v)", describe(r), short(columns)), relationOf(x), ok)
		restored, ok = impl.TrieToRelation(trieOf(r), columns)
		checkNone(t, fmt.Sprintf("TrieToRelation(%s, %v)", describe(r), short(columns)), restored, ok)
	}
}

// TestTriesOfAnotherArity takes permutations of one column more or less.
func TestTriesOfAnotherArity(t *testing.T) {
	for arity := range arityLimit + 1 {
		for _, r := range []impl.Relation{relation(arity), relation(arity, validRow(arity))} {
			for count := range arityLimit + 1 {
				for _, columns := range permutationsOf(count) {
					x, ok := impl.BuildTrie(r, columns)
					restored, restoredOk := impl.TrieToRelation(trieOf(r), columns)
					if ok != (count == arity) || restoredOk != ok {
						t.Fatalf("BuildTrie and TrieToRelation of %s and %v are %v and %v", describe(r), columns, ok, restoredOk)
					}
					if count != arity {
						checkNone(t, "BuildTrie of "+describe(r), relationOf(x), ok)
						checkNone(t, "TrieToRelation of "+describe(r), restored, restoredOk)
					}
				}
			}
		}
	}
}

func TestIsValidTrie(t *testing.T) {
	for _, c := range []struct {
		x    impl.Trie
		want bool
	}{
		{impl.Trie{}, true},
		{impl.Trie{Rows: [][]int{nil}}, true},
		{impl.Trie{Rows: [][]int{nil, {}}}, false},
		{impl.Trie{Arity: 2}, true},
		{impl.Trie{Arity: 2, Rows: [][]int{{0, 5}, {1, 3}, {1, 5}}}, true},
		{impl.Trie{Arity: 2, Rows: [][]int{{0, 5}, {1, 5}, {1, 3}}}, false},
		{impl.Trie{Arity: 2, Rows: [][]int{{0, 5}, {0, 5}}}, false},
		{impl.Trie{Arity: 2, Rows: [][]int{{0, 100}}}, false},
		{impl.Trie{Arity: 2, Rows: [][]int{{-1, 0}}}, false},
		{impl.Trie{Arity: 2, Rows: [][]int{{0, 5}, {1}}}, false},
		{impl.Trie{Arity: 2, Rows: [][]int{{0, 5, 0}}}, false},
		{impl.Trie{Arity: 5, Rows: [][]int{{0, 1, 2, 3, 4}}}, true},
		{impl.Trie{Arity: 6}, false},
		{impl.Trie{Arity: -1}, false},
	} {
		if got := impl.IsValidTrie(c.x); got != c.want {
			t.Errorf("IsValidTrie(%v) = %v", c.x, got)
		}
	}
	for _, r := range validRelations() {
		if !impl.IsValidTrie(trieOf(r)) {
			t.Errorf("the trie %s is valid", describe(r))
		}
	}
	for _, r := range invalidRelations() {
		if impl.IsValidTrie(trieOf(r)) {
			t.Errorf("the trie %s is invalid", describe(r))
		}
	}
}

// prefixCases lists a trie, a prefix, the range of its rows, and the values
// that follow it.
var prefixCases = []struct {
	trie      string
	prefix    []int
	low, high int
	children  []int
}{
	{"2:(3,1) (5,0) (5,1)", nil, 0, 3, []int{3, 5}},
	{"2:(3,1) (5,0) (5,1)", []int{}, 0, 3, []int{3, 5}},
	{"2:(3,1) (5,0) (5,1)", []int{3}, 0, 1, []int{1}},
	{"2:(3,1) (5,0) (5,1)", []int{5}, 1, 3, []int{0, 1}},
	{"2:(3,1) (5,0) (5,1)", []int{4}, 1, 1, nil},
	{"2:(3,1) (5,0) (5,1)", []int{2}, 0, 0, nil},
	{"2:(3,1) (5,0) (5,1)", []int{6}, 3, 3, nil},
	{"2:(3,1) (5,0) (5,1)", []int{-1}, 0, 0, nil},
	{"2:(3,1) (5,0) (5,1)", []int{100}, 3, 3, nil},
	{"2:(3,1) (5,0) (5,1)", []int{math.MinInt}, 0, 0, nil},
	{"2:(3,1) (5,0) (5,1)", []int{math.MaxInt}, 3, 3, nil},
	{"2:(3,1) (5,0) (5,1)", []int{1<<32 + 5}, 3, 3, nil},
	{"2:(3,1) (5,0) (5,1)", []int{3, 0}, 0, 0, nil},
	{"2:(3,1) (5,0) (5,1)", []int{3, 1}, 0, 1, nil},
	{"2:(3,1) (5,0) (5,1)", []int{3, 2}, 1, 1, nil},
	{"2:(3,1) (5,0) (5,1)", []int{4, 9}, 1, 1, nil},
	{"2:(3,1) (5,0) (5,1)", []int{5, -1}, 1, 1, nil},
	{"2:(3,1) (5,0) (5,1)", []int{5, 0}, 1, 2, nil},
	{"2:(3,1) (5,0) (5,1)", []int{5, 1}, 2, 3, nil},
	{"2:(3,1) (5,0) (5,1)", []int{5, 100}, 3, 3, nil},
	{"2:(3,1) (5,0) (5,1)", []int{5, 1, 0}, 0, 0, nil},
	{"2:(3,1) (5,0) (5,1)", []int{9, 9, 9}, 0, 0, nil},
	{"2:", nil, 0, 0, nil},
	{"2:", []int{0}, 0, 0, nil},
	{"2:", []int{0, 0}, 0, 0, nil},
	{"2:", []int{0, 0, 0}, 0, 0, nil},
	{"0:", nil, 0, 0, nil},
	{"0:", []int{0}, 0, 0, nil},
	{"0:()", nil, 0, 1, nil},
	{"0:()", []int{}, 0, 1, nil},
	{"0:()", []int{0}, 0, 0, nil},
	{"0:()", []int{-1}, 0, 0, nil},
	{"1:(0) (9) (10) (99)", nil, 0, 4, []int{0, 9, 10, 99}},
	{"1:(0) (9) (10) (99)", []int{0}, 0, 1, nil},
	{"1:(0) (9) (10) (99)", []int{1}, 1, 1, nil},
	{"1:(0) (9) (10) (99)", []int{9}, 1, 2, nil},
	{"1:(0) (9) (10) (99)", []int{98}, 3, 3, nil},
	{"1:(0) (9) (10) (99)", []int{99}, 3, 4, nil},
	{"1:(0) (9) (10) (99)", []int{99, 0}, 0, 0, nil},
	{"3:(1,2,3) (1,2,4) (1,3,3) (2,2,9)", nil, 0, 4, []int{1, 2}},
	{"3:(1,2,3) (1,2,4) (1,3,3) (2,2,9)", []int{1}, 0, 3, []int{2, 3}},
	{"3:(1,2,3) (1,2,4) (1,3,3) (2,2,9)", []int{2}, 3, 4, []int{2}},
	{"3:(1,2,3) (1,2,4) (1,3,3) (2,2,9)", []int{1, 2}, 0, 2, []int{3, 4}},
	{"3:(1,2,3) (1,2,4) (1,3,3) (2,2,9)", []int{1, 3}, 2, 3, []int{3}},
	{"3:(1,2,3) (1,2,4) (1,3,3) (2,2,9)", []int{1, 4}, 3, 3, nil},
	{"3:(1,2,3) (1,2,4) (1,3,3) (2,2,9)", []int{2, 1}, 3, 3, nil},
	{"3:(1,2,3) (1,2,4) (1,3,3) (2,2,9)", []int{2, 3}, 4, 4, nil},
	{"3:(1,2,3) (1,2,4) (1,3,3) (2,2,9)", []int{1, 2, 4}, 1, 2, nil},
	{"3:(1,2,3) (1,2,4) (1,3,3) (2,2,9)", []int{1, 2, 5}, 2, 2, nil},
	{"5:(0,0,0,0,0) (0,0,0,0,99) (0,0,0,1,0)", []int{0, 0, 0, 0}, 0, 2, []int{0, 99}},
	{"5:(0,0,0,0,0) (0,0,0,0,99) (0,0,0,1,0)", []int{0, 0, 0}, 0, 3, []int{0, 1}},
	{"5:(0,0,0,0,0) (0,0,0,0,99) (0,0,0,1,0)", []int{0, 0, 0, 0, 99}, 1, 2, nil},
	{"5:(0,0,0,0,0) (0,0,0,0,99) (0,0,0,1,0)", []int{0, 0, 0, 0, 99, 0}, 0, 0, nil},
}

func TestTriePrefixes(t *testing.T) {
	for _, c := range prefixCases {
		x := trieOf(parsedRelation(t, c.trie))
		if low, high := impl.TriePrefixRange(x, c.prefix); low != c.low || high != c.high {
			t.Errorf("TriePrefixRange(%s, %v) = %d, %d, want %d, %d", c.trie, c.prefix, low, high, c.low, c.high)
		}
		if got := impl.TriePrefixCount(x, c.prefix); got != c.high-c.low {
			t.Errorf("TriePrefixCount(%s, %v) = %d", c.trie, c.prefix, got)
		}
		if got := impl.TrieChildren(x, c.prefix); plainOrder(got, c.children) != 0 {
			t.Errorf("TrieChildren(%s, %v) = %v, want %v", c.trie, c.prefix, got, c.children)
		}
		checkPrefix(t, x, c.prefix)
	}
}

// TestPrefixOfLengthZero expects all rows, and all values of the first column.
func TestPrefixOfLengthZero(t *testing.T) {
	for _, r := range validRelations() {
		x := trieOf(r)
		var first []int
		for _, row := range r.Rows {
			if len(row) > 0 && (len(first) == 0 || row[0] != first[len(first)-1]) {
				first = append(first, row[0])
			}
		}
		for _, prefix := range [][]int{nil, {}, validRow(2)[:0]} {
			if low, high := impl.TriePrefixRange(x, prefix); low != 0 || high != len(r.Rows) {
				t.Errorf("TriePrefixRange(%s, %v) = %d, %d", describe(r), prefix, low, high)
			}
			if got := impl.TriePrefixCount(x, prefix); got != len(r.Rows) {
				t.Errorf("TriePrefixCount(%s, %v) = %d", describe(r), prefix, got)
			}
			if got := impl.TrieChildren(x, prefix); plainOrder(got, first) != 0 {
				t.Errorf("TrieChildren(%s, %v) = %v, want %v", describe(r), prefix, got, first)
			}
			checkPrefix(t, x, prefix)
		}
	}
	for _, r := range invalidRelations() {
		checkPrefix(t, trieOf(r), nil)
		checkPrefix(t, trieOf(r), []int{})
	}
}

// TestPrefixesOfAllSmallTries takes all sets of rows of two columns and three
// values, and all prefixes of up to three of these values and others.
func TestPrefixesOfAllSmallTries(t *testing.T) {
	prefixes := append(allRows([]int{-1, 0, 1, 7, 8, 98, valueLimit, valueLimit + 1}, 2), rowsOfLength([]int{0, 7}, 3)...)
	for _, r := range subsets(2, rowsOfLength([]int{0, 7, valueLimit}, 2)) {
		for _, prefix := range prefixes {
			checkPrefix(t, trieOf(r), prefix)
		}
	}
	prefixes = append(allRows([]int{-1, 0, 1, 2, valueLimit}, 3), rowsOfLength([]int{0, 1}, 4)...)
	for _, r := range subsets(3, rowsOfLength([]int{0, 1}, 3)) {
		for _, prefix := range prefixes {
			checkPrefix(t, trieOf(r), prefix)
		}
	}
}

// prefixesFor contains prefixes of the rows, each also with another last value,
// and rows with more values.
func prefixesFor(rows [][]int) [][]int {
	prefixes := [][]int{nil, {-1}, {valueLimit + 1}, {math.MinInt}, {math.MaxInt}}
	for _, row := range rows {
		for length := 1; length <= len(row); length++ {
			prefix := row[:length]
			prefixes = append(prefixes, prefix)
			last := prefix[length-1]
			for _, v := range []int{last - 1, last + 1, -1, 0, valueLimit, valueLimit + 1, math.MinInt, math.MaxInt} {
				changed := slices.Clone(prefix)
				changed[length-1] = v
				prefixes = append(prefixes, changed)
			}
		}
		prefixes = append(prefixes, append(slices.Clone(row), 0), append(slices.Clone(row), row...))
	}
	return prefixes
}

func TestPrefixesOfTries(t *testing.T) {
	for _, r := range validRelations() {
		rows := append(rowsFor(r)[:40], r.Rows[max(len(r.Rows)-1, 0):]...)
		for i := 0; i < len(r.Rows); i += 1 + len(r.Rows)/12 {
			rows = append(rows, r.Rows[i])
		}
		for _, prefix := range prefixesFor(rows) {
			checkPrefix(t, trieOf(r), prefix)
		}
	}
}

// TestPrefixesOfRandomTries has few values, so that many rows have each prefix.
func TestPrefixesOfRandomTries(t *testing.T) {
	random := rand.New(rand.NewSource(62))
	for i := range 400 {
		arity := 1 + i%arityLimit
		values := []int{0, 1, 2, 3, 50, 98, 99}[:1+random.Intn(7)]
		var rows [][]int
		for range random.Intn(60) {
			row := make([]int, arity)
			for k := range row {
				row[k] = values[random.Intn(len(values))]
			}
			rows = append(rows, row)
		}
		r, _ := plainRelation(arity, rows)
		permutations := permutationsOf(arity)
		columns := permutations[random.Intn(len(permutations))]
		checkColumns(t, r, columns)
		x, _ := impl.BuildTrie(r, columns)
		for range 40 {
			prefix := make([]int, random.Intn(arity+2))
			for k := range prefix {
				prefix[k] = []int{-1, 0, 1, 2, 3, 4, 50, 97, 98, 99, 100}[random.Intn(11)]
			}
			checkPrefix(t, x, prefix)
		}
		for _, prefix := range prefixesFor(x.Rows[:min(len(x.Rows), 10)]) {
			checkPrefix(t, x, prefix)
		}
	}
}

// TestRowsAsPrefixes has prefixes of as many values as there are columns, and of
// one more.
func TestRowsAsPrefixes(t *testing.T) {
	for _, r := range validRelations() {
		x := trieOf(r)
		for i, row := range r.Rows {
			if i%40 != 0 && i < len(r.Rows)-2 {
				continue
			}
			if low, high := impl.TriePrefixRange(x, row); low != i || high != i+1 {
				t.Fatalf("TriePrefixRange(%s, %v) = %d, %d", describe(r), row, low, high)
			}
			if count, children := impl.TriePrefixCount(x, row), impl.TrieChildren(x, row); count != 1 || len(children) != 0 {
				t.Fatalf("TriePrefixCount(%s, %v) = %d, TrieChildren = %v", describe(r), row, count, children)
			}
			checkTooLongPrefix(t, x, append(slices.Clone(row), 0))
		}
		checkTooLongPrefix(t, x, validRow(r.Arity+1))
		checkTooLongPrefix(t, x, slices.Repeat([]int{valueLimit + 1}, r.Arity+1))
		checkTooLongPrefix(t, x, make([]int, 100000))
	}
}

func checkTooLongPrefix(t *testing.T, x impl.Trie, prefix []int) {
	t.Helper()
	low, high := impl.TriePrefixRange(x, prefix)
	count, children := impl.TriePrefixCount(x, prefix), impl.TrieChildren(x, prefix)
	if low != 0 || high != 0 || count != 0 || len(children) != 0 {
		t.Fatalf("%s has the prefix %v: %d, %d, %d, %v", describe(relationOf(x)), short(prefix), low, high, count, children)
	}
}

func TestPrefixesOfInvalidTries(t *testing.T) {
	for _, r := range invalidRelations() {
		prefixes := allRows([]int{0, 1, valueLimit}, 2)
		for _, row := range r.Rows[:min(len(r.Rows), 3)] {
			for _, length := range []int{1, len(row) / 2, len(row) - 1, len(row)} {
				prefixes = append(prefixes, row[:max(min(length, len(row)), 0)])
			}
		}
		for length := range arityLimit + 3 {
			prefixes = append(prefixes, make([]int, length), validRow(length))
		}
		for _, prefix := range append(prefixes, make([]int, 5000), []int{math.MinInt}, []int{math.MaxInt, 1 << 32}) {
			checkTooLongPrefix(t, trieOf(r), prefix)
		}
	}
}

// walkTrie returns the rows below the prefix by following all children, and
// checks that their ranges follow each other.
func walkTrie(t *testing.T, x impl.Trie, prefix []int) [][]int {
	t.Helper()
	low, high := impl.TriePrefixRange(x, prefix)
	if len(prefix) == x.Arity {
		return slices.Repeat([][]int{prefix}, high-low)
	}
	var rows [][]int
	next := low
	for _, v := range impl.TrieChildren(x, prefix) {
		longer := append(slices.Clone(prefix), v)
		start, end := impl.TriePrefixRange(x, longer)
		if start != next || end <= start || impl.TriePrefixCount(x, longer) != end-start {
			t.Fatalf("the rows of %s with the prefix %v are from %d to %d, but start at %d", describe(relationOf(x)), longer, start, end, next)
		}
		next = end
		rows = append(rows, walkTrie(t, x, longer)...)
	}
	if next != high {
		t.Fatalf("the rows of %s with the prefix %v end at %d, those of its children at %d", describe(relationOf(x)), prefix, high, next)
	}
	return rows
}

// TestTriesAreWalked finds all rows of a trie through its children.
func TestTriesAreWalked(t *testing.T) {
	for _, r := range validRelations() {
		if len(r.Rows) > 300 {
			continue
		}
		for _, columns := range permutationsFor(r) {
			x, ok := impl.BuildTrie(r, columns)
			if rows := walkTrie(t, x, nil); !ok || !sameRelations(relation(r.Arity, rows...), relationOf(x)) {
				t.Fatalf("the walk through the trie %s finds %d rows", describe(relationOf(x)), len(rows))
			}
		}
	}
}

// TestPrefixesSelectRows compares the rows of a range with the rows of the
// relation that have these values in these columns.
func TestPrefixesSelectRows(t *testing.T) {
	rows := rowsOfLength([]int{0, 4, 9}, 3)
	random := rand.New(rand.NewSource(63))
	for range 20 {
		random.Shuffle(len(rows), func(i, k int) { rows[i], rows[k] = rows[k], rows[i] })
		r, _ := plainRelation(3, rows[:random.Intn(len(rows))])
		for _, columns := range permutationsOf(3) {
			x, _ := impl.BuildTrie(r, columns)
			for _, prefix := range allRows([]int{0, 3, 4, 9}, 3) {
				var selected [][]int
				for _, row := range r.Rows {
					isSelected := true
					for i, v := range prefix {
						isSelected = isSelected && row[columns[i]] == v
					}
					if isSelected {
						selected = append(selected, row)
					}
				}
				low, high := impl.TriePrefixRange(x, prefix)
				restored, ok := impl.TrieToRelation(trieOf(relation(3, x.Rows[low:high]...)), columns)
				checkRelation(t, fmt.Sprintf("the rows of %s with %v at %v", describe(r), prefix, columns), restored, ok, relation(3, selected...), true)
			}
		}
	}
}

type trieCall struct {
	name string
	call func(r impl.Relation, columns, prefix []int) (impl.Relation, bool)
}

// trieCalls returns each function whose result has slices.
func trieCalls() []trieCall {
	return []trieCall{
		{"BuildTrie", func(r impl.Relation, columns, prefix []int) (impl.Relation, bool) {
			x, ok := impl.BuildTrie(r, columns)
			return impl.Relation{Arity: x.Arity, Rows: x.Rows}, ok
		}},
		{"TrieToRelation", func(r impl.Relation, columns, prefix []int) (impl.Relation, bool) {
			return impl.TrieToRelation(trieOf(r), columns)
		}},
		{"TrieChildren", func(r impl.Relation, columns, prefix []int) (impl.Relation, bool) {
			return relation(0, impl.TrieChildren(trieOf(r), prefix)), true
		}},
	}
}

// checkTrieMemory calls each function with guarded arguments.
func checkTrieMemory(t *testing.T, original impl.Relation, columnList, values []int) {
	t.Helper()
	r, isRelationAsBefore := guardedRelation(original)
	columns, columnArray := guardedInts(columnList)
	prefix, prefixArray := guardedInts(values)
	savedColumns, savedPrefix := slices.Clone(columnArray), slices.Clone(prefixArray)
	areAsBefore := func() bool {
		return isRelationAsBefore() && slices.Equal(columnArray, savedColumns) && slices.Equal(prefixArray, savedPrefix)
	}
	impl.IsValidTrie(trieOf(r))
	impl.IsPermutation(columns)
	impl.TriePrefixCount(trieOf(r), prefix)
	impl.TriePrefixRange(trieOf(r), prefix)
	if !areAsBefore() {
		t.Fatalf("IsValidTrie, IsPermutation, TriePrefixCount or TriePrefixRange modifies %s, %v or %v", describe(original), columnList, values)
	}
	for _, c := range trieCalls() {
		call := func() (impl.Relation, bool) { return c.call(r, columns, prefix) }
		if problem := memoryProblem(call, areAsBefore); problem != "" {
			t.Fatalf("%s of %s, %v and %v: %s", c.name, describe(original), short(columnList), short(values), problem)
		}
	}
}

func TestTrieMemory(t *testing.T) {
	for _, r := range slices.Concat(smallRelations(), relationsOfInvalidArity(), smallInvalidRelations()) {
		lists := [][]int{nil, {0}, {1, 0}, {2, 0, 1}, {0, 0}, {5, 4, 3, 2, 1, 0}}
		if 0 <= r.Arity && r.Arity <= arityLimit {
			lists = append(lists, permutationsOf(r.Arity)...)
		}
		prefixes := [][]int{nil, {0}, {valueLimit}, {-1, 3}, {0, 0, 0, 0}}
		if len(r.Rows) > 0 {
			last := r.Rows[len(r.Rows)-1]
			prefixes = append(prefixes, last, last[:len(last)/2])
		}
		for i := range max(len(lists), len(prefixes)) {
			checkTrieMemory(t, r, lists[i%len(lists)], prefixes[i%len(prefixes)])
		}
	}
	for _, r := range append(largeRelations(), largeInvalidRelations()...) {
		permutations := permutationsOf(r.Arity)
		for _, columns := range [][]int{{0, 0}, permutations[0], permutations[len(permutations)/2]} {
			checkTrieMemory(t, r, columns, nil)
			checkTrieMemory(t, r, columns, r.Rows[50][:r.Arity/2])
		}
	}
}

// TestTriePartsMayOverlap passes parts of one array as rows, columns and prefix.
func TestTriePartsMayOverlap(t *testing.T) {
	array := []int{9, 0, 1, 0, 2, 1, 0}
	saved := slices.Clone(array)
	r := relation(2, array[1:3], array[3:5], array[5:7])
	sorted := relation(2, array[1:3], array[3:5])
	for start := range array {
		for end := start; end <= len(array); end++ {
			for _, rows := range []impl.Relation{r, sorted} {
				checkColumns(t, rows, array[start:end])
				checkPrefix(t, trieOf(rows), array[start:end])
				for _, c := range trieCalls() {
					got, _ := c.call(rows, array[start:end], array[start:end])
					overwriteRows(got)
					if !slices.Equal(array, saved) || len(r.Rows[2]) != 2 {
						t.Fatalf("the result of %s shares memory", c.name)
					}
				}
			}
		}
	}
}
