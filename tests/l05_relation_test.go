package tests

import (
	"fmt"
	"math"
	"math/rand"
	"regexp"
	"slices"
	"strconv"
	"strings"
	"testing"

	"loop.example/g01917/impl"
)

const arityLimit = 5
const rowLimit = 4000

// The conversion compiles only if a Relation has no other fields.
var _ = impl.Relation(struct {
	Arity int
	Rows  [][]int
}{})

func relation(arity int, rows ...[]int) impl.Relation {
	return impl.Relation{Arity: arity, Rows: rows}
}

// describe keeps messages about large relations readable.
func describe(r impl.Relation) string {
	if len(r.Rows) > 8 {
		return fmt.Sprintf("%d rows of arity %d", len(r.Rows), r.Arity)
	}
	return fmt.Sprintf("%d:%v", r.Arity, r.Rows)
}

func cloneOf(r impl.Relation) impl.Relation {
	rows := make([][]int, len(r.Rows))
	for i, row := range r.Rows {
		rows[i] = append([]int{}, row...)
	}
	return impl.Relation{Arity: r.Arity, Rows: rows}
}

// sameRelations is the test's own comparison of any relations.
func sameRelations(a, b impl.Relation) bool {
	if a.Arity != b.Arity || len(a.Rows) != len(b.Rows) {
		return false
	}
	for i := range a.Rows {
		if plainOrder(a.Rows[i], b.Rows[i]) != 0 {
			return false
		}
	}
	return true
}

func isRowOf(row []int, arity int) bool {
	for _, v := range row {
		if v < 0 || v > valueLimit {
			return false
		}
	}
	return len(row) == arity
}

// plainIsValid is the test's own check of a relation.
func plainIsValid(r impl.Relation) bool {
	if r.Arity < 0 || r.Arity > arityLimit || len(r.Rows) > rowLimit {
		return false
	}
	for i, row := range r.Rows {
		if !isRowOf(row, r.Arity) || i > 0 && plainOrder(r.Rows[i-1], row) != -1 {
			return false
		}
	}
	return true
}

// plainRelation is the test's own construction of a relation from rows.
func plainRelation(arity int, rows [][]int) (impl.Relation, bool) {
	var distinct [][]int
	seen := map[string]bool{}
	for _, row := range rows {
		if key := fmt.Sprint(row); !seen[key] {
			seen[key] = true
			distinct = append(distinct, row)
		}
	}
	slices.SortFunc(distinct, plainOrder)
	r := cloneOf(relation(arity, distinct...))
	if !plainIsValid(r) {
		return impl.Relation{}, false
	}
	return r, true
}

func plainContains(r impl.Relation, row []int) bool {
	for _, other := range r.Rows {
		if slices.Equal(other, row) {
			return plainIsValid(r)
		}
	}
	return false
}

// without returns the rows that do not occur among the others.
func without(rows, others [][]int) [][]int {
	removed := map[string]bool{}
	for _, row := range others {
		removed[fmt.Sprint(row)] = true
	}
	var rest [][]int
	for _, row := range rows {
		if !removed[fmt.Sprint(row)] {
			rest = append(rest, row)
		}
	}
	return rest
}

// plainInsert is the test's own insertion.
func plainInsert(r impl.Relation, row []int) (impl.Relation, bool) {
	index := 0
	for index < len(r.Rows) && plainOrder(r.Rows[index], row) < 0 {
		index++
	}
	longer := relation(r.Arity, slices.Concat(r.Rows[:index], [][]int{row}, r.Rows[index:])...)
	if !plainIsValid(r) || !plainIsValid(longer) {
		return r, false
	}
	return longer, true
}

// rowsOfLength returns every row of that length of these values.
func rowsOfLength(values []int, length int) [][]int {
	var rows [][]int
	for _, row := range allRows(values, length) {
		if len(row) == length {
			rows = append(rows, row)
		}
	}
	return rows
}

// subsets returns every relation of rows that are given in ascending order.
func subsets(arity int, rows [][]int) []impl.Relation {
	all := []impl.Relation{relation(arity)}
	for _, row := range rows {
		for _, r := range slices.Clone(all) {
			all = append(all, relation(arity, append(slices.Clone(r.Rows), row)...))
		}
	}
	return all
}

// smallRelations contains all relations of a few rows for each arity.
func smallRelations() []impl.Relation {
	return slices.Concat(
		subsets(0, [][]int{{}}),
		subsets(1, [][]int{{0}, {50}, {valueLimit}}),
		subsets(2, rowsOfLength([]int{0, valueLimit}, 2)),
		subsets(3, [][]int{{0, 0, 0}, {0, 98, 99}, {1, 0, 2}}),
		subsets(4, [][]int{{0, 0, 0, 1}, {0, 0, 1, 0}, {99, 99, 99, 99}}),
		subsets(5, [][]int{{0, 0, 0, 0, 0}, {4, 3, 2, 1, 0}, {4, 3, 2, 1, 1}}),
		[]impl.Relation{{}, {Rows: [][]int{nil}}, {Arity: 1, Rows: [][]int{}}},
	)
}

// manyRows returns rows in ascending order in which all columns vary.
func manyRows(arity, count int) [][]int {
	step := 1
	for range arity {
		step *= valueLimit + 1
	}
	step /= rowLimit + 1
	rows := make([][]int, count)
	for i := range rows {
		rows[i] = make([]int, arity)
		rest := i * step
		for k := arity - 1; k >= 0; k-- {
			rows[i][k] = rest % (valueLimit + 1)
			rest /= valueLimit + 1
		}
	}
	return rows
}

// largeRelations contains relations with as many rows as allowed, and almost as
// many.
func largeRelations() []impl.Relation {
	all := []impl.Relation{relation(1, rowsOfLength(allValues(), 1)...)}
	for arity := 2; arity <= arityLimit; arity++ {
		for _, count := range []int{257, rowLimit - 1, rowLimit} {
			all = append(all, relation(arity, manyRows(arity, count)...))
		}
	}
	return all
}

func allValues() []int {
	values := make([]int, valueLimit+1)
	for v := range values {
		values[v] = v
	}
	return values
}

func validRelations() []impl.Relation {
	return append(smallRelations(), largeRelations()...)
}

// relationsOfInvalidArity have no rows or rows of that arity.
func relationsOfInvalidArity() []impl.Relation {
	var all []impl.Relation
	for _, arity := range []int{math.MinInt, -1 << 32, -2, -1, 6, 7, 100, 256, 1 << 32, 1<<32 + 2, math.MaxInt} {
		all = append(all, relation(arity), relation(arity, nil), relation(arity, []int{0, 1}))
		if 0 < arity && arity <= 256 {
			all = append(all, relation(arity, validRow(arity)), relation(arity, make([]int, arity), slices.Repeat([]int{99}, arity)))
		}
	}
	return all
}

// smallInvalidRelations contains, for each arity, wrong rows at each position
// and right rows in a wrong order.
func smallInvalidRelations() []impl.Relation {
	all := []impl.Relation{
		relation(0, nil, nil), relation(0, []int{}, []int{}, []int{}), relation(0, []int{0}), relation(0, nil, []int{0}),
		relation(2, []int{0, 1}, []int{0, 2}, []int{0, 1}), relation(2, []int{0, 1}, []int{0, 1}, []int{0, 2}),
		relation(2, []int{1, 0}, []int{0, 1}), relation(1, []int{9}, []int{10}, []int{2}), relation(3, []int{1, 2}, []int{1, 2, 3}),
	}
	for arity := 1; arity <= arityLimit; arity++ {
		low, high := make([]int, arity), slices.Repeat([]int{valueLimit}, arity)
		all = append(all, relation(arity, high, low), relation(arity, low, low), relation(arity, low, high, high))
		for _, row := range [][]int{nil, low[1:], append(slices.Clone(low), 0), append(slices.Clone(high), 99)} {
			all = append(all, relation(arity, row), relation(arity, low, row), relation(arity, row, high), relation(arity, low, row, high))
		}
		for position := range arity {
			for _, v := range []int{-1, valueLimit + 1, 256, 1 << 32, math.MinInt, math.MaxInt} {
				row := slices.Repeat([]int{1}, arity)
				row[position] = v
				all = append(all, relation(arity, row), relation(arity, low, row), relation(arity, row, high))
			}
		}
	}
	return all
}

// largeInvalidRelations have one row too many, or one wrong row or pair of rows
// at the beginning, in the middle or at the end.
func largeInvalidRelations() []impl.Relation {
	all := []impl.Relation{
		{Arity: 0, Rows: make([][]int, rowLimit)}, {Arity: 0, Rows: make([][]int, rowLimit+1)},
		{Arity: 1, Rows: append(rowsOfLength(allValues(), 1), []int{valueLimit + 1})},
	}
	for arity := 2; arity <= arityLimit; arity++ {
		all = append(all, relation(arity, manyRows(arity, rowLimit+1)...))
		for _, i := range []int{0, rowLimit / 2, rowLimit - 2} {
			for _, row := range [][]int{nil, slices.Repeat([]int{100}, arity), manyRows(arity, rowLimit)[i+1]} {
				r := relation(arity, manyRows(arity, rowLimit)...)
				r.Rows[i] = row
				all = append(all, r)
			}
			swapped := relation(arity, manyRows(arity, rowLimit)...)
			swapped.Rows[i], swapped.Rows[i+1] = swapped.Rows[i+1], swapped.Rows[i]
			all = append(all, swapped)
		}
	}
	return all
}

func invalidRelations() []impl.Relation {
	return slices.Concat(relationsOfInvalidArity(), smallInvalidRelations(), largeInvalidRelations())
}

// rowsFor contains rows of the relation, rows that it does not contain, and
// rows that it cannot contain.
func rowsFor(r impl.Relation) [][]int {
	rows := append(allRows([]int{-1, 0, valueLimit, valueLimit + 1}, 2), nil, []int{math.MinInt}, []int{1 << 32}, []int{math.MaxInt, 0})
	for length := 1; length <= arityLimit+1; length++ {
		rows = append(rows, make([]int, length), validRow(length), slices.Repeat([]int{valueLimit}, length))
		for position := range length {
			for _, v := range []int{-1, 1, valueLimit + 1} {
				row := make([]int, length)
				row[position] = v
				rows = append(rows, row)
			}
		}
	}
	for i := 0; i < len(r.Rows); i += 1 + len(r.Rows)/5 {
		row := r.Rows[i]
		rows = append(rows, row, append(slices.Clone(row), 0), row[:max(len(row)-1, 0)])
	}
	return append(rows, slices.Clone(r.Rows[max(len(r.Rows)-1, 0):])...)
}

// checkNone checks results that come with false.
func checkNone(t *testing.T, call string, got impl.Relation, ok bool) {
	t.Helper()
	if ok || got.Arity != 0 || len(got.Rows) != 0 {
		t.Errorf("%s = %s, %v", call, describe(got), ok)
	}
}

func checkRelation(t *testing.T, call string, got impl.Relation, ok bool, want impl.Relation, wantOk bool) {
	t.Helper()
	if !sameRelations(got, want) || ok != wantOk {
		t.Fatalf("%s = %s, %v, want %s, %v", call, describe(got), ok, describe(want), wantOk)
	}
}

func TestRelationLimits(t *testing.T) {
	if impl.MaxArity != arityLimit || impl.MaxRows != rowLimit {
		t.Errorf("MaxArity = %d, MaxRows = %d", impl.MaxArity, impl.MaxRows)
	}
}

func TestIsValidRelation(t *testing.T) {
	for _, r := range validRelations() {
		if !plainIsValid(r) || !impl.IsValidRelation(r) {
			t.Errorf("%s is valid", describe(r))
		}
	}
	for _, r := range invalidRelations() {
		if plainIsValid(r) || impl.IsValidRelation(r) {
			t.Errorf("%s is invalid", describe(r))
		}
	}
}

// TestIsValidRelationForAllShortLists takes every list of up to three rows, in
// every order, with every arity.
func TestIsValidRelationForAllShortLists(t *testing.T) {
	rows := append(allRows([]int{-1, 0, valueLimit, valueLimit + 1}, 1), allRows([]int{0, 1}, 2)...)
	for arity := -1; arity <= 3; arity++ {
		for _, first := range rows {
			for _, second := range rows {
				for _, third := range rows {
					for _, r := range []impl.Relation{relation(arity, first), relation(arity, first, second), relation(arity, first, second, third)} {
						if got := impl.IsValidRelation(r); got != plainIsValid(r) {
							t.Fatalf("IsValidRelation(%s) = %v", describe(r), got)
						}
						want, wantOk := plainRelation(arity, r.Rows)
						got, ok := impl.NewRelation(arity, r.Rows)
						checkRelation(t, "NewRelation of "+describe(r), got, ok, want, wantOk)
					}
				}
			}
		}
	}
}

func TestNewRelation(t *testing.T) {
	for _, c := range []struct {
		arity int
		rows  [][]int
		want  impl.Relation
	}{
		{0, nil, relation(0)},
		{0, [][]int{nil}, relation(0, nil)},
		{0, [][]int{{}, nil, {}}, relation(0, nil)},
		{5, nil, relation(5)},
		{1, [][]int{{10}, {9}, {99}, {0}}, relation(1, []int{0}, []int{9}, []int{10}, []int{99})},
		{2, [][]int{{2, 1}, {0, 3}, {2, 1}}, relation(2, []int{0, 3}, []int{2, 1})},
		{2, [][]int{{1, 2}, {2, 1}, {1, 1}}, relation(2, []int{1, 1}, []int{1, 2}, []int{2, 1})},
		{5, [][]int{{99, 99, 99, 99, 99}, {0, 0, 0, 0, 0}}, relation(5, []int{0, 0, 0, 0, 0}, []int{99, 99, 99, 99, 99})},
	} {
		got, ok := impl.NewRelation(c.arity, c.rows)
		checkRelation(t, fmt.Sprintf("NewRelation(%d, %v)", c.arity, c.rows), got, ok, c.want, true)
	}
	random := rand.New(rand.NewSource(1))
	for _, r := range validRelations() {
		rows := append(slices.Clone(r.Rows), r.Rows[:len(r.Rows)/2]...)
		random.Shuffle(len(rows), func(i, k int) { rows[i], rows[k] = rows[k], rows[i] })
		got, ok := impl.NewRelation(r.Arity, rows)
		checkRelation(t, "NewRelation of shuffled rows", got, ok, r, true)
	}
}

func TestNewRelationRejects(t *testing.T) {
	for _, r := range relationsOfInvalidArity() {
		got, ok := impl.NewRelation(r.Arity, r.Rows)
		checkNone(t, "NewRelation of "+describe(r), got, ok)
	}
	for arity := 0; arity <= arityLimit; arity++ {
		good := relation(arity, validRow(arity))
		for _, row := range slices.Concat(invalidRows(), [][]int{validRow(arity + 1), validRow(100)}) {
			for _, rows := range [][][]int{{row}, {good.Rows[0], row}, {row, good.Rows[0]}, {row, row}} {
				got, ok := impl.NewRelation(arity, rows)
				checkNone(t, fmt.Sprintf("NewRelation of arity %d with the row %v", arity, short(row)), got, ok)
			}
		}
		if arity > 0 {
			got, ok := impl.NewRelation(arity, [][]int{good.Rows[0], nil})
			checkNone(t, "NewRelation with an empty row", got, ok)
		}
	}
}

// TestNewRelationCountsDistinctRows passes more rows than a relation may have.
func TestNewRelationCountsDistinctRows(t *testing.T) {
	for arity := 2; arity <= arityLimit; arity++ {
		for count := rowLimit - 1; count <= rowLimit+1; count++ {
			rows := manyRows(arity, count)
			repeated := slices.Concat(rows, rows[:1], manyRows(arity, count), rows[7:9])
			for _, list := range [][][]int{rows, repeated} {
				got, ok := impl.NewRelation(arity, list)
				if count > rowLimit {
					checkNone(t, fmt.Sprintf("NewRelation of %d rows", count), got, ok)
					continue
				}
				checkRelation(t, fmt.Sprintf("NewRelation of %d rows", count), got, ok, relation(arity, rows...), true)
			}
		}
	}
	got, ok := impl.NewRelation(0, make([][]int, 2*rowLimit))
	checkRelation(t, "NewRelation of many empty rows", got, ok, relation(0, nil), true)
}

func TestContainsRow(t *testing.T) {
	for _, r := range slices.Concat(validRelations(), invalidRelations()) {
		for _, row := range rowsFor(r) {
			if got := impl.ContainsRow(r, row); got != plainContains(r, row) {
				t.Fatalf("ContainsRow(%s, %v) = %v", describe(r), short(row), got)
			}
		}
	}
	for _, r := range largeRelations() {
		for _, row := range r.Rows {
			if !impl.ContainsRow(r, row) {
				t.Fatalf("ContainsRow(%s, %v) = false", describe(r), row)
			}
		}
	}
}

func TestInsertRow(t *testing.T) {
	for _, c := range []struct {
		r    impl.Relation
		row  []int
		want impl.Relation
		ok   bool
	}{
		{relation(2, []int{0, 3}, []int{2, 1}), []int{1, 1}, relation(2, []int{0, 3}, []int{1, 1}, []int{2, 1}), true},
		{relation(2, []int{0, 3}, []int{2, 1}), []int{0, 0}, relation(2, []int{0, 0}, []int{0, 3}, []int{2, 1}), true},
		{relation(2, []int{0, 3}, []int{2, 1}), []int{2, 2}, relation(2, []int{0, 3}, []int{2, 1}, []int{2, 2}), true},
		{relation(2, []int{0, 3}, []int{2, 1}), []int{0, 3}, relation(2, []int{0, 3}, []int{2, 1}), false},
		{relation(2, []int{0, 3}, []int{2, 1}), []int{2, 1}, relation(2, []int{0, 3}, []int{2, 1}), false},
		{relation(2, []int{0, 3}), []int{0}, relation(2, []int{0, 3}), false},
		{relation(2, []int{0, 3}), []int{0, 3, 0}, relation(2, []int{0, 3}), false},
		{relation(2, []int{0, 3}), []int{100, 3}, relation(2, []int{0, 3}), false},
		{relation(2, []int{0, 3}), []int{0, -1}, relation(2, []int{0, 3}), false},
		{relation(2, []int{0, 3}), nil, relation(2, []int{0, 3}), false},
		{relation(0), nil, relation(0, nil), true},
		{relation(0), []int{}, relation(0, nil), true},
		{relation(0, nil), []int{}, relation(0, nil), false},
		{relation(5), []int{99, 0, 99, 0, 99}, relation(5, []int{99, 0, 99, 0, 99}), true},
		{relation(6), []int{1, 2, 3, 4, 5, 6}, relation(6), false},
		{relation(-1), nil, relation(-1), false},
		{relation(1, []int{2}, []int{1}), []int{3}, relation(1, []int{2}, []int{1}), false},
		{relation(1, []int{100}), []int{3}, relation(1, []int{100}), false},
	} {
		got, ok := impl.InsertRow(c.r, c.row)
		checkRelation(t, fmt.Sprintf("InsertRow(%s, %v)", describe(c.r), c.row), got, ok, c.want, c.ok)
	}
}

// TestInsertedRowIsContained inserts rows of all kinds and deletes them again.
func TestInsertedRowIsContained(t *testing.T) {
	for _, r := range slices.Concat(validRelations(), invalidRelations()) {
		for _, row := range rowsFor(r) {
			call := fmt.Sprintf("InsertRow(%s, %v)", describe(r), short(row))
			want, wantOk := plainInsert(r, row)
			inserted, ok := impl.InsertRow(r, row)
			checkRelation(t, call, inserted, ok, want, wantOk)
			if !ok {
				continue
			}
			if !impl.ContainsRow(inserted, row) || !impl.IsValidRelation(inserted) || len(inserted.Rows) != len(r.Rows)+1 {
				t.Fatalf("%s does not contain the row", call)
			}
			twice, ok := impl.InsertRow(inserted, row)
			checkRelation(t, call+" again", twice, ok, inserted, false)
			restored, ok := impl.DeleteRow(inserted, row)
			checkRelation(t, "DeleteRow after "+call, restored, ok, r, true)
		}
	}
}

// TestInsertRowUntilFull inserts a row below the limit of rows, at it and above
// it.
func TestInsertRowUntilFull(t *testing.T) {
	for arity := 2; arity <= arityLimit; arity++ {
		all := manyRows(arity, rowLimit+1)
		for _, i := range []int{0, 1, rowLimit / 2, rowLimit - 1, rowLimit} {
			rest := slices.Delete(slices.Clone(all), i, i+1)
			full := relation(arity, rest...)
			got, ok := impl.InsertRow(full, all[i])
			checkRelation(t, "InsertRow into a full relation", got, ok, full, false)
			got, ok = impl.InsertRow(relation(arity, rest[1:]...), rest[0])
			checkRelation(t, "InsertRow of the last possible row", got, ok, full, true)
		}
		tooMany := relation(arity, all...)
		got, ok := impl.InsertRow(tooMany, validRow(arity))
		checkRelation(t, "InsertRow into too many rows", got, ok, tooMany, false)
	}
}

func TestDeleteRow(t *testing.T) {
	for _, r := range slices.Concat(validRelations(), invalidRelations()) {
		for _, row := range rowsFor(r) {
			call := fmt.Sprintf("DeleteRow(%s, %v)", describe(r), short(row))
			want, wantOk := r, plainContains(r, row)
			if wantOk {
				want = relation(r.Arity, without(r.Rows, [][]int{row})...)
			}
			deleted, ok := impl.DeleteRow(r, row)
			checkRelation(t, call, deleted, ok, want, wantOk)
			if !ok {
				continue
			}
			if impl.ContainsRow(deleted, row) {
				t.Fatalf("%s contains the row", call)
			}
			twice, ok := impl.DeleteRow(deleted, row)
			checkRelation(t, call+" again", twice, ok, deleted, false)
			restored, ok := impl.InsertRow(deleted, row)
			checkRelation(t, "InsertRow after "+call, restored, ok, r, true)
		}
	}
}

// TestRelationsByInsertion builds relations row by row in a random order, and
// takes them apart again.
func TestRelationsByInsertion(t *testing.T) {
	random := rand.New(rand.NewSource(5))
	for arity := range arityLimit + 1 {
		rows := [][]int{{}}
		if arity > 0 {
			rows = rowsOfLength([]int{0, 7, 10, valueLimit}, arity)
			random.Shuffle(len(rows), func(i, k int) { rows[i], rows[k] = rows[k], rows[i] })
			rows = rows[:min(len(rows), 100)]
		}
		r := relation(arity)
		for i, row := range rows {
			longer, ok := impl.InsertRow(r, row)
			want, _ := plainRelation(arity, rows[:i+1])
			checkRelation(t, "InsertRow", longer, ok, want, true)
			r = longer
		}
		for i, row := range rows {
			shorter, ok := impl.DeleteRow(r, row)
			want, _ := plainRelation(arity, rows[i+1:])
			checkRelation(t, "DeleteRow", shorter, ok, want, true)
			r = shorter
		}
	}
}

// checkUnionAndDifference compares both with the test's own results.
func checkUnionAndDifference(t *testing.T, a, b impl.Relation) {
	t.Helper()
	pair := fmt.Sprintf("(%s, %s)", describe(a), describe(b))
	areSuitable := plainIsValid(a) && plainIsValid(b) && a.Arity == b.Arity
	union, unionOk := impl.Union(a, b)
	difference, differenceOk := impl.Difference(a, b)
	if !areSuitable {
		checkNone(t, "Union"+pair, union, unionOk)
		checkNone(t, "Difference"+pair, difference, differenceOk)
		return
	}
	want, wantOk := plainRelation(a.Arity, slices.Concat(a.Rows, b.Rows))
	checkRelation(t, "Union"+pair, union, unionOk, want, wantOk)
	want = relation(a.Arity, without(a.Rows, b.Rows)...)
	checkRelation(t, "Difference"+pair, difference, differenceOk, want, true)
}

func TestUnionAndDifference(t *testing.T) {
	x := relation(2, []int{0, 3}, []int{1, 1}, []int{2, 1})
	y := relation(2, []int{0, 2}, []int{1, 1}, []int{9, 9})
	got, ok := impl.Union(x, y)
	checkRelation(t, "Union", got, ok, relation(2, []int{0, 2}, []int{0, 3}, []int{1, 1}, []int{2, 1}, []int{9, 9}), true)
	got, ok = impl.Difference(x, y)
	checkRelation(t, "Difference", got, ok, relation(2, []int{0, 3}, []int{2, 1}), true)
	for _, a := range slices.Concat(smallRelations(), relationsOfInvalidArity(), smallInvalidRelations()) {
		for _, b := range slices.Concat(smallRelations(), relationsOfInvalidArity(), smallInvalidRelations()) {
			checkUnionAndDifference(t, a, b)
		}
	}
	for _, a := range append(largeRelations(), largeInvalidRelations()...) {
		for _, b := range []impl.Relation{a, relation(a.Arity), relation(a.Arity + 1), relation(a.Arity, a.Rows[:100]...), relation(a.Arity, nil)} {
			checkUnionAndDifference(t, a, b)
			checkUnionAndDifference(t, b, a)
		}
	}
}

// TestLargeUnions have as many rows as allowed, or one more.
func TestLargeUnions(t *testing.T) {
	for arity := 2; arity <= arityLimit; arity++ {
		rows := manyRows(arity, rowLimit+1)
		var even, odd [][]int
		for i, row := range rows {
			if i%2 == 0 {
				even = append(even, row)
			} else {
				odd = append(odd, row)
			}
		}
		for _, c := range []struct {
			a, b [][]int
		}{
			{even, odd},
			{even[1:], odd},
			{rows[:rowLimit], rows[rowLimit:]},
			{rows[1:], rows[:1]},
			{rows[:rowLimit], rows[1:]},
			{rows[1:rowLimit], rows[2:]},
			{rows[:rowLimit], rows[:rowLimit]},
		} {
			checkUnionAndDifference(t, relation(arity, c.a...), relation(arity, c.b...))
			checkUnionAndDifference(t, relation(arity, c.b...), relation(arity, c.a...))
		}
	}
}

func checkProject(t *testing.T, r impl.Relation, columns []int) {
	t.Helper()
	call := fmt.Sprintf("Project(%s, %v)", describe(r), columns)
	got, ok := impl.Project(r, columns)
	suitable := plainIsValid(r) && len(columns) <= arityLimit
	for _, column := range columns {
		suitable = suitable && 0 <= column && column < r.Arity
	}
	if !suitable {
		checkNone(t, call, got, ok)
		return
	}
	var rows [][]int
	for _, row := range r.Rows {
		var values []int
		for _, column := range columns {
			values = append(values, row[column])
		}
		rows = append(rows, values)
	}
	want, wantOk := plainRelation(len(columns), rows)
	checkRelation(t, call, got, ok, want, wantOk)
}

func TestProject(t *testing.T) {
	r := relation(3, []int{0, 2, 9}, []int{1, 0, 9}, []int{1, 2, 8})
	for _, c := range []struct {
		columns []int
		want    impl.Relation
		ok      bool
	}{
		{nil, relation(0, nil), true},
		{[]int{0}, relation(1, []int{0}, []int{1}), true},
		{[]int{1}, relation(1, []int{0}, []int{2}), true},
		{[]int{2, 0}, relation(2, []int{8, 1}, []int{9, 0}, []int{9, 1}), true},
		{[]int{1, 1}, relation(2, []int{0, 0}, []int{2, 2}), true},
		{[]int{2, 1, 0}, relation(3, []int{8, 2, 1}, []int{9, 0, 1}, []int{9, 2, 0}), true},
		{[]int{0, 0, 0, 0, 1}, relation(5, []int{0, 0, 0, 0, 2}, []int{1, 1, 1, 1, 0}, []int{1, 1, 1, 1, 2}), true},
		{[]int{0, 0, 0, 0, 0, 1}, relation(0), false},
		{[]int{3}, relation(0), false},
		{[]int{-1}, relation(0), false},
		{[]int{0, math.MaxInt}, relation(0), false},
		{[]int{math.MinInt, 0}, relation(0), false},
	} {
		got, ok := impl.Project(r, c.columns)
		checkRelation(t, fmt.Sprintf("Project to %v", c.columns), got, ok, c.want, c.ok)
	}
}

func TestProjectToAllColumns(t *testing.T) {
	for _, r := range slices.Concat(smallRelations(), relationsOfInvalidArity(), smallInvalidRelations()) {
		for _, columns := range allRows([]int{-1, 0, 1, 2, 4, 5}, 3) {
			checkProject(t, r, columns)
		}
	}
	lists := [][]int{
		nil, {0}, {1}, {0, 0}, {1, 0}, {0, 1}, {2, 1, 0}, {4, 3, 2, 1, 0}, {0, 1, 2, 3, 4}, {0, 1, 0, 1, 0}, {0, 0, 0, 0, 0},
		{0, 0, 0, 0, 0, 0}, {0, 1, 2, 3, 4, 0}, {0, 1, 2, 3, 4, 5}, {5}, {-1}, {0, 0, 0, 0, 5}, {0, 0, 0, 0, -1}, {1 << 32}, {-1 << 32},
		{math.MaxInt}, {math.MinInt}, slices.Repeat([]int{0}, 4000), slices.Repeat([]int{-1}, 4000),
	}
	for _, r := range append(validRelations(), largeInvalidRelations()...) {
		for _, columns := range lists {
			checkProject(t, r, columns)
		}
	}
}

func TestEqualRelations(t *testing.T) {
	all := slices.Concat(smallRelations(), relationsOfInvalidArity(), smallInvalidRelations())
	for _, a := range all {
		for _, b := range all {
			if got := impl.EqualRelations(a, b); got != sameRelations(a, b) {
				t.Fatalf("EqualRelations(%s, %s) = %v", describe(a), describe(b), got)
			}
		}
	}
	for _, a := range append(largeRelations(), largeInvalidRelations()...) {
		for _, i := range []int{0, 50, len(a.Rows) - 1} {
			changed, shorter := cloneOf(a), cloneOf(a)
			changed.Rows[i] = append(changed.Rows[i], 3)
			shorter.Rows = slices.Delete(shorter.Rows, i, i+1)
			if !impl.EqualRelations(a, cloneOf(a)) || impl.EqualRelations(a, changed) || impl.EqualRelations(shorter, a) {
				t.Errorf("EqualRelations of %s that differ at row %d", describe(a), i)
			}
		}
	}
	if !impl.EqualRelations(impl.Relation{Rows: [][]int{nil}}, impl.Relation{Rows: [][]int{{}}}) || !impl.EqualRelations(impl.Relation{}, impl.Relation{Rows: [][]int{}}) {
		t.Error("nil and empty slices are not equal")
	}
}

// plainFormatRelation is the test's own format of a valid relation.
func plainFormatRelation(r impl.Relation) string {
	text := strings.NewReplacer("[", "(", "]", ")", " ", ",").Replace
	var rows []string
	for _, row := range r.Rows {
		rows = append(rows, text(fmt.Sprint(row)))
	}
	return fmt.Sprintf("%d:%s", r.Arity, strings.Join(rows, " "))
}

func TestFormatRelation(t *testing.T) {
	for _, c := range []struct {
		r    impl.Relation
		want string
	}{
		{relation(2, []int{0, 1}, []int{0, 2}), "2:(0,1) (0,2)"},
		{relation(0), "0:"},
		{impl.Relation{}, "0:"},
		{relation(0, nil), "0:()"},
		{relation(3), "3:"},
		{relation(5), "5:"},
		{relation(1, []int{9}, []int{10}, []int{99}), "1:(9) (10) (99)"},
		{relation(5, []int{99, 0, 10, 9, 1}), "5:(99,0,10,9,1)"},
		{relation(6), ""},
		{relation(-1), ""},
		{relation(0, nil, nil), ""},
		{relation(1, []int{2}, []int{1}), ""},
		{relation(1, []int{1}, []int{1}), ""},
		{relation(1, []int{100}), ""},
		{relation(1, []int{-1}), ""},
		{relation(1, []int{1, 2}), ""},
		{relation(1, nil), ""},
	} {
		if got := impl.FormatRelation(c.r); got != c.want {
			t.Errorf("FormatRelation(%s) = %q, want %q", describe(c.r), got, c.want)
		}
	}
	for _, r := range validRelations() {
		if got := impl.FormatRelation(r); got != plainFormatRelation(r) {
			t.Errorf("FormatRelation(%s) = %.60q", describe(r), got)
		}
	}
	for _, r := range invalidRelations() {
		if got := impl.FormatRelation(r); got != "" {
			t.Errorf("FormatRelation(%s) = %.60q", describe(r), got)
		}
	}
}

var relationFormat = regexp.MustCompile(`^([0-5]):(\([0-9,]*\)( \([0-9,]*\))*)?$`)
var valueFormat = regexp.MustCompile(`^([0-9]|[1-9][0-9])$`)

// plainParse is the test's own parser of relations.
func plainParse(s string) (impl.Relation, bool) {
	if !relationFormat.MatchString(s) || strings.Contains(s, "\n") {
		return impl.Relation{}, false
	}
	r := relation(int(s[0] - '0'))
	for _, text := range strings.Fields(s[2:]) {
		var row []int
		for _, value := range strings.Split(text[1:len(text)-1], ",") {
			if !valueFormat.MatchString(value) && text != "()" {
				return impl.Relation{}, false
			}
			if text != "()" {
				v, _ := strconv.Atoi(value)
				row = append(row, v)
			}
		}
		r.Rows = append(r.Rows, row)
	}
	if !plainIsValid(r) {
		return impl.Relation{}, false
	}
	return r, true
}

func checkParseRelation(t *testing.T, s string) {
	t.Helper()
	want, wantOk := plainParse(s)
	got, ok := impl.ParseRelation(s)
	if !sameRelations(got, want) || ok != wantOk {
		t.Fatalf("ParseRelation(%.60q) = %s, %v", s, describe(got), ok)
	}
	if ok && impl.FormatRelation(got) != s {
		t.Fatalf("%.60q is parsed, but is not the format of %s", s, describe(got))
	}
}

func TestParseRelation(t *testing.T) {
	for _, r := range validRelations() {
		got, ok := impl.ParseRelation(plainFormatRelation(r))
		checkRelation(t, "ParseRelation of the format of "+describe(r), got, ok, r, true)
	}
	got, ok := impl.ParseRelation("2:(0,1) (0,2)")
	checkRelation(t, "ParseRelation", got, ok, relation(2, []int{0, 1}, []int{0, 2}), true)
	for _, s := range []string{
		"", ":", "0", "5", "2:()", "1:(1)(2)", "1:(2) (1)", "1:(1) (1)", "1:(01)", "1:(1) ", "1: (1)", " 1:(1)", "1:(1)\n", "1 :(1)",
		"2:(1)", "1:(1,2)", "2:(1,)", "2:(,1)", "2:(1,,2)", "2:(1, 2)", "2:(1;2)", "2:(1 2)", "1:( 1)", "1:(1 )", "1:(1)  (2)", "1:(1)\t(2)", "1:(1),(2)",
		"6:", "6:(1,2,3,4,5,6)", "-1:", "-0:", "+1:", "01:(1)", "00:", "0:() ()", "0:(0)", "0:( )", "0:(,)", "1:()", "1:[1]", "1:1", "1:(1", "1:1)", "1:((1))", "1:(1))",
		"1:(-1)", "1:(-0)", "1:(+1)", "1:(100)", "1:(099)", "1:(256)", "1:(4294967296)", "1:(18446744073709551616)", "1:(1.0)", "1:(1e1)", "1:(0x1)", "1:(a)", "1:(١)",
		"1:(1):", "1::(1)", "1:(1)\x00", "\xff", "1:(\xff)", "4294967297:(1)", "1000000000:", "99999999999999999999:", "0:\n", "1:\n(1)",
	} {
		got, ok := impl.ParseRelation(s)
		checkNone(t, fmt.Sprintf("ParseRelation(%q)", s), got, ok)
		checkParseRelation(t, s)
	}
}

func TestParseRelationAcceptsNothingElse(t *testing.T) {
	for _, s := range allStrings(allBytes(), 2) {
		checkParseRelation(t, s)
	}
	for _, s := range allStrings("01:(), -", 6) {
		checkParseRelation(t, s)
	}
	for _, prefix := range []string{"0:", "1:(1", "1:(1)", "2:(0,", "2:(0,0)", "5:(1,2,3,4,"} {
		for _, s := range allStrings("0129(), ", 5) {
			checkParseRelation(t, prefix+s)
		}
	}
}

// changesOf returns the string with each byte changed, removed or inserted at
// each place, and cut off there.
func changesOf(s string) []string {
	var changes []string
	for i := range len(s) + 1 {
		for k := range 256 {
			changes = append(changes, s[:i]+string([]byte{byte(k)})+s[i:])
			if i < len(s) {
				changes = append(changes, s[:i]+string([]byte{byte(k)})+s[i+1:])
			}
		}
		changes = append(changes, s[:i], s[i:])
		if i < len(s) {
			changes = append(changes, s[:i]+s[i+1:])
		}
	}
	return changes
}

func TestParseRelationWithOneChange(t *testing.T) {
	for _, r := range smallRelations() {
		for _, changed := range changesOf(plainFormatRelation(r)) {
			checkParseRelation(t, changed)
		}
	}
}

func TestParseLongTexts(t *testing.T) {
	for arity := 2; arity <= arityLimit; arity++ {
		full := plainFormatRelation(relation(arity, manyRows(arity, rowLimit)...))
		swapped := manyRows(arity, rowLimit)
		swapped[rowLimit-2], swapped[rowLimit-1] = swapped[rowLimit-1], swapped[rowLimit-2]
		for _, s := range []string{
			full, full + " ", full + "x", full[:len(full)-1], full[1:], strings.Replace(full, "(", "((", 1), full + " " + full,
			plainFormatRelation(relation(arity, manyRows(arity, rowLimit-1)...)),
			plainFormatRelation(relation(arity, manyRows(arity, rowLimit+1)...)),
			plainFormatRelation(relation(arity, swapped...)),
		} {
			checkParseRelation(t, s)
		}
	}
	for _, part := range []string{" ", ",", ":", "(", ")", "() ", "(1) ", "1,", "1"} {
		for _, prefix := range []string{"", "0:", "1:", "1:(", "1:(1) "} {
			checkParseRelation(t, prefix+strings.Repeat(part, 100000))
			checkParseRelation(t, prefix+strings.Repeat(part, 100000)+")")
		}
	}
}

// guardedRelation returns the relation with its rows in the middle of one array
// and with unused capacity everywhere, and a function that reports whether all
// of this memory is as it was.
func guardedRelation(r impl.Relation) (impl.Relation, func() bool) {
	guard := []int{7, 7, 7}
	array := slices.Clone(guard)
	for _, row := range r.Rows {
		array = append(append(array, row...), guard...)
	}
	outer := [][]int{guard}
	offset := len(guard)
	for _, row := range r.Rows {
		outer = append(outer, array[offset:offset+len(row)])
		offset += len(row) + len(guard)
	}
	outer = append(outer, guard, guard, guard)
	savedArray, saved := slices.Clone(array), cloneOf(relation(0, outer...))
	isAsBefore := func() bool {
		return slices.Equal(array, savedArray) && sameRelations(relation(0, outer...), saved)
	}
	return impl.Relation{Arity: r.Arity, Rows: outer[1 : len(r.Rows)+1]}, isAsBefore
}

// overwriteRows writes to all of the rows and of the list of rows, to their
// unused capacity too.
func overwriteRows(r impl.Relation) {
	all := r.Rows[:cap(r.Rows)]
	for i := range all {
		overwriteInts(all[i])
		all[i] = []int{77}
	}
}

// rowsShareMemory writes another number to all of each row and looks for the
// numbers of the others.
func rowsShareMemory(r impl.Relation) bool {
	for i, row := range r.Rows {
		for k := range row[:cap(row)] {
			row[:cap(row)][k] = i
		}
	}
	for i, row := range r.Rows {
		for _, v := range row[:cap(row)] {
			if v != i {
				return true
			}
		}
	}
	return false
}

type relationCall struct {
	name string
	call func(a, b impl.Relation, row, columns []int) (impl.Relation, bool)
}

func relationCalls() []relationCall {
	return []relationCall{
		{"NewRelation", func(a, b impl.Relation, row, columns []int) (impl.Relation, bool) {
			return impl.NewRelation(a.Arity, a.Rows)
		}},
		{"InsertRow", func(a, b impl.Relation, row, columns []int) (impl.Relation, bool) {
			return impl.InsertRow(a, row)
		}},
		{"DeleteRow", func(a, b impl.Relation, row, columns []int) (impl.Relation, bool) {
			return impl.DeleteRow(a, row)
		}},
		{"Union", func(a, b impl.Relation, row, columns []int) (impl.Relation, bool) {
			return impl.Union(a, b)
		}},
		{"Difference", func(a, b impl.Relation, row, columns []int) (impl.Relation, bool) {
			return impl.Difference(a, b)
		}},
		{"Project", func(a, b impl.Relation, row, columns []int) (impl.Relation, bool) {
			return impl.Project(a, columns)
		}},
		{"ParseRelation", func(a, b impl.Relation, row, columns []int) (impl.Relation, bool) {
			return impl.ParseRelation(impl.FormatRelation(a))
		}},
	}
}

// memoryProblem overwrites the result of a call and looks for the change in the
// results of other calls and in the arguments.
func memoryProblem(call func() (impl.Relation, bool), areArgumentsAsBefore func() bool) string {
	result, ok := call()
	want := cloneOf(result)
	again, againOk := call()
	overwriteRows(result)
	// The next call might restore the values that were overwritten.
	kept := cloneOf(again)
	later, laterOk := call()
	switch {
	case !sameRelations(kept, want) || !sameRelations(later, want) || againOk != ok || laterOk != ok:
		return "the result changes with the previous one"
	case rowsShareMemory(again):
		return "rows of the result share memory"
	case !areArgumentsAsBefore():
		return "the call or a write to its result modifies an argument"
	}
	return ""
}

// checkMemory calls each function with guarded arguments.
func checkMemory(t *testing.T, first, second impl.Relation, values, list []int) {
	t.Helper()
	a, isAAsBefore := guardedRelation(first)
	b, isBAsBefore := guardedRelation(second)
	row, rowArray := guardedInts(values)
	columns, columnArray := guardedInts(list)
	savedRow, savedColumns := slices.Clone(rowArray), slices.Clone(columnArray)
	areAsBefore := func() bool {
		return isAAsBefore() && isBAsBefore() && slices.Equal(rowArray, savedRow) && slices.Equal(columnArray, savedColumns)
	}
	impl.IsValidRelation(a)
	impl.ContainsRow(a, row)
	impl.EqualRelations(a, b)
	for _, c := range relationCalls() {
		call := func() (impl.Relation, bool) { return c.call(a, b, row, columns) }
		if problem := memoryProblem(call, areAsBefore); problem != "" {
			t.Fatalf("%s(%s, %s, %v, %v): %s", c.name, describe(first), describe(second), values, list, problem)
		}
	}
}

func TestRelationMemory(t *testing.T) {
	for _, a := range slices.Concat(smallRelations(), relationsOfInvalidArity(), smallInvalidRelations()) {
		rows := [][]int{nil, validRow(max(min(a.Arity, 6), 0)), {100}}
		rows = append(rows, cloneOf(a).Rows...)
		for _, row := range rows {
			for _, columns := range [][]int{nil, {0}, {1, 0}, {0, 0, 0}, {-1}} {
				checkMemory(t, a, relation(a.Arity, row), row, columns)
			}
		}
	}
	for _, a := range append(largeRelations(), largeInvalidRelations()...) {
		checkMemory(t, a, relation(a.Arity, a.Rows[20:40]...), a.Rows[30], []int{0, 0})
		checkMemory(t, relation(a.Arity, a.Rows[:100]...), a, make([]int, a.Arity), []int{0})
	}
}

// TestRelationRowsMayOverlap passes parts of one array as rows, and one row
// several times.
func TestRelationRowsMayOverlap(t *testing.T) {
	array := []int{9, 3, 4, 3, 4, 8}
	saved := slices.Clone(array)
	overlapping := relation(2, array[1:3], array[2:4], array[4:6], array[4:6])
	a := impl.Relation{Arity: 2, Rows: overlapping.Rows[:2]}
	for _, c := range relationCalls() {
		for _, r := range []impl.Relation{a, overlapping} {
			want, wantOk := c.call(cloneOf(r), cloneOf(a), []int{4, 8}, []int{1, 0})
			got, ok := c.call(r, a, array[4:6], []int{1, 0})
			checkRelation(t, c.name+" of overlapping rows", got, ok, want, wantOk)
			if rowsShareMemory(got) || !slices.Equal(array, saved) || len(overlapping.Rows[3]) != 2 {
				t.Errorf("the result of %s shares memory", c.name)
			}
		}
	}
	got, ok := impl.NewRelation(2, overlapping.Rows)
	checkRelation(t, "NewRelation of overlapping rows", got, ok, relation(2, []int{3, 4}, []int{4, 3}, []int{4, 8}), true)
}
