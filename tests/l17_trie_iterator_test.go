package tests

import (
	"fmt"
	"math"
	"math/rand"
	"slices"
	"strconv"
	"strings"
	"testing"

	"loop.example/g01917/impl"
)

// The conversion compiles only if a TrieIterator has no other fields.
var _ = impl.TrieIterator(struct {
	Trie     impl.Trie
	Low      []int
	High     []int
	Position []int
}{})

func iteratorOf(r impl.Relation, low, high, position []int) impl.TrieIterator {
	return impl.TrieIterator{Trie: trieOf(r), Low: low, High: high, Position: position}
}

func describeIterator(x impl.TrieIterator) string {
	return fmt.Sprintf("%s with %v %v %v", describe(relationOf(x.Trie)), short(x.Low), short(x.High), short(x.Position))
}

// sameIterators is the test's own comparison of any iterators.
func sameIterators(a, b impl.TrieIterator) bool {
	return sameRelations(relationOf(a.Trie), relationOf(b.Trie)) && plainOrder(a.Low, b.Low) == 0 &&
		plainOrder(a.High, b.High) == 0 && plainOrder(a.Position, b.Position) == 0
}

func checkIterator(t *testing.T, call string, got impl.TrieIterator, ok bool, want impl.TrieIterator, wantOk bool) {
	t.Helper()
	if !sameIterators(got, want) || ok != wantOk {
		t.Fatalf("%s = %s, %v, want %s, %v", call, describeIterator(got), ok, describeIterator(want), wantOk)
	}
}

// iteratorState is the test's own form of a valid iterator: the keys of its
// levels, and whether there is another level that is at its end.
type iteratorState struct {
	r       impl.Relation
	keys    []int
	isAtEnd bool
}

// iterator looks for the rows of each level one by one.
func (s iteratorState) iterator() impl.TrieIterator {
	x := iteratorOf(s.r, nil, nil, nil)
	for level := range s.keys {
		low, high := plainPrefixRange(x.Trie, s.keys[:level])
		position, _ := plainPrefixRange(x.Trie, s.keys[:level+1])
		x.Low, x.High, x.Position = append(x.Low, low), append(x.High, high), append(x.Position, position)
	}
	if s.isAtEnd {
		low, high := plainPrefixRange(x.Trie, s.keys)
		x.Low, x.High, x.Position = append(x.Low, low), append(x.High, high), append(x.Position, high)
	}
	return x
}

func (s iteratorState) hasKey() bool {
	return !s.isAtEnd && len(s.keys) > 0
}

// withKeyFrom moves to the first of the keys below the prefix that is accepted.
func (s iteratorState) withKeyFrom(prefix []int, isAccepted func(key int) bool) iteratorState {
	for _, key := range plainTrieChildren(trieOf(s.r), prefix) {
		if isAccepted(key) {
			return iteratorState{r: s.r, keys: append(slices.Clone(prefix), key)}
		}
	}
	return iteratorState{r: s.r, keys: prefix, isAtEnd: true}
}

func (s iteratorState) opened() (iteratorState, bool) {
	if s.isAtEnd || len(s.keys) == s.r.Arity {
		return s, false
	}
	return s.withKeyFrom(s.keys, func(key int) bool { return true }), true
}

func (s iteratorState) closed() (iteratorState, bool) {
	if s.isAtEnd {
		return iteratorState{r: s.r, keys: s.keys}, true
	}
	if len(s.keys) == 0 {
		return s, false
	}
	return iteratorState{r: s.r, keys: s.keys[:len(s.keys)-1]}, true
}

func (s iteratorState) next() (iteratorState, bool) {
	if !s.hasKey() {
		return s, false
	}
	last := len(s.keys) - 1
	return s.withKeyFrom(s.keys[:last], func(key int) bool { return key > s.keys[last] }), true
}

func (s iteratorState) sought(value int) (iteratorState, bool) {
	if !s.hasKey() {
		return s, false
	}
	last := len(s.keys) - 1
	return s.withKeyFrom(s.keys[:last], func(key int) bool { return key >= s.keys[last] && key >= value }), true
}

// statesOf returns all valid iterators of a relation.
func statesOf(r impl.Relation) []iteratorState {
	return statesOfRows(r, r.Rows)
}

// statesOfRows returns the iterators whose keys are values of these rows.
func statesOfRows(r impl.Relation, rows [][]int) []iteratorState {
	prefixes := [][]int{nil}
	for _, row := range rows {
		for length := 1; length <= len(row); length++ {
			prefixes = append(prefixes, row[:length])
		}
	}
	slices.SortFunc(prefixes, plainOrder)
	var states []iteratorState
	for _, prefix := range slices.CompactFunc(prefixes, slices.Equal) {
		states = append(states, iteratorState{r: r, keys: prefix})
		if len(prefix) < r.Arity {
			states = append(states, iteratorState{r: r, keys: prefix, isAtEnd: true})
		}
	}
	return states
}

// someStatesOf returns all valid iterators of a small relation, and some of
// those of a large one.
func someStatesOf(r impl.Relation) []iteratorState {
	if len(r.Rows) <= 20 {
		return statesOf(r)
	}
	rows := slices.Clone(r.Rows[len(r.Rows)-2:])
	for i := 0; i < len(r.Rows); i += 1 + len(r.Rows)/4 {
		rows = append(rows, r.Rows[i])
	}
	return statesOfRows(r, rows)
}

// plainIsValidIterator compares each level with all rows.
func plainIsValidIterator(x impl.TrieIterator) bool {
	r, levels := relationOf(x.Trie), len(x.Position)
	if !plainIsValid(r) || len(x.Low) != levels || len(x.High) != levels || levels > r.Arity {
		return false
	}
	var keys []int
	for level, position := range x.Position {
		low, high := plainPrefixRange(x.Trie, keys)
		if x.Low[level] != low || x.High[level] != high || position < low || position > high {
			return false
		}
		if position == high {
			return level == levels-1
		}
		keys = append(keys, r.Rows[position][level])
		if first, _ := plainPrefixRange(x.Trie, keys); position != first {
			return false
		}
	}
	return true
}

// checkRead compares the functions that only read an iterator with its state.
func checkRead(t *testing.T, x impl.TrieIterator, s iteratorState) {
	t.Helper()
	if !impl.IsValidIterator(x) {
		t.Fatalf("%s is valid", describeIterator(x))
	}
	if got := impl.AtEnd(x); got != s.isAtEnd {
		t.Fatalf("AtEnd(%s) = %v", describeIterator(x), got)
	}
	wantKey := 0
	if s.hasKey() {
		wantKey = s.keys[len(s.keys)-1]
	}
	if key, ok := impl.CurrentKey(x); key != wantKey || ok != s.hasKey() {
		t.Fatalf("CurrentKey(%s) = %d, %v, want %d, %v", describeIterator(x), key, ok, wantKey, s.hasKey())
	}
	if got := impl.IteratorPath(x); plainOrder(got, s.keys) != 0 {
		t.Fatalf("IteratorPath(%s) = %v, want %v", describeIterator(x), got, s.keys)
	}
}

// checkMoves compares the functions that move an iterator with those that move
// its state.
func checkMoves(t *testing.T, x impl.TrieIterator, s iteratorState, values []int) {
	t.Helper()
	for _, c := range []struct {
		name string
		call func(x impl.TrieIterator) (impl.TrieIterator, bool)
		want func() (iteratorState, bool)
	}{
		{"OpenIterator", impl.OpenIterator, s.opened},
		{"CloseLevel", impl.CloseLevel, s.closed},
		{"NextKey", impl.NextKey, s.next},
	} {
		got, ok := c.call(x)
		want, wantOk := c.want()
		checkIterator(t, c.name+" of "+describeIterator(x), got, ok, want.iterator(), wantOk)
	}
	for _, v := range values {
		got, ok := impl.SeekKey(x, v)
		want, wantOk := s.sought(v)
		checkIterator(t, fmt.Sprintf("SeekKey(%s, %d)", describeIterator(x), v), got, ok, want.iterator(), wantOk)
	}
}

// checkState checks every function of a valid iterator.
func checkState(t *testing.T, s iteratorState, values []int) {
	t.Helper()
	x := s.iterator()
	checkRead(t, x, s)
	checkMoves(t, x, s, values)
}

// checkInvalidIterator expects that nothing is read or moved.
func checkInvalidIterator(t *testing.T, x impl.TrieIterator) {
	t.Helper()
	if plainIsValidIterator(x) || impl.IsValidIterator(x) {
		t.Fatalf("%s is invalid", describeIterator(x))
	}
	key, hasKey := impl.CurrentKey(x)
	if path := impl.IteratorPath(x); key != 0 || hasKey || impl.AtEnd(x) || len(path) != 0 {
		t.Fatalf("%s has the key %d, %v, the end %v and the path %v", describeIterator(x), key, hasKey, impl.AtEnd(x), path)
	}
	for _, c := range iteratorCalls() {
		got, ok := c.call(x, 1)
		checkIterator(t, c.name+" of "+describeIterator(x), got, ok, x, false)
	}
}

// checkAnyIterator compares an iterator, valid or not, with the test's own check.
func checkAnyIterator(t *testing.T, x impl.TrieIterator) bool {
	t.Helper()
	if !plainIsValidIterator(x) {
		checkInvalidIterator(t, x)
		return false
	}
	if !impl.IsValidIterator(x) {
		t.Fatalf("%s is valid", describeIterator(x))
	}
	return true
}

type iteratorCall struct {
	name string
	call func(x impl.TrieIterator, value int) (impl.TrieIterator, bool)
}

// iteratorCalls returns each function that moves an iterator.
func iteratorCalls() []iteratorCall {
	return []iteratorCall{
		{"OpenIterator", func(x impl.TrieIterator, value int) (impl.TrieIterator, bool) { return impl.OpenIterator(x) }},
		{"CloseLevel", func(x impl.TrieIterator, value int) (impl.TrieIterator, bool) { return impl.CloseLevel(x) }},
		{"NextKey", func(x impl.TrieIterator, value int) (impl.TrieIterator, bool) { return impl.NextKey(x) }},
		{"SeekKey", func(x impl.TrieIterator, value int) (impl.TrieIterator, bool) { return impl.SeekKey(x, value) }},
	}
}

// stepped performs steps such as "open next seek:5 close", which must all
// succeed.
func stepped(t *testing.T, trie, steps string) impl.TrieIterator {
	t.Helper()
	x, ok := impl.NewIterator(trieOf(parsedRelation(t, trie)))
	for _, step := range strings.Fields(steps) {
		before := x
		name, argument, _ := strings.Cut(step, ":")
		value, _ := strconv.Atoi(argument)
		for _, c := range iteratorCalls() {
			if strings.HasPrefix(strings.ToLower(c.name), name) && ok {
				x, ok = c.call(before, value)
			}
		}
		if !ok {
			t.Fatalf("%s of %s fails for %s", step, steps, describeIterator(before))
		}
	}
	return x
}

// steppedCases lists a trie, steps from its new iterator on, and the iterator
// then.
var steppedCases = []struct {
	trie, steps         string
	low, high, position []int
	path                []int
	isAtEnd             bool
}{
	{"2:(0,5) (1,3) (1,5) (4,0)", "", nil, nil, nil, nil, false},
	{"2:(0,5) (1,3) (1,5) (4,0)", "open", []int{0}, []int{4}, []int{0}, []int{0}, false},
	{"2:(0,5) (1,3) (1,5) (4,0)", "open close", nil, nil, nil, nil, false},
	{"2:(0,5) (1,3) (1,5) (4,0)", "open next", []int{0}, []int{4}, []int{1}, []int{1}, false},
	{"2:(0,5) (1,3) (1,5) (4,0)", "open next next", []int{0}, []int{4}, []int{3}, []int{4}, false},
	{"2:(0,5) (1,3) (1,5) (4,0)", "open next next next", []int{0}, []int{4}, []int{4}, nil, true},
	{"2:(0,5) (1,3) (1,5) (4,0)", "open next next next close", nil, nil, nil, nil, false},
	{"2:(0,5) (1,3) (1,5) (4,0)", "open next next next close open", []int{0}, []int{4}, []int{0}, []int{0}, false},
	{"2:(0,5) (1,3) (1,5) (4,0)", "open seek:1", []int{0}, []int{4}, []int{1}, []int{1}, false},
	{"2:(0,5) (1,3) (1,5) (4,0)", "open seek:2", []int{0}, []int{4}, []int{3}, []int{4}, false},
	{"2:(0,5) (1,3) (1,5) (4,0)", "open seek:4", []int{0}, []int{4}, []int{3}, []int{4}, false},
	{"2:(0,5) (1,3) (1,5) (4,0)", "open seek:5", []int{0}, []int{4}, []int{4}, nil, true},
	{"2:(0,5) (1,3) (1,5) (4,0)", "open seek:4 seek:1", []int{0}, []int{4}, []int{3}, []int{4}, false},
	{"2:(0,5) (1,3) (1,5) (4,0)", "open seek:1 seek:0", []int{0}, []int{4}, []int{1}, []int{1}, false},
	{"2:(0,5) (1,3) (1,5) (4,0)", "open seek:-1", []int{0}, []int{4}, []int{0}, []int{0}, false},
	{"2:(0,5) (1,3) (1,5) (4,0)", "open open", []int{0, 0}, []int{4, 1}, []int{0, 0}, []int{0, 5}, false},
	{"2:(0,5) (1,3) (1,5) (4,0)", "open open next", []int{0, 0}, []int{4, 1}, []int{0, 1}, []int{0}, true},
	{"2:(0,5) (1,3) (1,5) (4,0)", "open open next close next", []int{0}, []int{4}, []int{1}, []int{1}, false},
	{"2:(0,5) (1,3) (1,5) (4,0)", "open seek:1 open", []int{0, 1}, []int{4, 3}, []int{1, 1}, []int{1, 3}, false},
	{"2:(0,5) (1,3) (1,5) (4,0)", "open seek:1 open next", []int{0, 1}, []int{4, 3}, []int{1, 2}, []int{1, 5}, false},
	{"2:(0,5) (1,3) (1,5) (4,0)", "open seek:1 open seek:4", []int{0, 1}, []int{4, 3}, []int{1, 2}, []int{1, 5}, false},
	{"2:(0,5) (1,3) (1,5) (4,0)", "open seek:1 open seek:6", []int{0, 1}, []int{4, 3}, []int{1, 3}, []int{1}, true},
	{"2:(0,5) (1,3) (1,5) (4,0)", "open seek:1 open next next", []int{0, 1}, []int{4, 3}, []int{1, 3}, []int{1}, true},
	{"2:(0,5) (1,3) (1,5) (4,0)", "open seek:4 open", []int{0, 3}, []int{4, 4}, []int{3, 3}, []int{4, 0}, false},
	{"2:(0,5) (1,3) (1,5) (4,0)", "open seek:4 open next", []int{0, 3}, []int{4, 4}, []int{3, 4}, []int{4}, true},
	{"2:(0,5) (1,3) (1,5) (4,0)", "open seek:4 open next close next", []int{0}, []int{4}, []int{4}, nil, true},
	{"2:", "open", []int{0}, []int{0}, []int{0}, nil, true},
	{"2:", "open close", nil, nil, nil, nil, false},
	{"1:", "open", []int{0}, []int{0}, []int{0}, nil, true},
	{"1:(0)", "open", []int{0}, []int{1}, []int{0}, []int{0}, false},
	{"1:(0)", "open next", []int{0}, []int{1}, []int{1}, nil, true},
	{"1:(0)", "open seek:1", []int{0}, []int{1}, []int{1}, nil, true},
	{"1:(0) (99)", "open seek:99", []int{0}, []int{2}, []int{1}, []int{99}, false},
	{"1:(0) (99)", "open next next", []int{0}, []int{2}, []int{2}, nil, true},
	{"1:(0) (99)", "open seek:100", []int{0}, []int{2}, []int{2}, nil, true},
	{"0:", "", nil, nil, nil, nil, false},
	{"0:()", "", nil, nil, nil, nil, false},
	{"3:(0,1,2) (0,2,1) (1,0,0) (1,0,9)", "open open next open", []int{0, 0, 1}, []int{4, 2, 2}, []int{0, 1, 1}, []int{0, 2, 1}, false},
	{"3:(0,1,2) (0,2,1) (1,0,0) (1,0,9)", "open open next open next", []int{0, 0, 1}, []int{4, 2, 2}, []int{0, 1, 2}, []int{0, 2}, true},
	{"3:(0,1,2) (0,2,1) (1,0,0) (1,0,9)", "open next open open next", []int{0, 2, 2}, []int{4, 4, 4}, []int{2, 2, 3}, []int{1, 0, 9}, false},
	{"3:(0,1,2) (0,2,1) (1,0,0) (1,0,9)", "open next open next", []int{0, 2}, []int{4, 4}, []int{2, 4}, []int{1}, true},
	{"3:(0,1,2) (0,2,1) (1,0,0) (1,0,9)", "open open open close close next", []int{0}, []int{4}, []int{2}, []int{1}, false},
	{"5:(0,0,0,0,0) (0,0,0,0,99) (0,0,0,1,0)", "open open open open open", []int{0, 0, 0, 0, 0}, []int{3, 3, 3, 3, 2}, []int{0, 0, 0, 0, 0}, []int{0, 0, 0, 0, 0}, false},
	{"5:(0,0,0,0,0) (0,0,0,0,99) (0,0,0,1,0)", "open open open open next open", []int{0, 0, 0, 0, 2}, []int{3, 3, 3, 3, 3}, []int{0, 0, 0, 2, 2}, []int{0, 0, 0, 1, 0}, false},
	{"5:(0,0,0,0,0) (0,0,0,0,99) (0,0,0,1,0)", "open open open open open seek:1", []int{0, 0, 0, 0, 0}, []int{3, 3, 3, 3, 2}, []int{0, 0, 0, 0, 1}, []int{0, 0, 0, 0, 99}, false},
}

func TestIteratorSteps(t *testing.T) {
	for _, c := range steppedCases {
		x := stepped(t, c.trie, c.steps)
		want := iteratorOf(parsedRelation(t, c.trie), c.low, c.high, c.position)
		checkIterator(t, fmt.Sprintf("the iterator of %s after %q", c.trie, c.steps), x, true, want, true)
		checkRead(t, x, iteratorState{r: relationOf(x.Trie), keys: c.path, isAtEnd: c.isAtEnd})
	}
}

func TestNewIterator(t *testing.T) {
	for _, r := range validRelations() {
		x, ok := impl.NewIterator(trieOf(r))
		checkIterator(t, "NewIterator of "+describe(r), x, ok, iteratorOf(r, nil, nil, nil), true)
		checkRead(t, x, iteratorState{r: r})
	}
	for _, r := range invalidRelations() {
		x, ok := impl.NewIterator(trieOf(r))
		checkIterator(t, "NewIterator of "+describe(r), x, ok, impl.TrieIterator{}, false)
	}
}

// TestNewIteratorDoesNotMove has an iterator without levels, which is neither at
// a key nor at its end.
func TestNewIteratorDoesNotMove(t *testing.T) {
	for _, r := range validRelations() {
		x := iteratorOf(r, nil, nil, nil)
		for _, c := range iteratorCalls()[1:] {
			got, ok := c.call(x, 0)
			checkIterator(t, c.name+" of "+describeIterator(x), got, ok, x, false)
		}
		opened, ok := impl.OpenIterator(x)
		if ok != (r.Arity > 0) || len(opened.Position) != min(r.Arity, 1) || impl.AtEnd(opened) != (r.Arity > 0 && len(r.Rows) == 0) {
			t.Errorf("OpenIterator of %s = %s, %v", describeIterator(x), describeIterator(opened), ok)
		}
	}
}

func TestIsValidIterator(t *testing.T) {
	const trie = "2:(0,5) (1,3) (1,5) (4,0)"
	for _, c := range []struct {
		trie                string
		low, high, position []int
		want                bool
	}{
		{trie, nil, nil, nil, true},
		{trie, []int{}, nil, []int{}, true},
		{trie, []int{0}, []int{4}, []int{0}, true},
		{trie, []int{0}, []int{4}, []int{1}, true},
		{trie, []int{0}, []int{4}, []int{2}, false},
		{trie, []int{0}, []int{4}, []int{3}, true},
		{trie, []int{0}, []int{4}, []int{4}, true},
		{trie, []int{0}, []int{4}, []int{5}, false},
		{trie, []int{0}, []int{4}, []int{-1}, false},
		{trie, []int{1}, []int{4}, []int{1}, false},
		{trie, []int{-1}, []int{4}, []int{0}, false},
		{trie, []int{0}, []int{3}, []int{1}, false},
		{trie, []int{0}, []int{3}, []int{3}, false},
		{trie, []int{0}, []int{5}, []int{5}, false},
		{trie, []int{0, 1}, []int{4, 3}, []int{1, 1}, true},
		{trie, []int{0, 1}, []int{4, 3}, []int{1, 2}, true},
		{trie, []int{0, 1}, []int{4, 3}, []int{1, 3}, true},
		{trie, []int{0, 1}, []int{4, 3}, []int{1, 0}, false},
		{trie, []int{0, 1}, []int{4, 3}, []int{1, 4}, false},
		{trie, []int{0, 1}, []int{4, 3}, []int{2, 2}, false},
		{trie, []int{0, 2}, []int{4, 3}, []int{2, 2}, false},
		{trie, []int{0, 1}, []int{4, 4}, []int{1, 1}, false},
		{trie, []int{0, 1}, []int{4, 2}, []int{1, 1}, false},
		{trie, []int{0, 0}, []int{4, 3}, []int{1, 1}, false},
		{trie, []int{0, 1}, []int{4, 3}, []int{0, 1}, false},
		{trie, []int{0, 0}, []int{4, 4}, []int{0, 0}, false},
		{trie, []int{0, 4}, []int{4, 4}, []int{4, 4}, false},
		{trie, []int{0, 1, 1}, []int{4, 3, 2}, []int{1, 1, 1}, false},
		{trie, []int{0}, []int{4}, nil, false},
		{trie, []int{0}, nil, []int{0}, false},
		{trie, nil, []int{4}, []int{0}, false},
		{trie, []int{0, 1}, []int{4, 3}, []int{1}, false},
		{trie, []int{0}, []int{4, 3}, []int{1, 1}, false},
		{trie, []int{0, 1}, []int{4}, []int{1, 1}, false},
		{trie, []int{math.MinInt}, []int{4}, []int{0}, false},
		{trie, []int{0}, []int{math.MaxInt}, []int{0}, false},
		{trie, []int{0}, []int{4}, []int{math.MinInt}, false},
		{trie, []int{0}, []int{4}, []int{math.MaxInt}, false},
		{trie, []int{0}, []int{4}, []int{1<<32 + 1}, false},
		{"2:", []int{0}, []int{0}, []int{0}, true},
		{"2:", []int{0}, []int{0}, []int{1}, false},
		{"2:", []int{0}, []int{1}, []int{0}, false},
		{"2:", []int{0, 0}, []int{0, 0}, []int{0, 0}, false},
		{"0:", nil, nil, nil, true},
		{"0:", []int{0}, []int{0}, []int{0}, false},
		{"0:()", nil, nil, nil, true},
		{"0:()", []int{0}, []int{1}, []int{0}, false},
		{"0:()", []int{0}, []int{1}, []int{1}, false},
		{"3:(7,0,1) (7,1,0) (8,1,0)", []int{0, 0}, []int{3, 2}, []int{0, 1}, true},
		{"3:(7,0,1) (7,1,0) (8,1,0)", []int{0, 0, 1}, []int{3, 2, 2}, []int{0, 1, 1}, true},
		{"3:(7,0,1) (7,1,0) (8,1,0)", []int{0, 0, 1}, []int{3, 2, 3}, []int{0, 1, 1}, false},
		{"3:(7,0,1) (7,1,0) (8,1,0)", []int{0, 2}, []int{3, 3}, []int{2, 2}, true},
		{"3:(7,0,1) (7,1,0) (8,1,0)", []int{0, 0, 2}, []int{3, 2, 2}, []int{0, 2, 2}, false},
		{"5:(0,1,2,3,4)", []int{0, 0, 0, 0, 0}, []int{1, 1, 1, 1, 1}, []int{0, 0, 0, 0, 1}, true},
		{"5:(0,1,2,3,4)", []int{0, 0, 0, 0, 0}, []int{1, 1, 1, 1, 1}, []int{0, 0, 0, 1, 1}, false},
		{"5:(0,1,2,3,4)", []int{0, 0, 0, 0, 0, 0}, []int{1, 1, 1, 1, 1, 1}, []int{0, 0, 0, 0, 0, 0}, false},
		{"5:(0,1,2,3,4)", []int{0, 0, 0, 0, 0, 1}, []int{1, 1, 1, 1, 1, 1}, []int{0, 0, 0, 0, 1, 1}, false},
	} {
		x := iteratorOf(parsedRelation(t, c.trie), c.low, c.high, c.position)
		if got := impl.IsValidIterator(x); got != c.want {
			t.Errorf("IsValidIterator(%s) = %v", describeIterator(x), got)
		}
		if checkAnyIterator(t, x) != c.want {
			t.Errorf("the test's own check of %s is wrong", describeIterator(x))
		}
	}
}

// valuesForSeek contains all values of rows and others.
func valuesForSeek() []int {
	return append(allValues(), -1, -2, valueLimit+1, valueLimit+2, math.MinInt, math.MaxInt, -1<<32, 1<<32)
}

func TestAllStatesOfSmallTries(t *testing.T) {
	values := []int{-1, 0, 1, 2, 49, 50, 51, 98, valueLimit, valueLimit + 1, math.MinInt, math.MaxInt}
	for _, r := range slices.Concat(smallRelations(), subsets(2, rowsOfLength([]int{0, 1, 50}, 2)), subsets(3, rowsOfLength([]int{0, 2}, 3))) {
		for _, s := range statesOf(r) {
			checkState(t, s, values)
		}
	}
	for _, r := range smallRelations() {
		for _, s := range statesOf(r) {
			checkState(t, s, valuesForSeek())
		}
	}
}

func TestStatesOfLargeTries(t *testing.T) {
	for _, r := range largeRelations() {
		for i, s := range someStatesOf(r) {
			values := []int{0, valueLimit, valueLimit + 1, math.MinInt, math.MaxInt}
			if s.hasKey() {
				key := s.keys[len(s.keys)-1]
				values = append(values, key-1, key, key+1, key+7)
			}
			checkState(t, s, values[i%3:])
		}
	}
}

// formatNumbers formats the lists of an iterator.
func formatNumbers(x impl.TrieIterator) string {
	return fmt.Sprint(x.Low, x.High, x.Position)
}

// TestIteratorsOfAllNumbers takes all lists of up to two numbers for tries of
// one and two columns. The valid iterators are exactly those of the states.
func TestIteratorsOfAllNumbers(t *testing.T) {
	for _, r := range append(subsets(1, [][]int{{0}, {7}, {8}}), subsets(2, rowsOfLength([]int{0, 7}, 2))...) {
		expected := map[string]bool{}
		for _, s := range statesOf(r) {
			expected[formatNumbers(s.iterator())] = true
		}
		numbers := []int{-1, 0, 1, 2, 3, 4, 5}[:len(r.Rows)+3]
		for levels := range 3 {
			lists := rowsOfLength(numbers, levels)
			for _, low := range lists {
				for _, high := range lists {
					for _, position := range lists {
						x := iteratorOf(r, low, high, position)
						got := impl.IsValidIterator(x)
						if got != plainIsValidIterator(x) || got && !expected[formatNumbers(x)] {
							t.Fatalf("IsValidIterator(%s) = %v", describeIterator(x), got)
						}
						if got {
							delete(expected, formatNumbers(x))
						}
					}
				}
			}
		}
		if len(expected) > 0 {
			t.Fatalf("the trie %s has no iterators %v", describe(r), expected)
		}
	}
}

// changedNumbers returns the iterators in which one number is another one.
func changedNumbers(x impl.TrieIterator) []impl.TrieIterator {
	var all []impl.TrieIterator
	changes := func(list []int, use func(changed []int) impl.TrieIterator) {
		for i, v := range list {
			for _, other := range []int{v - 2, v - 1, v + 1, v + 2, 0, len(x.Trie.Rows), -1, len(x.Trie.Rows) + 1, math.MinInt, math.MaxInt, v + 1<<32} {
				changed := slices.Clone(list)
				changed[i] = other
				all = append(all, use(changed))
			}
		}
	}
	changes(x.Low, func(low []int) impl.TrieIterator {
		return impl.TrieIterator{Trie: x.Trie, Low: low, High: x.High, Position: x.Position}
	})
	changes(x.High, func(high []int) impl.TrieIterator {
		return impl.TrieIterator{Trie: x.Trie, Low: x.Low, High: high, Position: x.Position}
	})
	changes(x.Position, func(position []int) impl.TrieIterator {
		return impl.TrieIterator{Trie: x.Trie, Low: x.Low, High: x.High, Position: position}
	})
	return all
}

// changedLengths returns the iterators in which lists have another length.
func changedLengths(x impl.TrieIterator) []impl.TrieIterator {
	lengths := func(list []int) [][]int {
		longer := [][]int{list, append(slices.Clone(list), 0), append(slices.Clone(list), len(x.Trie.Rows)), make([]int, 50)}
		if len(list) == 0 {
			return longer
		}
		return append(longer, list[1:], list[:len(list)-1], append(slices.Clone(list), list[len(list)-1]), nil)
	}
	var all []impl.TrieIterator
	for _, low := range lengths(x.Low) {
		for _, high := range lengths(x.High) {
			for _, position := range lengths(x.Position) {
				all = append(all, impl.TrieIterator{Trie: x.Trie, Low: low, High: high, Position: position})
			}
		}
	}
	return all
}

func TestIteratorsWithOneChange(t *testing.T) {
	isValid := map[bool]int{}
	for _, r := range slices.Concat(smallRelations(), subsets(3, rowsOfLength([]int{0, 2}, 3)[1:6]), []impl.Relation{relation(5, rowsOfLength([]int{3, 9}, 5)[:20]...)}) {
		for i, s := range statesOf(r) {
			x := s.iterator()
			for _, changed := range changedNumbers(x) {
				isValid[checkAnyIterator(t, changed)]++
			}
			if i%5 == 0 {
				for _, changed := range changedLengths(x) {
					isValid[checkAnyIterator(t, changed)]++
				}
			}
		}
	}
	if isValid[true] < 1000 || isValid[false] < 10000 {
		t.Errorf("%v changes are valid or not", isValid)
	}
}

func TestLargeIteratorsWithOneChange(t *testing.T) {
	for _, r := range largeRelations() {
		if len(r.Rows) == rowLimit-1 {
			continue
		}
		states := someStatesOf(r)
		for _, s := range states[:min(len(states), 8)] {
			for i, changed := range changedNumbers(s.iterator()) {
				if i%5 == len(s.keys)%5 {
					checkAnyIterator(t, changed)
				}
			}
		}
	}
}

// TestIteratorsWithTooManyLevels has as many levels as columns, and one more.
func TestIteratorsWithTooManyLevels(t *testing.T) {
	for arity := range arityLimit + 1 {
		r := relation(arity, validRow(arity))
		for levels := range arity + 4 {
			low, high := make([]int, levels), slices.Repeat([]int{1}, levels)
			if checkAnyIterator(t, iteratorOf(r, low, high, low)) != (levels <= arity) {
				t.Errorf("an iterator of %d columns with %d levels", arity, levels)
			}
			if levels > 0 {
				position := append(slices.Clone(low[1:]), 1)
				if checkAnyIterator(t, iteratorOf(r, low, high, position)) != (levels <= arity) {
					t.Errorf("an iterator of %d columns at the end of level %d", arity, levels)
				}
			}
		}
		x := iteratorState{r: r, keys: r.Rows[0]}.iterator()
		got, ok := impl.OpenIterator(x)
		checkIterator(t, "OpenIterator with all levels", got, ok, x, false)
		long := make([]int, 100000)
		checkInvalidIterator(t, iteratorOf(r, long, long, long))
		checkInvalidIterator(t, iteratorOf(r, nil, nil, long))
		checkInvalidIterator(t, iteratorOf(r, long, long, nil))
	}
}

func TestIteratorsOfInvalidTries(t *testing.T) {
	for _, r := range invalidRelations() {
		checkInvalidIterator(t, iteratorOf(r, nil, nil, nil))
		checkInvalidIterator(t, iteratorOf(r, []int{0}, []int{len(r.Rows)}, []int{0}))
		checkInvalidIterator(t, iteratorOf(r, []int{0}, []int{len(r.Rows)}, []int{len(r.Rows)}))
		if len(r.Rows) < 20 {
			for levels := range arityLimit + 2 {
				low, high := make([]int, levels), slices.Repeat([]int{1}, levels)
				checkInvalidIterator(t, iteratorOf(r, low, high, low))
			}
		}
	}
}

// TestIteratorEnd moves each level to its end and expects that nothing but
// CloseLevel moves it from there.
func TestIteratorEnd(t *testing.T) {
	for _, r := range validRelations() {
		for _, s := range someStatesOf(r) {
			if !s.hasKey() {
				continue
			}
			level := len(s.keys) - 1
			x, ok := impl.SeekKey(s.iterator(), valueLimit+1)
			if !ok || !impl.AtEnd(x) || x.Position[level] != x.High[level] || plainOrder(impl.IteratorPath(x), s.keys[:level]) != 0 {
				t.Fatalf("SeekKey to the end of %s = %s, %v", describeIterator(s.iterator()), describeIterator(x), ok)
			}
			if key, ok := impl.CurrentKey(x); key != 0 || ok {
				t.Fatalf("CurrentKey(%s) = %d, %v", describeIterator(x), key, ok)
			}
			for _, c := range iteratorCalls() {
				got, ok := c.call(x, 0)
				if c.name == "CloseLevel" {
					checkIterator(t, "CloseLevel at the end", got, ok, iteratorState{r: r, keys: s.keys[:level]}.iterator(), true)
				} else {
					checkIterator(t, c.name+" at the end", got, ok, x, false)
				}
			}
		}
	}
}

// walkIterator returns the rows below the current key in the order in which the
// iterator visits them, and checks the keys of the new level.
func walkIterator(t *testing.T, x impl.TrieIterator) [][]int {
	t.Helper()
	path := impl.IteratorPath(x)
	if len(path) == x.Trie.Arity {
		return [][]int{path}
	}
	below, ok := impl.OpenIterator(x)
	var rows [][]int
	var keys []int
	for ok && !impl.AtEnd(below) {
		key, hasKey := impl.CurrentKey(below)
		if !hasKey {
			t.Fatalf("%s has no key", describeIterator(below))
		}
		keys = append(keys, key)
		rows = append(rows, walkIterator(t, below)...)
		below, ok = impl.NextKey(below)
	}
	if children := impl.TrieChildren(x.Trie, path); !ok || plainOrder(keys, children) != 0 {
		t.Fatalf("the keys below %s are %v, want %v", describeIterator(x), keys, children)
	}
	closed, ok := impl.CloseLevel(below)
	checkIterator(t, "CloseLevel after all keys", closed, ok, x, true)
	return rows
}

// TestIteratorsVisitAllKeys finds all rows of a trie in order.
func TestIteratorsVisitAllKeys(t *testing.T) {
	for _, r := range append(validRelations(), relation(3, rowsOfLength([]int{0, 1, 5, 98, 99}, 3)...)) {
		if len(r.Rows) > 300 && r.Arity != 2 || len(r.Rows) == rowLimit-1 {
			continue
		}
		x, _ := impl.NewIterator(trieOf(r))
		var rows [][]int
		if r.Arity > 0 || len(r.Rows) > 0 {
			rows = walkIterator(t, x)
		}
		if !sameRelations(relation(r.Arity, rows...), r) {
			t.Fatalf("the iterator of %s visits %d rows", describe(r), len(rows))
		}
	}
}

// TestIteratorsVisitPermutedTries finds the rows of each trie of a relation.
func TestIteratorsVisitPermutedTries(t *testing.T) {
	r := parsedRelation(t, "3:(0,1,2) (0,2,1) (0,2,9) (1,0,0) (1,0,9) (9,2,2)")
	for _, columns := range permutationsOf(3) {
		built, _ := impl.BuildTrie(r, columns)
		x, ok := impl.NewIterator(built)
		restored, restoredOk := impl.TrieToRelation(trieOf(relation(3, walkIterator(t, x)...)), columns)
		checkRelation(t, fmt.Sprintf("the rows that the iterator visits with %v", columns), restored, ok && restoredOk, r, true)
	}
}

// TestSeekIsRepeatedNext compares a seek with as many steps as it skips keys.
func TestSeekIsRepeatedNext(t *testing.T) {
	for _, r := range append(smallRelations(), relation(2, rowsOfLength([]int{0, 1, 5, 98, 99}, 2)...)) {
		for _, s := range statesOf(r) {
			if !s.hasKey() {
				continue
			}
			for _, v := range []int{-1, 0, 1, 2, 5, 6, 50, 97, 98, 99, 100} {
				want := s.iterator()
				for key, ok := impl.CurrentKey(want); ok && key < v; key, ok = impl.CurrentKey(want) {
					want, _ = impl.NextKey(want)
				}
				got, ok := impl.SeekKey(s.iterator(), v)
				checkIterator(t, fmt.Sprintf("SeekKey(%s, %d)", describeIterator(s.iterator()), v), got, ok, want, true)
			}
		}
	}
}

// randomTrie has few values, so that rows share their first values.
func randomTrie(random *rand.Rand, arity int) impl.Relation {
	values := []int{0, 1, 2, 3, 50, 98, 99}[:1+random.Intn(7)]
	var rows [][]int
	for range random.Intn(50) {
		row := make([]int, arity)
		for k := range row {
			row[k] = values[random.Intn(len(values))]
		}
		rows = append(rows, row)
	}
	r, _ := plainRelation(arity, rows)
	return r
}

// TestRandomWalks passes each iterator to the next step.
func TestRandomWalks(t *testing.T) {
	random := rand.New(rand.NewSource(171))
	for i := range 600 {
		s := iteratorState{r: randomTrie(random, i%(arityLimit+1))}
		x, _ := impl.NewIterator(trieOf(s.r))
		for range 80 {
			before, ok, wantOk := x, false, false
			value := []int{-1, 0, 1, 2, 3, 4, 50, 51, 98, 99, 100}[random.Intn(11)]
			switch random.Intn(8) {
			case 0, 1, 2:
				x, ok = impl.OpenIterator(before)
				s, wantOk = s.opened()
			case 3:
				x, ok = impl.CloseLevel(before)
				s, wantOk = s.closed()
			case 4, 5:
				x, ok = impl.NextKey(before)
				s, wantOk = s.next()
			default:
				x, ok = impl.SeekKey(before, value)
				s, wantOk = s.sought(value)
			}
			checkIterator(t, "a step from "+describeIterator(before), x, ok, s.iterator(), wantOk)
			checkRead(t, x, s)
		}
	}
}

// sampleIterators contains valid iterators and invalid ones.
func sampleIterators() []impl.TrieIterator {
	all := []impl.TrieIterator{{}, {Low: []int{0}}, {High: []int{0}}, {Position: []int{0}}, {Low: []int{0}, High: []int{0}, Position: []int{0}}}
	relations := append(subsets(2, rowsOfLength([]int{0, 1}, 2)[:3]), relation(1), relation(1, []int{0}), relation(0), relation(0, nil), relation(3, []int{0, 1, 2}))
	for _, r := range relations {
		for _, s := range statesOf(r) {
			x := s.iterator()
			all = append(all, x)
			for i, changed := range append(changedNumbers(x), changedLengths(x)...) {
				if i%17 == 0 {
					all = append(all, changed)
				}
			}
		}
	}
	for _, r := range append(relationsOfInvalidArity()[:12], smallInvalidRelations()[:20]...) {
		all = append(all, iteratorOf(r, nil, nil, nil), iteratorOf(r, []int{0}, []int{len(r.Rows)}, []int{0}))
	}
	return all
}

func cloneOfIterator(x impl.TrieIterator) impl.TrieIterator {
	return iteratorOf(cloneOf(relationOf(x.Trie)), slices.Clone(x.Low), slices.Clone(x.High), slices.Clone(x.Position))
}

func TestEqualIterators(t *testing.T) {
	all := sampleIterators()
	for _, a := range all {
		for _, b := range all {
			if got := impl.EqualIterators(a, b); got != sameIterators(a, b) {
				t.Fatalf("EqualIterators(%s, %s) = %v", describeIterator(a), describeIterator(b), got)
			}
		}
		if !impl.EqualIterators(a, cloneOfIterator(a)) {
			t.Fatalf("EqualIterators(%s and its clone) = false", describeIterator(a))
		}
	}
	empty := impl.TrieIterator{Trie: impl.Trie{Rows: [][]int{}}, Low: []int{}, High: []int{}, Position: []int{}}
	if !impl.EqualIterators(empty, impl.TrieIterator{}) || !impl.EqualIterators(impl.TrieIterator{}, empty) {
		t.Error("nil and empty slices are not equal")
	}
}

// TestEqualIteratorsWithOneDifference changes one part of any iterator.
func TestEqualIteratorsWithOneDifference(t *testing.T) {
	for _, a := range append(sampleIterators(), iteratorState{r: relation(3, manyRows(3, rowLimit)...), isAtEnd: true}.iterator()) {
		others := []impl.TrieIterator{}
		change := func(use func(b *impl.TrieIterator)) {
			b := cloneOfIterator(a)
			use(&b)
			others = append(others, b)
		}
		change(func(b *impl.TrieIterator) { b.Trie.Arity++ })
		change(func(b *impl.TrieIterator) { b.Trie.Rows = append(b.Trie.Rows, nil) })
		change(func(b *impl.TrieIterator) { b.Low = append(b.Low, 0) })
		change(func(b *impl.TrieIterator) { b.High = append(b.High, 0) })
		change(func(b *impl.TrieIterator) { b.Position = append(b.Position, 0) })
		for i := range a.Low[:min(len(a.Low), 6)] {
			change(func(b *impl.TrieIterator) { b.Low[i]-- })
			change(func(b *impl.TrieIterator) { b.Low[i] += 1 << 32 })
		}
		for i := range a.High[:min(len(a.High), 6)] {
			change(func(b *impl.TrieIterator) { b.High[i]++ })
		}
		for i := range a.Position[:min(len(a.Position), 6)] {
			change(func(b *impl.TrieIterator) { b.Position[i]++ })
		}
		if count := len(a.Trie.Rows); count > 0 {
			change(func(b *impl.TrieIterator) { b.Trie.Rows = b.Trie.Rows[:count-1] })
			change(func(b *impl.TrieIterator) { b.Trie.Rows[count-1] = append(b.Trie.Rows[count-1], 3) })
		}
		for _, b := range others {
			if impl.EqualIterators(a, b) || impl.EqualIterators(b, a) {
				t.Fatalf("EqualIterators(%s, %s) = true", describeIterator(a), describeIterator(b))
			}
		}
	}
}

// iteratorAsTables has all slices of an iterator.
func iteratorAsTables(x impl.TrieIterator) impl.Database {
	return database(table("t", relationOf(x.Trie)), table("n", relation(0, x.Low, x.High, x.Position)))
}

// checkIteratorMemory calls each function with arguments in memory that is
// checked by the given function.
func checkIteratorMemory(t *testing.T, x impl.TrieIterator, value int, isAsBefore func() bool) {
	t.Helper()
	description := describeIterator(x)
	impl.IsValidIterator(x)
	impl.AtEnd(x)
	impl.CurrentKey(x)
	impl.EqualIterators(x, x)
	if !isAsBefore() {
		t.Fatalf("IsValidIterator, AtEnd, CurrentKey or EqualIterators modifies %s", description)
	}
	calls := append(iteratorCalls(), iteratorCall{"NewIterator", func(x impl.TrieIterator, value int) (impl.TrieIterator, bool) {
		return impl.NewIterator(x.Trie)
	}}, iteratorCall{"IteratorPath", func(x impl.TrieIterator, value int) (impl.TrieIterator, bool) {
		return impl.TrieIterator{Position: impl.IteratorPath(x)}, true
	}})
	for _, c := range calls {
		call := func() (impl.Database, bool) {
			result, ok := c.call(x, value)
			return iteratorAsTables(result), ok
		}
		if problem := databaseMemoryProblem(call, isAsBefore); problem != "" {
			t.Fatalf("%s of %s and %d: %s", c.name, description, value, problem)
		}
	}
}

// guardedIterator returns the iterator in guarded memory, and a function that
// reports whether this memory is as it was.
func guardedIterator(x impl.TrieIterator) (impl.TrieIterator, func() bool) {
	r, isTrieAsBefore := guardedRelation(relationOf(x.Trie))
	lists, areListsAsBefore := guardedRelation(relation(0, x.Low, x.High, x.Position))
	guarded := iteratorOf(r, lists.Rows[0], lists.Rows[1], lists.Rows[2])
	return guarded, func() bool { return isTrieAsBefore() && areListsAsBefore() }
}

func TestIteratorMemory(t *testing.T) {
	all := sampleIterators()
	for _, c := range steppedCases {
		all = append(all, stepped(t, c.trie, c.steps))
	}
	for _, r := range slices.Concat(smallRelations(), largeRelations()) {
		states := someStatesOf(r)
		for i := 0; i < len(states); i += 1 + len(states)/8 {
			all = append(all, states[i].iterator())
		}
	}
	for _, r := range largeInvalidRelations() {
		all = append(all, iteratorOf(r, []int{0}, []int{len(r.Rows)}, []int{0}))
	}
	for i, x := range all {
		guarded, isAsBefore := guardedIterator(x)
		checkIteratorMemory(t, guarded, []int{0, 1, 50, 99, 100, -1}[i%6], isAsBefore)
	}
}

// TestIteratorListsMayOverlap passes the same list as several parts, and lists
// that follow each other in one array.
func TestIteratorListsMayOverlap(t *testing.T) {
	r := parsedRelation(t, "3:(0,0,1) (0,0,2) (0,4,0) (5,0,0)")
	zeros, highs := make([]int, 3, 8), []int{4, 3, 2}
	for levels := range 4 {
		x := iteratorOf(r, zeros[:levels], highs[:levels], zeros[:levels])
		checkState(t, iteratorState{r: r, keys: []int{0, 0, 1}[:levels]}, []int{0, 1, 2, 3})
		checkMoves(t, x, iteratorState{r: r, keys: []int{0, 0, 1}[:levels]}, []int{0, 1, 2, 3, 4, 5, 6})
		saved := cloneOfIterator(iteratorOf(r, zeros[:8], highs, zeros[:8]))
		checkIteratorMemory(t, x, 1, func() bool { return sameIterators(iteratorOf(r, zeros[:8], highs, zeros[:8]), saved) })
	}
	for _, s := range statesOf(r) {
		x := s.iterator()
		array := slices.Concat(x.Low, x.High, x.Position, []int{7, 7, 7})
		saved, levels := slices.Clone(array), len(x.Position)
		joined := iteratorOf(r, array[:levels], array[levels:2*levels], array[2*levels:3*levels])
		checkMoves(t, joined, s, []int{0, 1, 2, 3, 4, 5, 6})
		checkIteratorMemory(t, joined, 1, func() bool { return slices.Equal(array, saved) })
	}
	row := []int{0, 0}
	x := iteratorOf(relation(2, row), row, []int{1, 1}, row)
	checkMoves(t, x, iteratorState{r: relation(2, []int{0, 0}), keys: []int{0, 0}}, []int{0, 1})
	checkIteratorMemory(t, x, 1, func() bool { return slices.Equal(row, []int{0, 0}) })
}
