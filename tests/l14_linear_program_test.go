package tests

import (
	"fmt"
	"math/big"
	"math/bits"
	"math/rand"
	"slices"
	"strings"
	"testing"

	"loop.example/g01917/impl"
)

const programLimit = 5

// The two directions of a program: the products are at least or at most B.
const (
	atLeast = 1
	atMost  = -1
)

// parsedProgram parses A, B and C, separated by " | ".
func parsedProgram(t *testing.T, s string) impl.LinearProgram {
	t.Helper()
	parts := strings.Split(s, " | ")
	if len(parts) != 3 {
		t.Fatalf("%q is no program", s)
	}
	return impl.LinearProgram{A: parsedMatrix(t, parts[0]), B: parsedRationals(t, parts[1]), C: parsedRationals(t, parts[2])}
}

func describeProgram(p impl.LinearProgram) string {
	return fmt.Sprintf("A %s, B %s, C %s", describeMatrix(p.A), describeRationals(p.B), describeRationals(p.C))
}

// samePrograms is the test's own comparison of any programs.
func samePrograms(a, b impl.LinearProgram) bool {
	return sameMatrices(a.A, b.A) && sameRationals(a.B, b.B) && sameRationals(a.C, b.C)
}

func cloneOfProgram(p impl.LinearProgram) impl.LinearProgram {
	return impl.LinearProgram{A: cloneOfMatrix(p.A), B: slices.Clone(p.B), C: slices.Clone(p.C)}
}

// randomProgram uses randomNumbers.
func randomProgram(random *rand.Rand, rows, columns, limit, large int) impl.LinearProgram {
	return impl.LinearProgram{
		A: randomMatrix(random, rows, columns, limit, large),
		B: randomNumbers(random, rows, limit, large),
		C: randomNumbers(random, columns, limit, large),
	}
}

// withAbsolute replaces some of the negative numbers, so that more programs have
// an optimum.
func withAbsolute(random *rand.Rand, p impl.LinearProgram) impl.LinearProgram {
	for _, list := range append(slices.Clone(p.A), p.B, p.C) {
		if random.Intn(3) > 0 {
			for i := range list {
				list[i].Num = max(list[i].Num, -list[i].Num)
			}
		}
	}
	return p
}

// plainIsProgram is the test's own result of IsValidLinearProgram.
func plainIsProgram(p impl.LinearProgram) bool {
	rows, columns := len(p.B), len(p.C)
	if rows < 1 || rows > programLimit || columns < 1 || columns > programLimit || len(p.A) != rows {
		return false
	}
	for _, list := range append([][]impl.Rational{p.B, p.C}, p.A...) {
		if _, ok := exactValues(list); !ok {
			return false
		}
	}
	return !slices.ContainsFunc(p.A, func(row []impl.Rational) bool { return len(row) != columns })
}

// plainIsFeasible is the test's own result of IsFeasibleMin and IsFeasibleMax.
func plainIsFeasible(p impl.LinearProgram, point []impl.Rational, side int) bool {
	x, ok := exactValues(point)
	if !ok || !plainIsProgram(p) || len(point) != len(p.C) {
		return false
	}
	for _, element := range x {
		if element.Sign() < 0 {
			return false
		}
	}
	for i, row := range p.A {
		product, ok := plainDot(row, point)
		if !ok || exactValue(product).Cmp(exactValue(p.B[i]))*side < 0 {
			return false
		}
	}
	return true
}

// plainChoices returns the choices of that many of the numbers below size. In
// lexicographic order the masks descend, with the number 0 as the highest bit.
func plainChoices(size, count int) [][]int {
	var all [][]int
	for mask := 1<<size - 1; mask >= 0; mask-- {
		if bits.OnesCount(uint(mask)) != count {
			continue
		}
		var choice []int
		for number := range size {
			if mask>>(size-1-number)&1 == 1 {
				choice = append(choice, number)
			}
		}
		all = append(all, choice)
	}
	return all
}

// plainConstraints returns all numbered constraints as equations.
func plainConstraints(p impl.LinearProgram) ([][]impl.Rational, []impl.Rational) {
	return slices.Concat(p.A, unitMatrix(len(p.C))), slices.Concat(p.B, wholeNumbers(make([]int, len(p.C))...))
}

// chosenConstraints returns the system of one choice.
func chosenConstraints(p impl.LinearProgram, choice []int) (matrix [][]impl.Rational, right []impl.Rational) {
	allRows, allRight := plainConstraints(p)
	for _, number := range choice {
		matrix, right = append(matrix, allRows[number]), append(right, allRight[number])
	}
	return matrix, right
}

// plainVertices is the test's own list of the vertices.
func plainVertices(p impl.LinearProgram, side int) [][]impl.Rational {
	if !plainIsProgram(p) {
		return nil
	}
	var vertices [][]impl.Rational
	seen := map[string]bool{}
	for _, choice := range plainChoices(len(p.B)+len(p.C), len(p.C)) {
		point, ok := plainSolve(chosenConstraints(p, choice))
		if ok && plainIsFeasible(p, point, side) && !seen[fmt.Sprint(point)] {
			seen[fmt.Sprint(point)] = true
			vertices = append(vertices, point)
		}
	}
	return vertices
}

// plainIsBounded reports whether each column has a positive element in a row
// without negative ones.
func plainIsBounded(p impl.LinearProgram) bool {
	bounded := map[int]bool{}
	for _, row := range p.A {
		if slices.ContainsFunc(row, func(r impl.Rational) bool { return r.Num < 0 }) {
			continue
		}
		for column, r := range row {
			if r.Num > 0 {
				bounded[column] = true
			}
		}
	}
	return len(bounded) == len(p.C)
}

// plainBest is the test's own result of Minimize and Maximize.
func plainBest(p impl.LinearProgram, side int) (best []impl.Rational, value impl.Rational, found bool) {
	if !plainIsProgram(p) || side == atMost && !plainIsBounded(p) {
		return nil, impl.Rational{}, false
	}
	if side == atLeast && slices.ContainsFunc(p.C, func(r impl.Rational) bool { return r.Num < 0 }) {
		return nil, impl.Rational{}, false
	}
	for _, vertex := range plainVertices(p, side) {
		next, ok := plainDot(vertex, p.C)
		if ok && (!found || exactValue(value).Cmp(exactValue(next))*side > 0) {
			best, value, found = vertex, next, true
		}
	}
	return best, value, found
}

// plainDual is the test's own result of DualProgram.
func plainDual(p impl.LinearProgram) (impl.LinearProgram, bool) {
	if !plainIsProgram(p) {
		return impl.LinearProgram{}, false
	}
	transposed, _ := plainTranspose(p.A)
	return impl.LinearProgram{A: transposed, B: p.C, C: p.B}, true
}

// describeOptimum writes a result of Minimize or Maximize like the tables below.
func describeOptimum(point []impl.Rational, value impl.Rational, ok bool) string {
	if !ok {
		if len(point) != 0 || value != (impl.Rational{}) {
			return fmt.Sprintf("none, but %v and %v", point, value)
		}
		return "none"
	}
	return plainFormatRationals(point) + " = " + plainFormat(value)
}

func checkDual(t *testing.T, p impl.LinearProgram) {
	t.Helper()
	want, wantOk := plainDual(p)
	got, ok := impl.DualProgram(p)
	if !samePrograms(got, want) || ok != wantOk {
		t.Fatalf("DualProgram(%s) = %s, %v", describeProgram(p), describeProgram(got), ok)
	}
	if !ok {
		return
	}
	if back, ok := impl.DualProgram(got); !samePrograms(back, p) || !ok {
		t.Fatalf("DualProgram twice (%s) = %s, %v", describeProgram(p), describeProgram(back), ok)
	}
}

func checkFeasible(t *testing.T, p impl.LinearProgram, point []impl.Rational) {
	t.Helper()
	call := fmt.Sprintf("(%s, %s)", describeProgram(p), describeRationals(point))
	if got, want := impl.IsFeasibleMin(p, point), plainIsFeasible(p, point, atLeast); got != want {
		t.Fatalf("IsFeasibleMin%s = %v", call, got)
	}
	if got, want := impl.IsFeasibleMax(p, point), plainIsFeasible(p, point, atMost); got != want {
		t.Fatalf("IsFeasibleMax%s = %v", call, got)
	}
}

// checkProgram compares all functions with the test's own results, and reports
// whether there is a minimum and a maximum.
func checkProgram(t *testing.T, p impl.LinearProgram) (hasMinimum, hasMaximum bool) {
	t.Helper()
	call := "(" + describeProgram(p) + ")"
	if got, want := impl.IsValidLinearProgram(p), plainIsProgram(p); got != want {
		t.Fatalf("IsValidLinearProgram%s = %v", call, got)
	}
	want := plainVertices(p, atLeast)
	if got := impl.FeasibleVertices(p); !sameMatrices(got, want) {
		t.Fatalf("FeasibleVertices%s = %s, want %s", call, describeMatrix(got), describeMatrix(want))
	}
	minimum, wantMinimum := describeOptimum(impl.Minimize(p)), describeOptimum(plainBest(p, atLeast))
	if minimum != wantMinimum {
		t.Fatalf("Minimize%s = %s, want %s", call, minimum, wantMinimum)
	}
	maximum, wantMaximum := describeOptimum(impl.Maximize(p)), describeOptimum(plainBest(p, atMost))
	if maximum != wantMaximum {
		t.Fatalf("Maximize%s = %s, want %s", call, maximum, wantMaximum)
	}
	for _, vertex := range append(want, plainVertices(p, atMost)...) {
		checkFeasible(t, p, vertex)
	}
	checkDual(t, p)
	return minimum != "none", maximum != "none"
}

// programCase is a program with its vertices, minimum and maximum.
type programCase struct{ program, vertices, minimum, maximum string }

var programCases = []programCase{
	{"1 0 1;1 1 0;0 1 1 | 1 1 1 | 1 1 1", "1/2 1/2 1/2;0 1 1;1 1 0;1 0 1", "1/2 1/2 1/2 = 3/2", "1/2 1/2 1/2 = 3/2"},
	{"1 | 2 | 3", "2", "2 = 6", "2 = 6"},
	{"1 | 0 | 1", "0", "0 = 0", "0 = 0"},
	{"1 | -1 | 1", "0", "0 = 0", "none"},
	{"-1 | -2 | 1", "2;0", "0 = 0", "none"},
	{"-1 | 0 | 1", "0", "0 = 0", "none"},
	{"0 | 0 | 1", "0", "0 = 0", "none"},
	{"0 | -1 | 1", "0", "0 = 0", "none"},
	{"1 | 1 | 0", "1", "1 = 0", "1 = 0"},
	{"1 | 1 | -1", "1", "none", "0 = 0"},
	{"2/3 | 4/9 | 3/7", "2/3", "2/3 = 2/7", "2/3 = 2/7"},
	{"1;2 | 3 4 | 1", "3", "3 = 3", "2 = 2"},
	{"1;1 | 3 3 | 1", "3", "3 = 3", "3 = 3"},
	{"1;-1 | 2 -5 | 1", "2;5", "2 = 2", "none"},
	{"1;-1 | 5 -2 | 1", "none", "none", "5 = 5"},
	{"1;-1 | 5 -2 | -1", "none", "none", "2 = -2"},
	{"-1;1 | -2 5 | -1", "none", "none", "2 = -2"},
	{"1 1 | 2 | 1 1", "0 2;2 0", "0 2 = 2", "0 2 = 2"},
	{"1 1 | 2 | 3 1", "0 2;2 0", "0 2 = 2", "2 0 = 6"},
	{"1 1 | 2 | 1 3", "0 2;2 0", "2 0 = 2", "0 2 = 6"},
	{"1 1 | 2 | -1 -3", "0 2;2 0", "none", "0 0 = 0"},
	{"1 1 | 2 | -1 0", "0 2;2 0", "none", "0 2 = 0"},
	{"1 1 | 2 | 0 -1", "0 2;2 0", "none", "2 0 = 0"},
	{"1 1 | 0 | 1 1", "0 0", "0 0 = 0", "0 0 = 0"},
	{"1/2 1/3 | 1 | 1/5 1/7", "0 3;2 0", "2 0 = 2/5", "0 3 = 3/7"},
	{"1 0 | 1 | 1 1", "1 0", "1 0 = 1", "none"},
	{"0 1 | 1 | 1 1", "0 1", "0 1 = 1", "none"},
	{"1 2;3 1 | 4 6 | 1 1", "8/5 6/5;4 0;0 6", "8/5 6/5 = 14/5", "8/5 6/5 = 14/5"},
	{"1 2;3 1 | 4 6 | 1 3", "8/5 6/5;4 0;0 6", "4 0 = 4", "0 2 = 6"},
	{"1 2;3 1 | 4 6 | 7 1", "8/5 6/5;4 0;0 6", "0 6 = 6", "2 0 = 14"},
	{"1 1;1 -1 | 1 0 | 0 0", "1/2 1/2;1 0", "1/2 1/2 = 0", "1/2 1/2 = 0"},
	{"1 -1;0 1 | 1 1 | 1 1", "2 1", "2 1 = 3", "none"},
	{"1 -1;1 1 | 1 1 | 1 1", "1 0", "1 0 = 1", "1 0 = 1"},
	{"1 0;0 1 | 3 5 | 2 1/2", "3 5", "3 5 = 17/2", "3 5 = 17/2"},
	{"1 0;0 1 | 3 -5 | 2 1/2", "3 0", "3 0 = 6", "none"},
	{"1 0;-1 1 | 3 5 | 2 1/2", "3 8", "3 8 = 10", "none"},
	{"-1 -1 | -2 | 1 1", "0 2;2 0;0 0", "0 0 = 0", "none"},
	{"1 0 0;0 1 0 | 1 2 | 1 1 1", "1 2 0", "1 2 0 = 3", "none"},
	{"1 1 1 1 1 | 1 | 5 4 3 2 1", "0 0 0 0 1;0 0 0 1 0;0 0 1 0 0;0 1 0 0 0;1 0 0 0 0", "0 0 0 0 1 = 1", "1 0 0 0 0 = 5"},
	{"1;2;3;4;5 | 1 3 2 4 3 | 2", "3/2", "3/2 = 3", "3/5 = 6/5"},
	{"1 0 0 0 0;0 1 0 0 0;0 0 1 0 0;0 0 0 1 0;0 0 0 0 1 | 1 2 3 4 5 | 1 1 1 1 1", "1 2 3 4 5", "1 2 3 4 5 = 15", "1 2 3 4 5 = 15"},
	{"1000000000 | 1 | 1000000000", "1/1000000000", "1/1000000000 = 1", "1/1000000000 = 1"},
	{"1/1000000000 | 1 | 1/1000000000", "1000000000", "1000000000 = 1", "1000000000 = 1"},
}

func checkPrograms(t *testing.T, cases []programCase) {
	t.Helper()
	for _, c := range cases {
		p := parsedProgram(t, c.program)
		var want [][]impl.Rational
		if c.vertices != "none" {
			want = parsedMatrix(t, c.vertices)
		}
		if got := impl.FeasibleVertices(p); !sameMatrices(got, want) {
			t.Errorf("FeasibleVertices(%s) = %v, want %s", c.program, got, c.vertices)
		}
		if got := describeOptimum(impl.Minimize(p)); got != c.minimum {
			t.Errorf("Minimize(%s) = %s, want %s", c.program, got, c.minimum)
		}
		if got := describeOptimum(impl.Maximize(p)); got != c.maximum {
			t.Errorf("Maximize(%s) = %s, want %s", c.program, got, c.maximum)
		}
		checkProgram(t, p)
	}
}

func TestLinearPrograms(t *testing.T) {
	checkPrograms(t, programCases)
}

// programsWithoutVertices have no feasible point for Minimize, or its numbers
// are too large.
var programsWithoutVertices = []string{
	"-1 | 1 | 1",
	"0 | 1 | 1",
	"-1 | 1/1000000000 | 1",
	"-1 -1 | 1 | 1 1",
	"0 0 | 1 | 1 1",
	"0 0 0 0 0 | 1 | 1 1 1 1 1",
	"1;-1 | 2 -1 | 1",
	"1;-1 | 1 -999999999/1000000000 | 1",
	"1 1;-1 -1 | 2 -1 | 1 1",
	"1 -1;-1 1 | 1 0 | 1 1",
	"1 -1;-1 1 | 1 1 | 1 1",
	"1 0;0 -1 | 1 1 | 1 1",
	"0 0;1 1 | 1 1 | 1 1",
	"1 1;1 1;-1 -1 | 1 1 0 | 1 1",
	"1/2 | 1000000000 | 1",
	"1/1000000000 | 2 | 1",
	"1/2 1/2 | 1000000000 | 1 1",
	"1;1/2 | 1 1000000000 | 1",
}

func TestProgramsWithoutVertices(t *testing.T) {
	for _, s := range programsWithoutVertices {
		p := parsedProgram(t, s)
		if got := impl.FeasibleVertices(p); len(got) != 0 || !impl.IsValidLinearProgram(p) {
			t.Errorf("FeasibleVertices(%s) = %v", s, got)
		}
		if point, value, ok := impl.Minimize(p); point != nil || value != (impl.Rational{}) || ok {
			t.Errorf("Minimize(%s) = %v, %v, %v", s, point, value, ok)
		}
		checkProgram(t, p)
	}
	for _, s := range []string{
		"1 | -1 | 1",
		"1 | -1/1000000000 | 1",
		"1 1 | -1 | 1 1",
		"1;-1 | 1 -2 | 1",
		"1;0 | 1 -1 | 1",
		"1 1;-1 -1 | 1 -2 | 1 1",
		"1 1;0 0 | 1 -1 | 1 1",
		"1 0;0 1;1 1 | 1 1 -1 | 1 1",
		"1 1 1 1 1;0 0 0 0 -1 | 1 -2 | 1 1 1 1 1",
	} {
		if point, value, ok := impl.Maximize(parsedProgram(t, s)); point != nil || value != (impl.Rational{}) || ok {
			t.Errorf("Maximize(%s) = %v, %v, %v", s, point, value, ok)
		}
		checkProgram(t, parsedProgram(t, s))
	}
}

// TestLargeNumbersInPrograms: a point counts only if all numbers on the way to
// it, its products and its value are valid.
func TestLargeNumbersInPrograms(t *testing.T) {
	checkPrograms(t, []programCase{
		// The value of a vertex is too large.
		{"1 | 2 | 1000000000", "2", "none", "0 = 0"},
		{"1 | 1 | 1000000000", "1", "1 = 1000000000", "1 = 1000000000"},
		{"1;-1 | 3 -2 | 1000000000", "none", "none", "none"},
		{"1;-1 | 1 -1 | 1000000000", "1", "1 = 1000000000", "1 = 1000000000"},
		{"1 1 | 2 | 1 1000000000", "0 2;2 0", "2 0 = 2", "2 0 = 2"},
		{"1 1 | 2 | 1000000000 1", "0 2;2 0", "0 2 = 2", "0 2 = 2"},
		{"1 1 | 2 | 1000000000 1000000000", "0 2;2 0", "none", "0 0 = 0"},
		{"1 1 | 2 | -1000000000 -1", "0 2;2 0", "none", "0 0 = 0"},
		{"1 0;0 1 | 1 1 | 1000000000 1", "1 1", "none", "1 0 = 1000000000"},
		{"1 0;0 1 | 1 1 | 1 1000000000", "1 1", "none", "0 1 = 1000000000"},
		{"1 0;0 1 | 1 1 | 1000000000 -1", "1 1", "none", "1 0 = 1000000000"},
		// The value is a valid number, but a sum on the way is not.
		{"1 0 0;0 1 0;0 0 1 | 1 1 1 | 1000000000 1 -1", "1 1 1", "none", "1 0 0 = 1000000000"},
		{"1 0 0;0 1 0;0 0 1 | 1 1 1 | 1000000000 -1 1", "1 1 1", "none", "1 1 1 = 1000000000"},
		// A product of the vertex is too large.
		{"1;1000000000 | 2 1 | 1", "none", "none", "1/1000000000 = 1/1000000000"},
		{"1;1000000000 | 1 1 | 1", "1", "1 = 1", "1/1000000000 = 1/1000000000"},
		{"1;-1000000000 | 2 1 | 1", "none", "none", "0 = 0"},
		{"1 0 0;0 1 0;0 0 1;1000000000 1 -1 | 1 1 1 0 | 1 1 1", "none", "none", "0 1 1 = 2"},
		{"1 0 0;0 1 0;0 0 1;1000000000 -1 1 | 1 1 1 0 | 1 1 1", "1 1 1", "1 1 1 = 3", "0 1 1 = 2"},
		// A number on the way is too large; another choice leads to the point.
		{"1000000000 0;1/2 1 | 0 1 | 1 1", "0 1", "0 1 = 1", "0 1 = 1"},
		{"1/2 1;1000000000 0 | 1 0 | 1 1", "0 1", "0 1 = 1", "0 1 = 1"},
		// The only choice for the point has a number that is too large.
		{"1/2 1;1 -1 | 1 1/1000000000 | 1 1", "2 0", "2 0 = 2", "0 1 = 1"},
		{"1 40000;40000 1000000000 | 41 1040000 | 1 30000", "41 0;0 13/12500", "0 13/12500 = 156/5", "0 41/40000 = 123/4"},
	})
}

// TestEqualValues: of several vertices with the best value, the first one counts.
func TestEqualValues(t *testing.T) {
	checkPrograms(t, []programCase{
		{"1 1 | 1 | 1 1", "0 1;1 0", "0 1 = 1", "0 1 = 1"},
		{"1 1 1 | 1 | 1 1 1", "0 0 1;0 1 0;1 0 0", "0 0 1 = 1", "0 0 1 = 1"},
		{"1 1 1 | 1 | 1 1 2", "0 0 1;0 1 0;1 0 0", "0 1 0 = 1", "0 0 1 = 2"},
		{"1 1 1 | 1 | 2 1 1", "0 0 1;0 1 0;1 0 0", "0 0 1 = 1", "1 0 0 = 2"},
		{"1 1 1 | 1 | 1 2 2", "0 0 1;0 1 0;1 0 0", "1 0 0 = 1", "0 0 1 = 2"},
		{"1 1 1 | 1 | 2 2 1", "0 0 1;0 1 0;1 0 0", "0 0 1 = 1", "0 1 0 = 2"},
		{"1 2;2 1 | 3 3 | 1 2", "1 1;3 0;0 3", "1 1 = 3", "1 1 = 3"},
		{"2 1;1 2 | 3 3 | 1 2", "1 1;0 3;3 0", "1 1 = 3", "1 1 = 3"},
		{"1 2;2 1 | 3 3 | 0 0", "1 1;3 0;0 3", "1 1 = 0", "1 1 = 0"},
		{"1 1;1 0 | 1 1/2 | 1 1", "1/2 1/2;1 0", "1/2 1/2 = 1", "1/2 1/2 = 1"},
		{"1 0;1 1 | 1/2 1 | 1 1", "1/2 1/2;1 0", "1/2 1/2 = 1", "1/2 1/2 = 1"},
		{"1 1;0 1 | 1 1/2 | 1 1", "1/2 1/2;0 1", "1/2 1/2 = 1", "1/2 1/2 = 1"},
	})
}

// TestVerticesAreListedOnce has points at which more constraints hold with
// equality than a choice contains.
func TestVerticesAreListedOnce(t *testing.T) {
	checkPrograms(t, []programCase{
		{"1;1;1;1;1 | 1 1 1 1 1 | 1", "1", "1 = 1", "1 = 1"},
		{"1;2;3;1/2;1/3 | 1 2 3 1/2 1/3 | 1", "1", "1 = 1", "1 = 1"},
		{"1 0;0 1;1 1;1 2;2 1 | 1 1 2 3 3 | 1 1", "1 1", "1 1 = 2", "1 1 = 2"},
		{"1 1;1 1 | 1 1 | 1 2", "0 1;1 0", "1 0 = 1", "0 1 = 2"},
		{"1 1;2 2;3 3 | 1 2 3 | 1 2", "0 1;1 0", "1 0 = 1", "0 1 = 2"},
		{"1 1;1 2;2 1 | 0 0 0 | 1 2", "0 0", "0 0 = 0", "0 0 = 0"},
		{"1 1 1;1 1 1;1 1 1 | 0 0 0 | 1 2 3", "0 0 0", "0 0 0 = 0", "0 0 0 = 0"},
		{"0 0;0 0;0 0 | 0 -1 0 | 1 2", "0 0", "0 0 = 0", "none"},
		{"1 1;0 0 | 1 0 | 1 2", "0 1;1 0", "1 0 = 1", "0 1 = 2"},
		{"0 0;1 1 | 0 1 | 1 2", "0 1;1 0", "1 0 = 1", "0 1 = 2"},
	})
}

func TestPointsOfAProgram(t *testing.T) {
	triangle := "1 0 1;1 1 0;0 1 1 | 1 1 1 | 1 1 1"
	for _, c := range []struct {
		program, point   string
		minimum, maximum bool
	}{
		{triangle, "1 1/2 1/2", true, false},
		{triangle, "0 1/2 1/2", false, true},
		{triangle, "1/2 1/2 1/2", true, true},
		{triangle, "1 0 0", false, true},
		{triangle, "1 1 1", true, false},
		{triangle, "0 0 0", false, true},
		{triangle, "499999999/1000000000 1/2 1/2", false, true},
		{triangle, "500001/1000000 1/2 1/2", true, false},
		{triangle, "500000001/1000000000 1/2 1/2", false, false},
		{triangle, "2 0 0", false, false},
		{triangle, "1/2 1/2", false, false},
		{triangle, "1/2 1/2 1/2 1/2", false, false},
		{triangle, "1/2 1/2 1/2 0", false, false},
		{triangle, "", false, false},
		{triangle, "2 2 -1", false, false},
		{triangle, "-1/1000000000 1 1", false, false},
		{"-1 | -2 | 1", "-1", false, false},
		{"-1 | -2 | 1", "1", true, false},
		{"-1 | -2 | 1", "3", false, true},
		{"-1 | -2 | 1", "2", true, true},
		{"0 | 0 | -1", "1000000000", true, true},
		{"0 | 1/1000000000 | -1", "1000000000", false, true},
		{"0 | -1/1000000000 | -1", "1000000000", true, false},
		{"1 1;1 -1 | 2 0 | 1 1", "2 1", true, false},
		{"1 1;1 -1 | 2 0 | 1 1", "1/2 1", false, true},
		{"1 1;1 -1 | 2 0 | 1 1", "1 2", false, false},
		{"1 1;1 -1 | 2 0 | 1 1", "1/2 1/3", false, false},
		{"1000000000 | 1 | 1", "1", true, false},
		{"1000000000 | 1 | 1", "2", false, false},
		{"-1000000000 | 1 | 1", "1", false, true},
		{"-1000000000 | 1 | 1", "2", false, false},
		{"1/1000000000 | 1 | 1", "1/2", false, false},
		{"1000000000 1 -1 | 1 | 1 1 1", "1 1 1", false, false},
		{"1000000000 -1 1 | 1 | 1 1 1", "1 1 1", true, false},
		{"1;1000000000 | 1 1 | 1", "2", false, false},
		{"1000000000;1 | 1 1 | 1", "2", false, false},
	} {
		p, point := parsedProgram(t, c.program), parsedRationals(t, c.point)
		if got := impl.IsFeasibleMin(p, point); got != c.minimum {
			t.Errorf("IsFeasibleMin(%s, %s) = %v", c.program, c.point, got)
		}
		if got := impl.IsFeasibleMax(p, point); got != c.maximum {
			t.Errorf("IsFeasibleMax(%s, %s) = %v", c.program, c.point, got)
		}
		checkFeasible(t, p, point)
	}
}

// TestPointsBesideALimit moves one product by the smallest step; all the others
// are exactly B.
func TestPointsBesideALimit(t *testing.T) {
	step := rational(1, rationalLimit)
	for rows := 1; rows <= programLimit; rows++ {
		for columns := 1; columns <= programLimit; columns++ {
			p := impl.LinearProgram{C: slices.Repeat(wholeNumbers(1), columns)}
			for range rows {
				p.A, p.B = append(p.A, slices.Repeat(wholeNumbers(1), columns)), append(p.B, rational(1, 1))
			}
			point := append(wholeNumbers(1), wholeNumbers(make([]int, columns-1)...)...)
			if !impl.IsFeasibleMin(p, point) || !impl.IsFeasibleMax(p, point) {
				t.Errorf("%v is not feasible for %s", point, describeProgram(p))
			}
			for row := range rows {
				less, more := cloneOfProgram(p), cloneOfProgram(p)
				less.B[row], more.B[row] = rational(rationalLimit-1, rationalLimit), rational(rationalLimit, rationalLimit-1)
				if !impl.IsFeasibleMin(less, point) || impl.IsFeasibleMax(less, point) || impl.IsFeasibleMin(more, point) || !impl.IsFeasibleMax(more, point) {
					t.Errorf("row %d of %s does not decide", row, describeProgram(p))
				}
			}
			for column := range columns {
				moved := slices.Clone(point)
				moved[column] = impl.Rational{Num: -1, Den: rationalLimit}
				zero := cloneOfProgram(p)
				for row := range rows {
					zero.A[row], zero.B[row] = wholeNumbers(make([]int, columns)...), rational(0, 1)
				}
				if impl.IsFeasibleMin(zero, moved) || impl.IsFeasibleMax(zero, moved) {
					t.Errorf("%v is feasible for %s", moved, describeProgram(zero))
				}
				moved[column] = step
				if !impl.IsFeasibleMin(zero, moved) || !impl.IsFeasibleMax(zero, moved) {
					t.Errorf("%v is not feasible for %s", moved, describeProgram(zero))
				}
			}
		}
	}
}

// checkNoProgram expects that no function accepts the program.
func checkNoProgram(t *testing.T, p impl.LinearProgram, point []impl.Rational) {
	t.Helper()
	call := "(" + describeProgram(p) + ")"
	if impl.IsValidLinearProgram(p) || impl.IsFeasibleMin(p, point) || impl.IsFeasibleMax(p, point) {
		t.Errorf("IsValidLinearProgram%s = %v", call, impl.IsValidLinearProgram(p))
	}
	if got, value, ok := impl.Minimize(p); got != nil || value != (impl.Rational{}) || ok {
		t.Errorf("Minimize%s = %v, %v, %v", call, got, value, ok)
	}
	if got, value, ok := impl.Maximize(p); got != nil || value != (impl.Rational{}) || ok {
		t.Errorf("Maximize%s = %v, %v, %v", call, got, value, ok)
	}
	if got, ok := impl.DualProgram(p); got.A != nil || got.B != nil || got.C != nil || ok {
		t.Errorf("DualProgram%s = %v, %v", call, got, ok)
	}
	if got := impl.FeasibleVertices(p); len(got) != 0 {
		t.Errorf("FeasibleVertices%s = %v", call, got)
	}
}

// programOfOnes has that many rows and columns.
func programOfOnes(rows, columns int) impl.LinearProgram {
	p := impl.LinearProgram{B: slices.Repeat(wholeNumbers(1), rows), C: slices.Repeat(wholeNumbers(1), columns)}
	for range rows {
		p.A = append(p.A, slices.Repeat(wholeNumbers(1), columns))
	}
	return p
}

func TestProgramSizes(t *testing.T) {
	for rows := range 12 {
		for columns := range 12 {
			p := programOfOnes(rows, columns)
			point := slices.Repeat(wholeNumbers(1), columns)
			if rows < 1 || rows > programLimit || columns < 1 || columns > programLimit {
				checkNoProgram(t, p, point)
				continue
			}
			if !impl.IsValidLinearProgram(p) || !impl.IsFeasibleMin(p, point) || impl.IsFeasibleMax(p, point) != (columns == 1) {
				t.Errorf("a program of %d rows and %d columns is not accepted", rows, columns)
			}
			last := append(wholeNumbers(make([]int, columns-1)...), rational(1, 1))
			if got := impl.FeasibleVertices(p); len(got) != columns || !sameRationals(got[0], last) {
				t.Errorf("FeasibleVertices(%s) = %v", describeProgram(p), got)
			}
			checkProgram(t, p)
			for other := range 12 {
				if other != rows {
					checkNoProgram(t, impl.LinearProgram{A: programOfOnes(other, columns).A, B: p.B, C: p.C}, point)
					checkNoProgram(t, impl.LinearProgram{A: p.A, B: programOfOnes(other, 1).B, C: p.C}, point)
				}
				if other != columns {
					checkNoProgram(t, impl.LinearProgram{A: programOfOnes(rows, other).A, B: p.B, C: p.C}, point)
					checkNoProgram(t, impl.LinearProgram{A: p.A, B: p.B, C: programOfOnes(1, other).C}, point)
					checkNoProgram(t, impl.LinearProgram{A: p.A, B: p.B, C: programOfOnes(1, other).C}, programOfOnes(1, other).C)
				}
			}
		}
	}
	checkNoProgram(t, impl.LinearProgram{}, nil)
	checkNoProgram(t, impl.LinearProgram{A: [][]impl.Rational{}, B: []impl.Rational{}, C: []impl.Rational{}}, []impl.Rational{})
}

// TestRaggedPrograms makes one row longer or shorter.
func TestRaggedPrograms(t *testing.T) {
	for rows := 1; rows <= programLimit; rows++ {
		for columns := 1; columns <= programLimit; columns++ {
			for row := range rows {
				for length := range 12 {
					p := programOfOnes(rows, columns)
					p.A[row] = slices.Repeat(wholeNumbers(1), length)
					if length != columns {
						checkNoProgram(t, p, p.C)
					}
				}
			}
		}
	}
}

func TestProgramsWithInvalidNumbers(t *testing.T) {
	for rows := 1; rows <= programLimit; rows++ {
		for columns := 1; columns <= programLimit; columns++ {
			p := programOfOnes(rows, columns)
			point := slices.Repeat(wholeNumbers(1), columns)
			for _, list := range append(slices.Clone(p.A), p.B, p.C) {
				for i := range list {
					for _, r := range invalidRationals() {
						list[i] = r
						checkNoProgram(t, p, point)
					}
					list[i] = rational(1, 1)
				}
			}
			if !impl.IsValidLinearProgram(p) {
				t.Errorf("%s is not valid", describeProgram(p))
			}
		}
	}
}

// TestInvalidPoints: an invalid number is not feasible, even where it is
// multiplied by 0 only.
func TestInvalidPoints(t *testing.T) {
	for columns := 1; columns <= programLimit; columns++ {
		p := impl.LinearProgram{A: [][]impl.Rational{wholeNumbers(make([]int, columns)...)}, B: wholeNumbers(0), C: wholeNumbers(make([]int, columns)...)}
		point := slices.Repeat(wholeNumbers(1), columns)
		if !impl.IsFeasibleMin(p, point) || !impl.IsFeasibleMax(p, point) {
			t.Errorf("%v is not feasible for %s", point, describeProgram(p))
		}
		for i := range point {
			for _, r := range append(invalidRationals(), rational(-1, 1), rational(-rationalLimit, 1), rational(-1, rationalLimit), rational(-2, 3)) {
				wrong := slices.Clone(point)
				wrong[i] = r
				if impl.IsFeasibleMin(p, wrong) || impl.IsFeasibleMax(p, wrong) {
					t.Errorf("%v is feasible for %s", wrong, describeProgram(p))
				}
			}
		}
		for length := range 12 {
			other := slices.Repeat(wholeNumbers(1), length)
			if length != columns && (impl.IsFeasibleMin(p, other) || impl.IsFeasibleMax(p, other)) {
				t.Errorf("%v is feasible for %s", other, describeProgram(p))
			}
		}
	}
}

func TestLongPrograms(t *testing.T) {
	const count = 300000
	long := slices.Repeat(wholeNumbers(1), count)
	one := wholeNumbers(1)
	for _, p := range []impl.LinearProgram{
		{A: slices.Repeat([][]impl.Rational{one}, count), B: long, C: one},
		{A: slices.Repeat([][]impl.Rational{one}, count), B: one, C: one},
		{A: [][]impl.Rational{long}, B: one, C: long},
		{A: [][]impl.Rational{long}, B: one, C: one},
		{A: [][]impl.Rational{one}, B: long, C: one},
		{A: [][]impl.Rational{one}, B: one, C: long},
		{A: slices.Repeat([][]impl.Rational{long}, count), B: long, C: long},
	} {
		checkNoProgram(t, p, one)
		checkNoProgram(t, p, long)
	}
	if p := programOfOnes(1, 1); impl.IsFeasibleMin(p, long) || impl.IsFeasibleMax(p, long) {
		t.Error("a long point is feasible")
	}
}

// TestAllSmallPrograms covers all programs with up to two rows and columns over
// small sets of numbers.
func TestAllSmallPrograms(t *testing.T) {
	minima, maxima := 0, 0
	check := func(a [][]impl.Rational, b, c []impl.Rational) {
		hasMinimum, hasMaximum := checkProgram(t, impl.LinearProgram{A: a, B: b, C: c})
		if hasMinimum {
			minima++
		}
		if hasMaximum {
			maxima++
		}
	}
	single := parsedRationals(t, "0 1 -1 2 -2/3 1/2 1000000000 -1000000000 1/1000000000 -1/1000000000 999999999")
	for _, list := range listsOf(single, 3) {
		check([][]impl.Rational{list[:1]}, list[1:2], list[2:])
	}
	few := parsedRationals(t, "0 1 -1 1/2 1000000000")
	for _, list := range listsOf(few, 5) {
		check([][]impl.Rational{list[:2]}, list[2:3], list[3:])
		check([][]impl.Rational{list[:1], list[1:2]}, list[2:4], list[4:])
	}
	for _, list := range listsOf(wholeNumbers(0, 1, -1), 6) {
		for _, c := range [][]impl.Rational{wholeNumbers(1, 1), wholeNumbers(1, 0), wholeNumbers(2, -1)} {
			check(squareOf(list[:4], 2), list[4:], c)
		}
	}
	if minima < 1000 || maxima < 1000 {
		t.Errorf("%d of the programs have a minimum, %d a maximum", minima, maxima)
	}
}

// TestRandomPrograms covers all sizes, with small and with large numbers.
func TestRandomPrograms(t *testing.T) {
	random := rand.New(rand.NewSource(41))
	for rows := 1; rows <= programLimit; rows++ {
		for columns := 1; columns <= programLimit; columns++ {
			minima, maxima := 0, 0
			for i := range 40 {
				p := randomProgram(random, rows, columns, []int{1, 2, 3, 12}[i%4], []int{10, 1000000}[i/4%2])
				hasMinimum, hasMaximum := checkProgram(t, withAbsolute(random, p))
				if hasMinimum {
					minima++
				}
				if hasMaximum {
					maxima++
				}
				for range 4 {
					point := randomNumbers(random, columns, 3, 50)
					checkFeasible(t, p, point)
					checkFeasible(t, p, withAbsolute(random, impl.LinearProgram{B: point}).B)
				}
			}
			if minima < 5 || maxima < 1 {
				t.Errorf("of %d rows and %d columns, %d programs have a minimum and %d a maximum", rows, columns, minima, maxima)
			}
		}
	}
}

// exactVertices lists the vertices by Cramer's rule, with numbers of any size.
func exactVertices(p impl.LinearProgram, side int) [][]*big.Rat {
	var vertices [][]*big.Rat
	for _, choice := range plainChoices(len(p.B)+len(p.C), len(p.C)) {
		rows, _ := plainRows(chosenConstraints(p, choice))
		point, ok := cramerSolution(rows)
		isKnown := slices.ContainsFunc(vertices, func(other []*big.Rat) bool {
			return ok && slices.EqualFunc(other, point, func(a, b *big.Rat) bool { return a.Cmp(b) == 0 })
		})
		if ok && !isKnown && isExactlyFeasible(p, point, side) {
			vertices = append(vertices, point)
		}
	}
	return vertices
}

func isExactlyFeasible(p impl.LinearProgram, point []*big.Rat, side int) bool {
	if slices.ContainsFunc(point, func(x *big.Rat) bool { return x.Sign() < 0 }) {
		return false
	}
	for i, row := range p.A {
		elements, _ := exactValues(row)
		if exactDot(elements, point).Cmp(exactValue(p.B[i]))*side < 0 {
			return false
		}
	}
	return true
}

func exactDot(a, b []*big.Rat) *big.Rat {
	sum := new(big.Rat)
	for i := range a {
		sum.Add(sum, new(big.Rat).Mul(a[i], b[i]))
	}
	return sum
}

// randomIntegers has so small numbers that no number on the way is too large.
func randomIntegers(random *rand.Rand, rows, columns int) impl.LinearProgram {
	p := programOfOnes(rows, columns)
	for _, list := range append(slices.Clone(p.A), p.B, p.C) {
		lowest := -random.Intn(3)
		for i := range list {
			list[i].Num = lowest + random.Intn(4-lowest)
		}
	}
	return p
}

func TestVerticesAreExact(t *testing.T) {
	random := rand.New(rand.NewSource(42))
	for rows := 1; rows <= programLimit; rows++ {
		for columns := 1; columns <= programLimit; columns++ {
			found := 0
			for range 400 / (columns * columns * columns) {
				p := randomIntegers(random, rows, columns)
				want := exactVertices(p, atLeast)
				got := impl.FeasibleVertices(p)
				isSame := slices.EqualFunc(got, want, func(vertex []impl.Rational, exact []*big.Rat) bool {
					x, ok := exactValues(vertex)
					return ok && slices.EqualFunc(x, exact, func(a, b *big.Rat) bool { return a.Cmp(b) == 0 })
				})
				if !isSame {
					t.Fatalf("FeasibleVertices(%s) = %v, want %v", describeProgram(p), got, want)
				}
				found += len(got)
			}
			if found == 0 {
				t.Errorf("no program of %d rows and %d columns has a vertex", rows, columns)
			}
		}
	}
}

// exactMaximum returns the maximum of c*x for a*x <= b and x >= 0, by the
// simplex method with Bland's rule instead of a list of the vertices; false if
// there is no upper bound. The elements of b are not negative.
func exactMaximum(a [][]*big.Rat, b, c []*big.Rat) (*big.Rat, bool) {
	var table [][]*big.Rat
	var basis []int
	for i, row := range append(slices.Clone(a), c) {
		line := make([]*big.Rat, len(c)+len(b)+1)
		for k := range line {
			line[k] = new(big.Rat)
		}
		for k, x := range row {
			line[k].Set(x)
		}
		if i < len(b) {
			line[len(c)+i].SetInt64(1)
			line[len(line)-1].Set(b[i])
			basis = append(basis, len(c)+i)
		}
		table = append(table, line)
	}
	for {
		gains := table[len(b)]
		entering := slices.IndexFunc(gains[:len(gains)-1], func(x *big.Rat) bool { return x.Sign() > 0 })
		if entering < 0 {
			return new(big.Rat).Neg(gains[len(gains)-1]), true
		}
		leaving := leavingRow(table[:len(b)], basis, entering)
		if leaving < 0 {
			return nil, false
		}
		exchangeBasis(table, leaving, entering)
		basis[leaving] = entering
	}
}

// leavingRow returns the row that limits the entering column first, by Bland's
// rule that of the lowest variable; -1 if no row limits it.
func leavingRow(rows [][]*big.Rat, basis []int, entering int) int {
	best := -1
	var least *big.Rat
	for i, row := range rows {
		if row[entering].Sign() <= 0 {
			continue
		}
		ratio := new(big.Rat).Quo(row[len(row)-1], row[entering])
		if best < 0 || ratio.Cmp(least) < 0 || ratio.Cmp(least) == 0 && basis[i] < basis[best] {
			best, least = i, ratio
		}
	}
	return best
}

func exchangeBasis(table [][]*big.Rat, leaving, entering int) {
	pivot := new(big.Rat).Set(table[leaving][entering])
	for _, x := range table[leaving] {
		x.Quo(x, pivot)
	}
	for i, row := range table {
		factor := new(big.Rat).Set(row[entering])
		for k := range row {
			if i != leaving {
				row[k].Sub(row[k], new(big.Rat).Mul(factor, table[leaving][k]))
			}
		}
	}
}

// exactParts returns A, transposed A, B and C in exact numbers.
func exactParts(p impl.LinearProgram) (a, transposed [][]*big.Rat, b, c []*big.Rat) {
	transposed = make([][]*big.Rat, len(p.C))
	for _, list := range p.A {
		row, _ := exactValues(list)
		a = append(a, row)
		for k, x := range row {
			transposed[k] = append(transposed[k], x)
		}
	}
	b, _ = exactValues(p.B)
	c, _ = exactValues(p.C)
	return a, transposed, b, c
}

// hasFeasiblePoint decides by the lemma of Farkas: there is no point with
// a*x >= b and x >= 0 exactly if some y >= 0 has y*a <= 0 and y*b > 0.
func hasFeasiblePoint(p impl.LinearProgram, side int) bool {
	_, transposed, b, _ := exactParts(p)
	var rows [][]*big.Rat
	ones := make([]*big.Rat, len(b))
	right := make([]*big.Rat, len(transposed), len(transposed)+1)
	for i := range ones {
		ones[i] = big.NewRat(1, 1)
	}
	for i, row := range transposed {
		right[i] = new(big.Rat)
		rows = append(rows, withSign(row, side))
	}
	most, _ := exactMaximum(append(rows, ones), append(right, big.NewRat(1, 1)), withSign(b, side))
	return most.Sign() == 0
}

func withSign(list []*big.Rat, sign int) []*big.Rat {
	signed := make([]*big.Rat, len(list))
	for i, x := range list {
		signed[i] = new(big.Rat).Mul(x, big.NewRat(int64(sign), 1))
	}
	return signed
}

// leastValue returns the least exact product of the factors and a vertex.
func leastValue(vertices [][]impl.Rational, factors []impl.Rational) *big.Rat {
	var least *big.Rat
	c, _ := exactValues(factors)
	for _, vertex := range vertices {
		x, _ := exactValues(vertex)
		if value := exactDot(c, x); least == nil || value.Cmp(least) < 0 {
			least = value
		}
	}
	return least
}

type dualityCounts struct{ minima, maxima, both, infeasible int }

// checkDuality expects small numbers.
func checkDuality(t *testing.T, p impl.LinearProgram, counts *dualityCounts) {
	t.Helper()
	call := "(" + describeProgram(p) + ")"
	_, transposed, b, c := exactParts(p)
	if got, want := len(impl.FeasibleVertices(p)) > 0, hasFeasiblePoint(p, atLeast); got != want {
		t.Fatalf("FeasibleVertices%s: there is a vertex is %v", call, got)
	} else if !want {
		counts.infeasible++
	}
	dual, _ := impl.DualProgram(p)
	_, minimum, hasMinimum := impl.Minimize(p)
	if !slices.ContainsFunc(p.C, func(r impl.Rational) bool { return r.Num < 0 }) {
		most, isBounded := exactMaximum(transposed, c, b)
		if hasMinimum != isBounded || isBounded && exactValue(minimum).Cmp(most) != 0 {
			t.Fatalf("Minimize%s = %v, %v, but the dual program has the maximum %v", call, minimum, hasMinimum, most)
		}
		if hasMinimum {
			counts.minima++
		}
	}
	if _, maximum, ok := impl.Maximize(dual); ok && hasMinimum {
		if maximum != minimum {
			t.Fatalf("Minimize%s = %v, but Maximize of the dual program = %v", call, minimum, maximum)
		}
		counts.both++
	}
	_, maximum, hasMaximum := impl.Maximize(p)
	if hasMaximum != (plainIsBounded(p) && hasFeasiblePoint(p, atMost)) {
		t.Fatalf("Maximize%s = %v, %v", call, maximum, hasMaximum)
	}
	if hasMaximum {
		counts.maxima++
		if least := leastValue(impl.FeasibleVertices(dual), dual.C); least == nil || least.Cmp(exactValue(maximum)) != 0 {
			t.Fatalf("Maximize%s = %v, but the dual program has the minimum %v", call, maximum, least)
		}
	}
}

func (c dualityCounts) areAtLeast(count int) bool {
	return c.minima >= count && c.maxima >= count && c.both >= count && c.infeasible >= count
}

func TestStrongDuality(t *testing.T) {
	var counts dualityCounts
	for _, list := range listsOf(wholeNumbers(0, 1, -1), 4) {
		for _, b := range listsOf(wholeNumbers(0, 1, -1, 2), 2) {
			for _, c := range []string{"1 1", "0 1", "2 1", "1 -1"} {
				checkDuality(t, impl.LinearProgram{A: squareOf(list, 2), B: b, C: parsedRationals(t, c)}, &counts)
			}
		}
	}
	if !counts.areAtLeast(100) {
		t.Errorf("the counts of small programs are %v", counts)
	}
	random := rand.New(rand.NewSource(43))
	counts = dualityCounts{}
	for rows := 1; rows <= programLimit; rows++ {
		for columns := 1; columns <= programLimit; columns++ {
			for range 600 / (rows + columns) {
				checkDuality(t, randomIntegers(random, rows, columns), &counts)
			}
		}
	}
	if !counts.areAtLeast(100) {
		t.Errorf("the counts of random programs are %v", counts)
	}
	for _, c := range programCases {
		checkDuality(t, parsedProgram(t, c.program), &counts)
	}
}

// TestPositiveProgramsHaveBothOptima: if no number is negative and each row has
// a positive one, the minimum and the maximum of the dual program exist.
func TestPositiveProgramsHaveBothOptima(t *testing.T) {
	random := rand.New(rand.NewSource(44))
	for rows := 1; rows <= programLimit; rows++ {
		for columns := 1; columns <= programLimit; columns++ {
			for range 20 {
				p := randomIntegers(random, rows, columns)
				for _, list := range append(slices.Clone(p.A), p.B, p.C) {
					for i := range list {
						list[i].Num = max(list[i].Num, -list[i].Num)
					}
				}
				for _, row := range p.A {
					row[random.Intn(columns)].Num = 1 + random.Intn(3)
				}
				dual, dualOk := impl.DualProgram(p)
				point, minimum, hasMinimum := impl.Minimize(p)
				dualPoint, maximum, hasMaximum := impl.Maximize(dual)
				if !dualOk || !hasMinimum || !hasMaximum || minimum != maximum {
					t.Fatalf("%s has the minimum %v, %v and its dual program the maximum %v, %v", describeProgram(p), minimum, hasMinimum, maximum, hasMaximum)
				}
				value, _ := plainDot(p.C, point)
				dualValue, _ := plainDot(p.B, dualPoint)
				if value != minimum || dualValue != maximum || !impl.IsFeasibleMin(p, point) || !impl.IsFeasibleMax(dual, dualPoint) {
					t.Fatalf("%v and %v are not the optima of %s", point, dualPoint, describeProgram(p))
				}
			}
		}
	}
}

// TestNoFeasiblePointIsBetter tries the points of a grid.
func TestNoFeasiblePointIsBetter(t *testing.T) {
	random := rand.New(rand.NewSource(45))
	grid := listsOf(parsedRationals(t, "0 1/3 1/2 2/3 1 3/2 2 3"), 3)
	feasible := 0
	for range 60 {
		p := withAbsolute(random, randomIntegers(random, 1+random.Intn(4), 3))
		_, minimum, hasMinimum := impl.Minimize(p)
		_, maximum, hasMaximum := impl.Maximize(p)
		for _, point := range grid {
			value, _ := plainDot(p.C, point)
			if hasMinimum && impl.IsFeasibleMin(p, point) {
				feasible++
				if exactValue(value).Cmp(exactValue(minimum)) < 0 {
					t.Fatalf("Minimize(%s) = %v, but %v has the value %v", describeProgram(p), minimum, point, value)
				}
			}
			if hasMaximum && impl.IsFeasibleMax(p, point) {
				feasible++
				if exactValue(value).Cmp(exactValue(maximum)) > 0 {
					t.Fatalf("Maximize(%s) = %v, but %v has the value %v", describeProgram(p), maximum, point, value)
				}
			}
		}
	}
	if feasible < 1000 {
		t.Errorf("%d points are feasible", feasible)
	}
}

// dualCases lists programs and their dual programs.
var dualCases = []struct{ program, dual string }{
	{"1 | 2 | 3", "1 | 3 | 2"},
	{"1 2 | 3 | 4 5", "1;2 | 4 5 | 3"},
	{"1;2 | 3 4 | 5", "1 2 | 5 | 3 4"},
	{"1 2;3 4 | 5 6 | 7 8", "1 3;2 4 | 7 8 | 5 6"},
	{"1 2 3;4 5 6 | 7 8 | 9 10 11", "1 4;2 5;3 6 | 9 10 11 | 7 8"},
	{"-1/2 0;1000000000 -1/1000000000 | 0 -7 | 2/3 -1000000000", "-1/2 1000000000;0 -1/1000000000 | 2/3 -1000000000 | 0 -7"},
	{"1 0 1;1 1 0;0 1 1 | 1 1 1 | 1 1 1", "1 1 0;0 1 1;1 0 1 | 1 1 1 | 1 1 1"},
	{"1 2 3 4 5 | 0 | 6 7 8 9 10", "1;2;3;4;5 | 6 7 8 9 10 | 0"},
}

func TestDualProgram(t *testing.T) {
	for _, c := range dualCases {
		p, want := parsedProgram(t, c.program), parsedProgram(t, c.dual)
		if got, ok := impl.DualProgram(p); !samePrograms(got, want) || !ok {
			t.Errorf("DualProgram(%s) = %s, %v", c.program, describeProgram(got), ok)
		}
		if got, ok := impl.DualProgram(want); !samePrograms(got, p) || !ok {
			t.Errorf("DualProgram(%s) = %s, %v", c.dual, describeProgram(got), ok)
		}
	}
}

// guardedProgram returns the program in larger arrays, and a function that
// reports whether all of their memory is as it was.
func guardedProgram(p impl.LinearProgram) (impl.LinearProgram, func() bool) {
	matrix, isMatrixAsBefore := guardedMatrix(p.A)
	b, arrayOfB := guardedRationals(p.B)
	c, arrayOfC := guardedRationals(p.C)
	savedB, savedC := slices.Clone(arrayOfB), slices.Clone(arrayOfC)
	isAsBefore := func() bool {
		return isMatrixAsBefore() && sameRationals(arrayOfB, savedB) && sameRationals(arrayOfC, savedC)
	}
	return impl.LinearProgram{A: matrix, B: b, C: c}, isAsBefore
}

type programCall struct {
	name string
	call func(p impl.LinearProgram) ([][]impl.Rational, impl.Rational, bool)
}

// programCalls returns each list of numbers of a result as one row.
func programCalls(point []impl.Rational) []programCall {
	return []programCall{
		{"IsValidLinearProgram", func(p impl.LinearProgram) ([][]impl.Rational, impl.Rational, bool) {
			return nil, impl.Rational{}, impl.IsValidLinearProgram(p)
		}},
		{"IsFeasibleMin", func(p impl.LinearProgram) ([][]impl.Rational, impl.Rational, bool) {
			return nil, impl.Rational{}, impl.IsFeasibleMin(p, point)
		}},
		{"IsFeasibleMax", func(p impl.LinearProgram) ([][]impl.Rational, impl.Rational, bool) {
			return nil, impl.Rational{}, impl.IsFeasibleMax(p, point)
		}},
		{"Minimize", func(p impl.LinearProgram) ([][]impl.Rational, impl.Rational, bool) {
			best, value, ok := impl.Minimize(p)
			return [][]impl.Rational{best}, value, ok
		}},
		{"Maximize", func(p impl.LinearProgram) ([][]impl.Rational, impl.Rational, bool) {
			best, value, ok := impl.Maximize(p)
			return [][]impl.Rational{best}, value, ok
		}},
		{"DualProgram", func(p impl.LinearProgram) ([][]impl.Rational, impl.Rational, bool) {
			dual, ok := impl.DualProgram(p)
			return append(slices.Clone(dual.A), dual.B, dual.C), impl.Rational{}, ok
		}},
		{"A of DualProgram", func(p impl.LinearProgram) ([][]impl.Rational, impl.Rational, bool) {
			dual, ok := impl.DualProgram(p)
			return dual.A, impl.Rational{}, ok
		}},
		{"FeasibleVertices", func(p impl.LinearProgram) ([][]impl.Rational, impl.Rational, bool) {
			return impl.FeasibleVertices(p), impl.Rational{}, true
		}},
	}
}

// samplePrograms contains programs with and without each optimum, and some that
// are not valid.
func samplePrograms(t *testing.T) []impl.LinearProgram {
	t.Helper()
	var programs []impl.LinearProgram
	for _, c := range programCases {
		programs = append(programs, parsedProgram(t, c.program))
	}
	for _, s := range programsWithoutVertices {
		programs = append(programs, parsedProgram(t, s))
	}
	for _, c := range dualCases {
		programs = append(programs, parsedProgram(t, c.dual))
	}
	random := rand.New(rand.NewSource(46))
	for range 60 {
		rows, columns := 1+random.Intn(4), 1+random.Intn(4)
		programs = append(programs, withAbsolute(random, randomProgram(random, rows, columns, 3, 50)))
	}
	for _, size := range []int{0, 6, 7} {
		programs = append(programs, programOfOnes(size, 2), programOfOnes(2, size))
	}
	return append(programs, impl.LinearProgram{}, impl.LinearProgram{A: make([][]impl.Rational, 2), B: make([]impl.Rational, 2), C: make([]impl.Rational, 2)})
}

func TestLinearProgramMemory(t *testing.T) {
	for _, original := range samplePrograms(t) {
		for _, inside := range append(plainVertices(original, atLeast), wholeNumbers(1, 1, 1), original.C) {
			point, array := guardedRationals(inside)
			savedArray := slices.Clone(array)
			for _, c := range programCalls(point) {
				p, isAsBefore := guardedProgram(original)
				areAsBefore := func() bool { return isAsBefore() && sameRationals(array, savedArray) }
				call := func() ([][]impl.Rational, impl.Rational, bool) { return c.call(p) }
				if problem := matrixMemoryProblem(call, areAsBefore); problem != "" {
					t.Fatalf("%s(%s): %s", c.name, describeProgram(original), problem)
				}
			}
		}
	}
}

// TestProgramPartsMayOverlap takes all parts from one array, also the point.
func TestProgramPartsMayOverlap(t *testing.T) {
	array := parsedRationals(t, "2 1 0 1 1/2 3 1 -1 0 2 1 1/3 1 0 0 2")
	saved := slices.Clone(array)
	for rows := 1; rows <= 4; rows++ {
		for columns := 1; columns <= 4; columns++ {
			for step := range 3 {
				for start := range 4 {
					p := impl.LinearProgram{B: array[start : start+rows], C: array[start : start+columns]}
					for i := range rows {
						offset := start + i*step
						p.A = append(p.A, array[offset:offset+columns])
					}
					for _, c := range programCalls(p.C) {
						want, wantValue, wantOk := c.call(cloneOfProgram(p))
						got, value, ok := c.call(p)
						if !sameMatrices(got, want) || value != wantValue || ok != wantOk || matrixSharesMemory(got) {
							t.Fatalf("%s(%s) = %v, %v, %v, want %v, %v, %v", c.name, describeProgram(p), got, value, ok, want, wantValue, wantOk)
						}
					}
					checkProgram(t, p)
				}
			}
		}
	}
	if !sameRationals(array, saved) {
		t.Errorf("the array is now %v", array)
	}
}
