package tests

import (
	"fmt"
	"math/big"
	"math/rand"
	"slices"
	"strings"
	"testing"

	"loop.example/g01917/impl"
)

const systemLimit = 6

// parsedMatrix parses rows that are separated by semicolons; the empty text is
// no row.
func parsedMatrix(t *testing.T, s string) [][]impl.Rational {
	t.Helper()
	var matrix [][]impl.Rational
	for _, text := range strings.Split(s, ";") {
		if s != "" {
			matrix = append(matrix, parsedRationals(t, text))
		}
	}
	return matrix
}

// describeMatrix keeps messages about large matrices readable.
func describeMatrix(matrix [][]impl.Rational) string {
	text := fmt.Sprintf("%d rows", len(matrix))
	for _, row := range matrix[:min(len(matrix), 8)] {
		text += " " + describeRationals(row)
	}
	return text
}

// sameMatrices is the test's own comparison of any matrices.
func sameMatrices(a, b [][]impl.Rational) bool {
	return slices.EqualFunc(a, b, sameRationals)
}

func cloneOfMatrix(matrix [][]impl.Rational) [][]impl.Rational {
	clone := make([][]impl.Rational, len(matrix))
	for i, row := range matrix {
		clone[i] = slices.Clone(row)
	}
	return clone
}

func wholeNumbers(numbers ...int) []impl.Rational {
	list := make([]impl.Rational, len(numbers))
	for i, n := range numbers {
		list[i] = rational(n, 1)
	}
	return list
}

// unitMatrix has 1 on its diagonal and 0 elsewhere.
func unitMatrix(size int) [][]impl.Rational {
	matrix := make([][]impl.Rational, size)
	for i := range matrix {
		matrix[i] = wholeNumbers(make([]int, size)...)
		matrix[i][i].Num = 1
	}
	return matrix
}

// exactValues returns nil and false if one of the numbers is invalid.
func exactValues(list []impl.Rational) ([]*big.Rat, bool) {
	values := make([]*big.Rat, len(list))
	for i, r := range list {
		values[i] = exactValue(r)
		if values[i] == nil {
			return nil, false
		}
	}
	return values, true
}

// isSmall reports whether the exact number is a valid one.
func isSmall(x *big.Rat) bool {
	_, ok := rationalOf(x)
	return ok
}

// plainRows returns the exact rows of the system with the right side as their
// last element; false if the arguments are no system.
func plainRows(matrix [][]impl.Rational, right []impl.Rational) ([][]*big.Rat, bool) {
	if len(right) > systemLimit || len(matrix) != len(right) {
		return nil, false
	}
	rows := make([][]*big.Rat, len(right))
	for i := range rows {
		if len(matrix[i]) != len(right) {
			return nil, false
		}
		row, ok := exactValues(append(slices.Clone(matrix[i]), right[i]))
		if !ok {
			return nil, false
		}
		rows[i] = row
	}
	return rows, true
}

// plainEliminate clears column p outside of row p; false if no row can be row p
// or a number on the way is too large.
func plainEliminate(rows [][]*big.Rat, p int) bool {
	pivot := p
	for pivot < len(rows) && rows[pivot][p].Sign() == 0 {
		pivot++
	}
	if pivot == len(rows) {
		return false
	}
	rows[p], rows[pivot] = rows[pivot], rows[p]
	for i := range rows {
		if i == p || rows[i][p].Sign() == 0 {
			continue
		}
		f := new(big.Rat).Quo(rows[i][p], rows[p][p])
		for k := p; k <= len(rows); k++ {
			product := new(big.Rat).Mul(f, rows[p][k])
			rows[i][k] = new(big.Rat).Sub(rows[i][k], product)
			if !isSmall(f) || !isSmall(product) || !isSmall(rows[i][k]) {
				return false
			}
		}
	}
	return true
}

// plainSolve is the test's own result of SolveLinearSystem.
func plainSolve(matrix [][]impl.Rational, right []impl.Rational) ([]impl.Rational, bool) {
	rows, ok := plainRows(matrix, right)
	if !ok {
		return nil, false
	}
	for p := range rows {
		if !plainEliminate(rows, p) {
			return nil, false
		}
	}
	var solution []impl.Rational
	for i, row := range rows {
		x, ok := rationalOf(new(big.Rat).Quo(row[len(rows)], row[i]))
		if !ok {
			return nil, false
		}
		solution = append(solution, x)
	}
	return solution, true
}

// determinant expands the square of the first columns by its first column.
func determinant(rows [][]*big.Rat) *big.Rat {
	sum := new(big.Rat)
	if len(rows) == 0 {
		return sum.SetInt64(1)
	}
	for i, row := range rows {
		if row[0].Sign() == 0 {
			continue
		}
		var minor [][]*big.Rat
		for k, other := range rows {
			if k != i {
				minor = append(minor, other[1:])
			}
		}
		term := new(big.Rat).Mul(row[0], determinant(minor))
		if i%2 != 0 {
			term.Neg(term)
		}
		sum.Add(sum, term)
	}
	return sum
}

// cramerSolution returns the unique solution by Cramer's rule, without
// elimination and of any size; false if there is none.
func cramerSolution(rows [][]*big.Rat) ([]*big.Rat, bool) {
	all := determinant(rows)
	if all.Sign() == 0 {
		return nil, false
	}
	solution := make([]*big.Rat, len(rows))
	for column := range rows {
		replaced := make([][]*big.Rat, len(rows))
		for i, row := range rows {
			replaced[i] = slices.Clone(row)
			replaced[i][column] = row[len(rows)]
		}
		solution[column] = new(big.Rat).Quo(determinant(replaced), all)
	}
	return solution, true
}

// satisfies reports whether the exact products of the rows and x are the right
// sides.
func satisfies(rows [][]*big.Rat, x []*big.Rat) bool {
	for _, row := range rows {
		sum := new(big.Rat)
		for k := range x {
			sum.Add(sum, new(big.Rat).Mul(row[k], x[k]))
		}
		if sum.Cmp(row[len(row)-1]) != 0 {
			return false
		}
	}
	return true
}

type systemKind int

const (
	notSystem systemKind = iota
	notUnique
	tooLarge
	solved
)

// checkSolve compares with the test's own elimination and with Cramer's rule,
// and reports what the arguments are.
func checkSolve(t *testing.T, matrix [][]impl.Rational, right []impl.Rational) systemKind {
	t.Helper()
	call := fmt.Sprintf("SolveLinearSystem(%s, %s)", describeMatrix(matrix), describeRationals(right))
	want, wantOk := plainSolve(matrix, right)
	got, ok := impl.SolveLinearSystem(matrix, right)
	if !sameRationals(got, want) || ok != wantOk {
		t.Fatalf("%s = %s, %v, want %s, %v", call, describeRationals(got), ok, describeRationals(want), wantOk)
	}
	rows, isSystem := plainRows(matrix, right)
	if !isSystem {
		return notSystem
	}
	exact, isUnique := cramerSolution(rows)
	if !ok && !isUnique {
		return notUnique
	}
	if !ok {
		return tooLarge
	}
	x, _ := exactValues(got)
	if !isUnique || !satisfies(rows, x) || !slices.EqualFunc(x, exact, func(a, b *big.Rat) bool { return a.Cmp(b) == 0 }) {
		t.Fatalf("%s = %v, which is not the unique solution", call, got)
	}
	return solved
}

// solveCases lists systems and their solution; none if there is no result.
var solveCases = []struct{ matrix, right, solution string }{
	{"0 2;1 1", "3 5", "7/2 3/2"},
	{"2", "3", "3/2"},
	{"-2", "3", "-3/2"},
	{"2/3", "-4/9", "-2/3"},
	{"7", "0", "0"},
	{"1 0;0 1", "5 7", "5 7"},
	{"0 1;1 0", "5 7", "7 5"},
	{"0 -1;1 0", "5 7", "7 -5"},
	{"1 1;1 -1", "10 4", "7 3"},
	{"1 2;3 4", "5 6", "-4 9/2"},
	{"1/2 1/3;1/4 1/5", "1 1", "-8 15"},
	{"1 1;1 1", "2 2", "none"},
	{"1 1;1 1", "2 3", "none"},
	{"1 2;2 4", "0 0", "none"},
	{"1/2 1/3;3 2", "1 6", "none"},
	{"0 1;0 2", "1 2", "none"},
	{"0 1;0 2", "1 1", "none"},
	{"1 1;1 1;1 1", "2 2 2", "none"},
	{"2 1 -1;-3 -1 2;-2 1 2", "8 -11 -3", "2 3 -1"},
	{"0 0 1;0 1 0;1 0 0", "1 2 3", "3 2 1"},
	{"0 1 0;0 0 1;1 0 0", "1 2 3", "3 1 2"},
	{"1 1 0;1 1 1;0 1 1", "2 3 4", "-1 3 1"},
	{"1 1 0;0 1 1;1 0 1", "1 1 1", "1/2 1/2 1/2"},
	{"1 1 1;1 2 4;1 3 9", "6 17 34", "1 2 3"},
	{"1 2 3;4 5 6;7 8 9", "1 1 1", "none"},
	{"1 2 3;4 5 6;7 8 9", "1 1 2", "none"},
	{"1 2 3;4 5 6;5 7 9", "1 1 2", "none"},
	{"1 1/2 1/3;1/2 1/3 1/4;1/3 1/4 1/5", "1 1 1", "3 -24 30"},
	{"1 1 1 1;0 1 1 1;0 0 1 1;0 0 0 1", "4 3 2 1", "1 1 1 1"},
	{"1 0 0 0;1 1 0 0;1 1 1 0;1 1 1 1", "1 2 3 4", "1 1 1 1"},
	{"0 1 1 1;1 0 1 1;1 1 0 1;1 1 1 0", "1 1 1 1", "1/3 1/3 1/3 1/3"},
	{"0 1 1 1 1;1 0 1 1 1;1 1 0 1 1;1 1 1 0 1;1 1 1 1 0", "4 3 2 1 0", "-3/2 -1/2 1/2 3/2 5/2"},
	{"0 1 1 1 1 1;1 0 1 1 1 1;1 1 0 1 1 1;1 1 1 0 1 1;1 1 1 1 0 1;1 1 1 1 1 0", "5 5 5 5 5 5", "1 1 1 1 1 1"},
	{"1000000000", "1000000000", "1"},
	{"1000000000", "-1", "-1/1000000000"},
	{"1/1000000000", "-1", "-1000000000"},
	{"1000000000 0;0 1/1000000000", "1 1", "1/1000000000 1000000000"},
}

func TestSolveLinearSystem(t *testing.T) {
	for _, c := range solveCases {
		matrix, right := parsedMatrix(t, c.matrix), parsedRationals(t, c.right)
		var want []impl.Rational
		if c.solution != "none" {
			want = parsedRationals(t, c.solution)
		}
		if got, ok := impl.SolveLinearSystem(matrix, right); !sameRationals(got, want) || ok != (c.solution != "none") {
			t.Errorf("SolveLinearSystem(%s, %s) = %v, %v, want %s", c.matrix, c.right, got, ok, c.solution)
		}
		checkSolve(t, matrix, right)
	}
}

// TestSystemWithoutElements has no rows: then the solution has no elements.
func TestSystemWithoutElements(t *testing.T) {
	for _, matrix := range [][][]impl.Rational{nil, {}} {
		for _, right := range [][]impl.Rational{nil, {}} {
			if got, ok := impl.SolveLinearSystem(matrix, right); len(got) != 0 || !ok {
				t.Errorf("SolveLinearSystem(%v, %v) = %v, %v", matrix, right, got, ok)
			}
		}
	}
}

// intermediateCases lists systems with a unique solution. Each one that is not
// solved has a number on the way that is too large.
var intermediateCases = []struct {
	why, matrix, right string
	want               systemKind
}{
	{"f", "1/2 0;1000000000 1", "0 0", tooLarge},
	{"f", "1/2 0;500000001 1", "0 0", tooLarge},
	{"f", "1/2 0;500000000 1", "0 0", solved},
	{"f", "1000000000 0;1/2 1", "0 0", tooLarge},
	{"f", "1000000000 0;1 1", "0 0", solved},
	{"f above the diagonal", "1 1/2;0 1000000000", "0 0", tooLarge},
	{"f above the diagonal", "1 1000000000;0 1/2", "0 0", tooLarge},
	{"f above the diagonal", "1 1000000000;0 1", "0 0", solved},
	{"product", "1 40000;40000 1000000000", "0 0", tooLarge},
	{"product", "1 25000;40000 999999999", "0 0", solved},
	{"product", "1 1/40000;1/40000 1", "0 0", tooLarge},
	{"product", "1 1/25000;1/40000 1", "0 0", solved},
	{"product with the right side", "1 0;40000 1", "40000 1000000000", tooLarge},
	{"product with the right side", "1 0;40000 1", "25000 1000000000", solved},
	{"product with the right side above the diagonal", "1 40000;0 1", "1000000000 40000", tooLarge},
	{"product with the right side above the diagonal", "1 40000;0 1", "1000000000 25000", solved},
	{"difference", "1 1;1 -1000000000", "0 0", tooLarge},
	{"difference", "1 1;1 -999999999", "0 0", solved},
	{"difference", "1 1/31623;1 1/31624", "0 0", tooLarge},
	{"difference", "1 1/31622;1 1/31623", "0 0", solved},
	{"difference with the right side", "1 0;1 7", "1 -1000000000", tooLarge},
	{"difference with the right side", "1 0;1 7", "8 -999999992", solved},
	{"difference with the right side", "1 0;1 1/31623", "1/31623 1/31624", tooLarge},
	{"quotient", "1/1000000000", "2", tooLarge},
	{"quotient", "1000000000", "1/2", tooLarge},
	{"quotient", "1/1000000000 0;0 1", "2 1", tooLarge},
	{"quotient", "1 0;0 1/1000000000", "1 2", tooLarge},
	{"quotient", "1 0;0 1/1000000000", "1 1", solved},
	{"the first row with a non-zero element", "1 1;40000 3", "0 40000", solved},
	{"the first row with a non-zero element", "40000 3;1 1", "40000 0", tooLarge},
	{"the first row with a non-zero element", "0 0 1;1 1 0;40000 3 0", "0 0 40000", solved},
	{"the first row with a non-zero element", "0 0 1;40000 3 0;1 1 0", "0 40000 0", tooLarge},
	{"also the rows above the diagonal at once", "-1 40000 40000;0 1 1;1 0 -1", "1 1 1", solved},
	{"also the rows above the diagonal at once", "3 1000000000;1 1", "1 0", tooLarge},
	{"the row is not divided before", "40000 1;1 1", "1 0", solved},
	{"the row is not divided before", "0 1;2 40000", "40000 2", tooLarge},
	{"f after two exchanges", "0 1 0;0 0 1/2;1 0 1000000000", "0 0 0", tooLarge},
	{"f after two exchanges", "0 1 0;0 0 1/2;1 0 500000000", "0 0 0", solved},
}

func TestIntermediateNumbers(t *testing.T) {
	for _, c := range intermediateCases {
		if kind := checkSolve(t, parsedMatrix(t, c.matrix), parsedRationals(t, c.right)); kind != c.want {
			t.Errorf("%s: the system %s = %s is of the kind %d", c.why, c.matrix, c.right, kind)
		}
	}
}

// TestZeroRow sets one row of a solvable system to zero: whatever the right
// side, there is no unique solution. The same holds for a column.
func TestZeroRow(t *testing.T) {
	random := rand.New(rand.NewSource(31))
	for size := 1; size <= systemLimit; size++ {
		for _, matrix := range [][][]impl.Rational{unitMatrix(size), triangularMatrix(random, size)} {
			for zero := range size {
				row, column := cloneOfMatrix(matrix), cloneOfMatrix(matrix)
				row[zero] = wholeNumbers(make([]int, size)...)
				for i := range column {
					column[i][zero] = rational(0, 1)
				}
				for _, right := range [][]impl.Rational{matrix[zero], unitMatrix(size)[zero], slices.Repeat([]impl.Rational{rational(1, 1)}, size), wholeNumbers(make([]int, size)...)} {
					for _, m := range [][][]impl.Rational{row, column} {
						if got, ok := impl.SolveLinearSystem(m, right); len(got) != 0 || ok {
							t.Errorf("SolveLinearSystem(%s, %v) = %v, %v", describeMatrix(m), right, got, ok)
						}
					}
					if kind := checkSolve(t, matrix, right); kind != solved {
						t.Errorf("the system %s = %v is of the kind %d", describeMatrix(matrix), right, kind)
					}
				}
			}
		}
	}
}

// triangularMatrix has a determinant of 1 or -1: its rows are those of a
// triangle with 1 on the diagonal, in another order.
func triangularMatrix(random *rand.Rand, size int) [][]impl.Rational {
	matrix := unitMatrix(size)
	for i := range matrix {
		for k := range i {
			matrix[i][k].Num = random.Intn(5) - 2
		}
	}
	random.Shuffle(size, func(i, k int) { matrix[i], matrix[k] = matrix[k], matrix[i] })
	return matrix
}

// TestZeroRowInProducts: a zero row has the product 0 with each vector, and a
// transposed one is a zero column.
func TestZeroRowInProducts(t *testing.T) {
	zero := wholeNumbers(0, 0, 0)
	for _, vector := range [][]impl.Rational{wholeNumbers(1, 2, 3), zero, parsedRationals(t, "1/2 -1000000000 1/1000000000")} {
		if got, ok := impl.DotProduct(zero, vector); got != rational(0, 1) || !ok {
			t.Errorf("DotProduct(%v, %v) = %v, %v", zero, vector, got, ok)
		}
		matrix := [][]impl.Rational{zero, wholeNumbers(1, 0, 0), zero}
		want := []impl.Rational{rational(0, 1), vector[0], rational(0, 1)}
		if got, ok := impl.MatrixVectorProduct(matrix, vector); !sameRationals(got, want) || !ok {
			t.Errorf("MatrixVectorProduct(%v, %v) = %v, %v", matrix, vector, got, ok)
		}
	}
	if got, ok := impl.Transpose([][]impl.Rational{wholeNumbers(1, 2), wholeNumbers(0, 0)}); !sameMatrices(got, [][]impl.Rational{wholeNumbers(1, 0), wholeNumbers(2, 0)}) || !ok {
		t.Errorf("the transposed zero row is %v, %v", got, ok)
	}
}

// listsOf returns all lists of that length.
func listsOf(numbers []impl.Rational, length int) [][]impl.Rational {
	all := [][]impl.Rational{nil}
	for range length {
		var longer [][]impl.Rational
		for _, list := range all {
			for _, r := range numbers {
				longer = append(longer, append(slices.Clone(list), r))
			}
		}
		all = longer
	}
	return all
}

// squareOf splits the list into rows.
func squareOf(list []impl.Rational, size int) [][]impl.Rational {
	return slices.Collect(slices.Chunk(list, size))
}

func TestSolveAllSmallSystems(t *testing.T) {
	kinds := map[systemKind]int{}
	for _, list := range listsOf(parsedRationals(t, "0 1 -1 1/2 1000000000"), 4) {
		for _, right := range listsOf(parsedRationals(t, "0 1 -2 1/1000000000"), 2) {
			kinds[checkSolve(t, squareOf(list, 2), right)]++
		}
	}
	for _, list := range listsOf(wholeNumbers(0, 1, -1), 9) {
		for _, s := range []string{"1 2 -3", "0 0 1"} {
			kinds[checkSolve(t, squareOf(list, 3), parsedRationals(t, s))]++
		}
	}
	if kinds[notSystem] != 0 || kinds[notUnique] < 1000 || kinds[tooLarge] < 1000 || kinds[solved] < 1000 {
		t.Errorf("the systems are of the kinds %v", kinds)
	}
}

// TestSolvePermutations has one element in each row and column, so that each
// order of exchanges is needed.
func TestSolvePermutations(t *testing.T) {
	numbers := parsedRationals(t, "1/7 -2 3/5 11 -13/4 100000000")
	var permute func(matrix [][]impl.Rational, order []int)
	permute = func(matrix [][]impl.Rational, order []int) {
		if len(order) == len(matrix) {
			right, want := make([]impl.Rational, len(matrix)), make([]impl.Rational, len(matrix))
			for i, column := range order {
				right[i], _ = rationalOf(new(big.Rat).Mul(exactValue(matrix[i][column]), big.NewRat(int64(i+1), 4)))
				want[column] = rationalFrom(i+1, 4)
			}
			if got, ok := impl.SolveLinearSystem(matrix, right); !sameRationals(got, want) || !ok {
				t.Fatalf("SolveLinearSystem(%s, %v) = %v, %v, want %v", describeMatrix(matrix), right, got, ok, want)
			}
			return
		}
		for column := range matrix {
			if !slices.Contains(order, column) {
				matrix[len(order)][column] = numbers[len(order)]
				permute(matrix, append(slices.Clone(order), column))
				matrix[len(order)][column] = rational(0, 1)
			}
		}
	}
	for size := 1; size <= systemLimit; size++ {
		matrix := unitMatrix(size)
		for i := range matrix {
			matrix[i][i].Num = 0
		}
		permute(matrix, nil)
	}
}

// rationalFrom reduces num/den; the result is valid for small numbers.
func rationalFrom(num, den int) impl.Rational {
	r, _ := rationalOf(big.NewRat(int64(num), int64(den)))
	return r
}

// randomNumbers returns fractions of numbers up to limit, some of them 0, and
// with the chance of one in each large, also large numbers.
func randomNumbers(random *rand.Rand, count, limit, large int) []impl.Rational {
	list := make([]impl.Rational, count)
	for i := range list {
		switch {
		case random.Intn(4) == 0:
			list[i] = rational(0, 1)
		case random.Intn(large) == 0:
			sign := 1 - 2*random.Intn(2)
			list[i] = rationalFrom(sign*(1+random.Intn(rationalLimit)), []int{1, 1, 2, 999, rationalLimit}[random.Intn(5)])
		default:
			list[i] = rationalFrom(random.Intn(2*limit+1)-limit, 1+random.Intn(limit))
		}
	}
	return list
}

func TestSolveRandomSystems(t *testing.T) {
	random := rand.New(rand.NewSource(32))
	for size := 1; size <= systemLimit; size++ {
		kinds := map[systemKind]int{}
		for range 6000 / (size * size) {
			for _, limit := range []int{1, 2, 5, 40} {
				for _, large := range []int{4, 1000} {
					matrix := squareOf(randomNumbers(random, size*size, limit, large), size)
					if random.Intn(8) == 0 {
						matrix[random.Intn(size)] = slices.Clone(matrix[random.Intn(size)])
					}
					kinds[checkSolve(t, matrix, randomNumbers(random, size, limit, large))]++
				}
			}
		}
		if kinds[notSystem] != 0 || kinds[notUnique] < 100 || kinds[tooLarge] < 100 || kinds[solved] < 100 {
			t.Errorf("the systems of size %d are of the kinds %v", size, kinds)
		}
	}
}

// TestSolveLargeNumbers uses the valid numbers with the largest parts.
func TestSolveLargeNumbers(t *testing.T) {
	valid := validRationals()
	for _, a := range valid {
		for _, b := range valid {
			checkSolve(t, [][]impl.Rational{{a}}, []impl.Rational{b})
		}
	}
	random := rand.New(rand.NewSource(33))
	kinds := map[systemKind]int{}
	pick := func(count int) []impl.Rational {
		list := make([]impl.Rational, count)
		for i := range list {
			list[i] = [2]impl.Rational{rational(random.Intn(3)-1, 1), valid[random.Intn(len(valid))]}[random.Intn(2)]
		}
		return list
	}
	for range 10000 {
		size := 2 + random.Intn(3)
		kinds[checkSolve(t, squareOf(pick(size*size), size), pick(size))]++
	}
	if kinds[notSystem] != 0 || kinds[notUnique] < 100 || kinds[tooLarge] < 1000 || kinds[solved] < 100 {
		t.Errorf("the systems are of the kinds %v", kinds)
	}
}

// TestSolutionsSatisfyTheirSystems chooses the solution first.
func TestSolutionsSatisfyTheirSystems(t *testing.T) {
	random := rand.New(rand.NewSource(34))
	for size := 1; size <= systemLimit; size++ {
		for range 300 {
			matrix, x := triangularMatrix(random, size), randomNumbers(random, size, 6, 1000000)
			right, ok := impl.MatrixVectorProduct(matrix, x)
			if !ok {
				t.Fatalf("MatrixVectorProduct(%s, %v) = %v, %v", describeMatrix(matrix), x, right, ok)
			}
			if got, ok := impl.SolveLinearSystem(matrix, right); !sameRationals(got, x) || !ok {
				t.Fatalf("SolveLinearSystem(%s, %v) = %v, %v, want %v", describeMatrix(matrix), right, got, ok, x)
			}
		}
	}
}

func checkNoSolution(t *testing.T, matrix [][]impl.Rational, right []impl.Rational) {
	t.Helper()
	if got, ok := impl.SolveLinearSystem(matrix, right); len(got) != 0 || ok {
		t.Errorf("SolveLinearSystem(%s, %s) = %s, %v", describeMatrix(matrix), describeRationals(right), describeRationals(got), ok)
	}
}

func TestSystemSizes(t *testing.T) {
	for size := range 20 {
		matrix, right := unitMatrix(size), slices.Repeat([]impl.Rational{{Num: 1, Den: 3}}, size)
		if size > systemLimit {
			checkNoSolution(t, matrix, right)
		} else if got, ok := impl.SolveLinearSystem(matrix, right); !sameRationals(got, right) || !ok {
			t.Errorf("SolveLinearSystem(%s, %v) = %v, %v", describeMatrix(matrix), right, got, ok)
		}
		for other := range 20 {
			if other == size {
				continue
			}
			checkNoSolution(t, unitMatrix(other), right)
			// One argument alone has another size.
			checkNoSolution(t, matrix, slices.Repeat([]impl.Rational{{Num: 1, Den: 3}}, other))
			longer := slices.Repeat([][]impl.Rational{slices.Repeat([]impl.Rational{{Num: 1, Den: 3}}, other)}, size)
			if size > 0 {
				checkNoSolution(t, longer, right)
			}
		}
	}
	const count = 200000
	long := slices.Repeat([]impl.Rational{{Num: 1, Den: 1}}, count)
	checkNoSolution(t, unitMatrix(6), long)
	checkNoSolution(t, nil, long)
	checkNoSolution(t, [][]impl.Rational{long}, long[:1])
	checkNoSolution(t, slices.Repeat([][]impl.Rational{long}, count), long)
	checkNoSolution(t, slices.Repeat([][]impl.Rational{long[:1]}, count), long[:1])
	checkNoSolution(t, make([][]impl.Rational, count), nil)
}

// TestRaggedSystems makes one row longer or shorter; the other rows alone would
// be solvable.
func TestRaggedSystems(t *testing.T) {
	for size := 1; size <= systemLimit; size++ {
		right := slices.Repeat([]impl.Rational{{Num: 2, Den: 1}}, size)
		for i := range size {
			for _, length := range []int{0, 1, size - 1, size + 1, size + 2, 100} {
				if length == size {
					continue
				}
				matrix := unitMatrix(size)
				matrix[i] = append(matrix[i], wholeNumbers(make([]int, 100)...)...)[:length]
				checkNoSolution(t, matrix, right)
			}
			checkNoSolution(t, slices.Delete(unitMatrix(size), i, i+1), right)
			checkNoSolution(t, unitMatrix(size), right[1:])
			checkNoSolution(t, slices.Insert(unitMatrix(size), i, unitMatrix(size)[0]), right)
			checkNoSolution(t, slices.Insert(unitMatrix(size), i, nil), right)
		}
	}
}

// TestSystemsWithInvalidNumbers puts an invalid number at each place, also where
// the elimination might not need it.
func TestSystemsWithInvalidNumbers(t *testing.T) {
	for size := 1; size <= systemLimit; size++ {
		for _, r := range invalidRationals() {
			for i := range size {
				for k := range size {
					matrix := unitMatrix(size)
					matrix[i][k] = r
					checkNoSolution(t, matrix, wholeNumbers(make([]int, size)...))
				}
				right := wholeNumbers(make([]int, size)...)
				right[i] = r
				checkNoSolution(t, unitMatrix(size), right)
				checkNoSolution(t, squareOf(make([]impl.Rational, size*size), size), right)
			}
		}
	}
}

// plainDot is the test's own result of DotProduct.
func plainDot(a, b []impl.Rational) (impl.Rational, bool) {
	x, isValid := exactValues(a)
	y, isOtherValid := exactValues(b)
	if len(a) != len(b) || !isValid || !isOtherValid {
		return impl.Rational{}, false
	}
	sum := new(big.Rat)
	for i := range x {
		product := new(big.Rat).Mul(x[i], y[i])
		sum.Add(sum, product)
		if !isSmall(product) || !isSmall(sum) {
			return impl.Rational{}, false
		}
	}
	return rationalOf(sum)
}

// plainProduct is the test's own result of MatrixVectorProduct.
func plainProduct(matrix [][]impl.Rational, vector []impl.Rational) ([]impl.Rational, bool) {
	var products []impl.Rational
	for _, row := range matrix {
		product, ok := plainDot(row, vector)
		if !ok {
			return nil, false
		}
		products = append(products, product)
	}
	return products, true
}

func checkDot(t *testing.T, a, b []impl.Rational) bool {
	t.Helper()
	want, wantOk := plainDot(a, b)
	if got, ok := impl.DotProduct(a, b); got != want || ok != wantOk {
		t.Fatalf("DotProduct(%s, %s) = %v, %v, want %v, %v", describeRationals(a), describeRationals(b), got, ok, want, wantOk)
	}
	return wantOk
}

func checkProduct(t *testing.T, matrix [][]impl.Rational, vector []impl.Rational) bool {
	t.Helper()
	want, wantOk := plainProduct(matrix, vector)
	if got, ok := impl.MatrixVectorProduct(matrix, vector); !sameRationals(got, want) || ok != wantOk {
		t.Fatalf("MatrixVectorProduct(%s, %s) = %s, %v, want %s, %v", describeMatrix(matrix), describeRationals(vector), describeRationals(got), ok, describeRationals(want), wantOk)
	}
	return wantOk
}

// dotCases lists products of two lists; none if there is no product.
var dotCases = []struct{ a, b, product string }{
	{"", "", "0"},
	{"3", "5", "15"},
	{"3 5", "7/2 3/2", "18"},
	{"1 2 3", "4 5 6", "32"},
	{"1 2 3", "0 0 0", "0"},
	{"1/2 -1/3", "2/3 3/4", "1/12"},
	{"1 -1", "1/2 1/2", "0"},
	{"-2/3", "-3/2", "1"},
	{"0 0 0", "1 2 3", "0"},
	{"1 0 0", "5 6 7", "5"},
	{"0 0 1", "5 6 7", "7"},
	{"1 2 3 4 5 6 7", "7 6 5 4 3 2 1", "84"},
	{"1 2", "3", "none"},
	{"3", "1 2", "none"},
	{"", "0", "none"},
	{"0", "", "none"},
	{"25000", "40000", "1000000000"},
	{"25000", "-40000", "-1000000000"},
	{"1/25000", "1/40000", "1/1000000000"},
	{"31623", "31623", "none"},
	{"1/31623", "1/31623", "none"},
	{"31623 31623", "31623 -31623", "none"},
	{"25000 1", "40000 1", "none"},
	{"25000 1 1", "40000 1 -1", "none"},
	{"25000 1 1", "40000 -1 1", "1000000000"},
	{"1 25000 25000", "1 40000 -40000", "none"},
	{"-1 25000 1", "1 40000 1", "1000000000"},
	{"-25000 -1 25000", "40000 1 40000", "none"},
	{"1 1", "1/31623 1/31624", "none"},
	{"1 1 1", "1/31623 1/31624 -1/31624", "none"},
	{"1 1 1", "1/31624 -1/31624 1/31623", "1/31623"},
	{"500000000 1/2", "1 1", "none"},
	{"500000000 1/2", "2 0", "1000000000"},
	{"1000000000 1000000000 1000000000", "1 -1 1/1000000000", "1"},
}

func TestDotProduct(t *testing.T) {
	for _, c := range dotCases {
		a, b, want := parsedRationals(t, c.a), parsedRationals(t, c.b), impl.Rational{}
		if c.product != "none" {
			want = parsedRationals(t, c.product)[0]
		}
		if got, ok := impl.DotProduct(a, b); got != want || ok != (c.product != "none") {
			t.Errorf("DotProduct(%s, %s) = %v, %v, want %s", c.a, c.b, got, ok, c.product)
		}
		checkDot(t, a, b)
		checkDot(t, b, a)
	}
	for _, c := range sumCases {
		list := parsedRationals(t, c.numbers)
		checkDot(t, list, slices.Repeat([]impl.Rational{{Num: 1, Den: 1}}, len(list)))
		checkDot(t, list, slices.Repeat([]impl.Rational{{Num: -1, Den: 1}}, len(list)))
	}
}

func TestDotProductsAreExact(t *testing.T) {
	valid := validRationals()
	for _, a := range valid {
		for _, b := range valid {
			checkDot(t, []impl.Rational{a}, []impl.Rational{b})
		}
	}
	random := rand.New(rand.NewSource(35))
	products := 0
	for range 30000 {
		count, other := random.Intn(8), 0
		if random.Intn(20) == 0 {
			other = random.Intn(3)
		}
		limit := []int{1, 4, 30}[random.Intn(3)]
		if checkDot(t, randomNumbers(random, count, limit, 9), randomNumbers(random, count+other, limit, 9)) {
			products++
		}
	}
	if products < 8000 || products > 25000 {
		t.Errorf("%d of the lists have a product", products)
	}
}

// TestProductsOfInvalidNumbers puts an invalid number at each place, also where
// the other factor is 0 or invalid too.
func TestProductsOfInvalidNumbers(t *testing.T) {
	for _, r := range invalidRationals() {
		for count := 1; count <= 4; count++ {
			for i := range count {
				for _, n := range []int{0, 1, -7} {
					list, wrong := slices.Repeat([]impl.Rational{rational(n, 1)}, count), slices.Repeat([]impl.Rational{{Num: 1, Den: 2}}, count)
					wrong[i] = r
					for _, c := range [][2][]impl.Rational{{list, wrong}, {wrong, list}, {wrong, wrong}} {
						if got, ok := impl.DotProduct(c[0], c[1]); got != (impl.Rational{}) || ok {
							t.Errorf("DotProduct(%v, %v) = %v, %v", c[0], c[1], got, ok)
						}
					}
					for k := range 3 {
						matrix := [][]impl.Rational{list, list, list}
						checkProduct(t, matrix, list)
						matrix[k] = wrong
						if got, ok := impl.MatrixVectorProduct(matrix, list); len(got) != 0 || ok {
							t.Errorf("MatrixVectorProduct(%v, %v) = %v, %v", matrix, list, got, ok)
						}
						if got, ok := impl.MatrixVectorProduct(matrix[:1], wrong); len(got) != 0 || ok {
							t.Errorf("MatrixVectorProduct(%v, %v) = %v, %v", matrix[:1], wrong, got, ok)
						}
					}
				}
			}
		}
	}
}

// productCases lists products of a matrix and a vector; none if there is no
// product.
var productCases = []struct{ matrix, vector, product string }{
	{"0 2;1 1", "7/2 3/2", "3 5"},
	{"1 0;0 1", "5 7", "5 7"},
	{"0 1;1 0", "5 7", "7 5"},
	{"1 2;3 4;5 6", "1 -1", "-1 -1 -1"},
	{"1 2 3", "1 1 1", "6"},
	{"2;-3;1/2", "4", "8 -12 2"},
	{"0 0;1 1", "2 3", "0 5"},
	{"1 1;0 0", "2 3", "5 0"},
	{"", "", ""},
	{"", "1 2", ""},
	{"1 2;3", "1 1", "none"},
	{"3;1 2", "1 1", "none"},
	{"1 2;3 4", "1", "none"},
	{"1 2;3 4", "1 1 1", "none"},
	{"1 2;3 4", "", "none"},
	{"1 2 3;1 2;1 2", "1 1", "none"},
	{"1 2;1 2;1 2 3", "1 1", "none"},
	{"25000 0;25000 1", "40000 1", "none"},
	{"25000 1;25000 0", "40000 1", "none"},
	{"25000 0;25000 -1", "40000 1", "1000000000 999999999"},
	{"-1 25000;1 -25000", "1 40000", "999999999 -999999999"},
	{"25000 1 -1;1 1 1", "40000 1 1", "none"},
}

func TestMatrixVectorProduct(t *testing.T) {
	for _, c := range productCases {
		matrix, vector := parsedMatrix(t, c.matrix), parsedRationals(t, c.vector)
		var want []impl.Rational
		if c.product != "none" {
			want = parsedRationals(t, c.product)
		}
		if got, ok := impl.MatrixVectorProduct(matrix, vector); !sameRationals(got, want) || ok != (c.product != "none") {
			t.Errorf("MatrixVectorProduct(%s, %s) = %v, %v, want %s", c.matrix, c.vector, got, ok, c.product)
		}
		checkProduct(t, matrix, vector)
	}
}

// TestProductsWithoutElements: only a row can fail, so that a matrix without
// rows has a product with any vector.
func TestProductsWithoutElements(t *testing.T) {
	for _, vector := range append(sampleLists(), slices.Repeat([]impl.Rational{{}}, 1000)) {
		if got, ok := impl.MatrixVectorProduct(nil, vector); len(got) != 0 || !ok {
			t.Errorf("MatrixVectorProduct(nil, %s) = %v, %v", describeRationals(vector), got, ok)
		}
	}
	for rows := range 5 {
		want := slices.Repeat([]impl.Rational{{Num: 0, Den: 1}}, rows)
		if got, ok := impl.MatrixVectorProduct(make([][]impl.Rational, rows), nil); !sameRationals(got, want) || !ok {
			t.Errorf("MatrixVectorProduct of %d empty rows = %v, %v", rows, got, ok)
		}
	}
}

// randomMatrix has rows of the same length.
func randomMatrix(random *rand.Rand, rows, columns, limit, large int) [][]impl.Rational {
	matrix := make([][]impl.Rational, rows)
	for i := range matrix {
		matrix[i] = randomNumbers(random, columns, limit, large)
	}
	return matrix
}

func TestMatrixVectorProductsAreExact(t *testing.T) {
	random := rand.New(rand.NewSource(36))
	products := 0
	for range 6000 {
		rows, columns := random.Intn(8), random.Intn(8)
		matrix := randomMatrix(random, rows, columns, 4, 60)
		if rows > 0 && random.Intn(20) == 0 {
			matrix[random.Intn(rows)] = randomNumbers(random, random.Intn(8), 4, 60)
		}
		if checkProduct(t, matrix, randomNumbers(random, columns, 4, 60)) {
			products++
		}
	}
	if products < 2000 || products > 5500 {
		t.Errorf("%d of the matrices have a product", products)
	}
}

// plainTranspose is the test's own result of Transpose.
func plainTranspose(matrix [][]impl.Rational) ([][]impl.Rational, bool) {
	if len(matrix) == 0 {
		return nil, false
	}
	transposed := make([][]impl.Rational, len(matrix[0]))
	for _, row := range matrix {
		if _, ok := exactValues(row); !ok || len(row) != len(matrix[0]) {
			return nil, false
		}
		for k, r := range row {
			transposed[k] = append(transposed[k], r)
		}
	}
	return transposed, true
}

func checkTranspose(t *testing.T, matrix [][]impl.Rational) {
	t.Helper()
	want, wantOk := plainTranspose(matrix)
	got, ok := impl.Transpose(matrix)
	if !sameMatrices(got, want) || ok != wantOk {
		t.Fatalf("Transpose(%s) = %s, %v, want %s, %v", describeMatrix(matrix), describeMatrix(got), ok, describeMatrix(want), wantOk)
	}
	if len(got) == 0 {
		return
	}
	if back, ok := impl.Transpose(got); !sameMatrices(back, matrix) || !ok {
		t.Fatalf("Transpose twice (%s) = %s, %v", describeMatrix(matrix), describeMatrix(back), ok)
	}
}

// transposeCases lists matrices and the transposed ones; none if there is none.
var transposeCases = []struct{ matrix, transposed string }{
	{"7", "7"},
	{"1 2", "1;2"},
	{"1;2", "1 2"},
	{"1 2;3 4", "1 3;2 4"},
	{"1 2 3;4 5 6", "1 4;2 5;3 6"},
	{"1/2 -1/3;0 1000000000;1/1000000000 -7", "1/2 0 1/1000000000;-1/3 1000000000 -7"},
	{"0 0;1 2", "0 1;0 2"},
	{"0 0 0", "0;0;0"},
	{"1 1;1 1", "1 1;1 1"},
	{"1 2 3 4 5 6 7 8", "1;2;3;4;5;6;7;8"},
	{"", "none"},
	{"1 2;3", "none"},
	{"3;1 2", "none"},
	{"1 2;3 4;5", "none"},
	{"1 2;3 4 5;6 7", "none"},
	{"1;", "none"},
	{";1", "none"},
	{";", ""},
	{";;;", ""},
}

func TestTranspose(t *testing.T) {
	for _, c := range transposeCases {
		matrix := parsedMatrix(t, c.matrix)
		var want [][]impl.Rational
		if c.transposed != "none" {
			want = parsedMatrix(t, c.transposed)
		}
		if got, ok := impl.Transpose(matrix); !sameMatrices(got, want) || ok != (c.transposed != "none") {
			t.Errorf("Transpose(%s) = %v, %v, want %s", c.matrix, got, ok, c.transposed)
		}
		checkTranspose(t, matrix)
	}
	if got, ok := impl.Transpose([][]impl.Rational{{}}); len(got) != 0 || !ok {
		t.Errorf("Transpose of a row without elements = %v, %v", got, ok)
	}
	if got, ok := impl.Transpose([][]impl.Rational{}); got != nil || ok {
		t.Errorf("Transpose of no row = %v, %v", got, ok)
	}
}

func TestTransposeOfAllShapes(t *testing.T) {
	random := rand.New(rand.NewSource(37))
	for rows := range 10 {
		for columns := range 10 {
			matrix := randomMatrix(random, rows, columns, 9, 3)
			checkTranspose(t, matrix)
			for i := range matrix {
				for length := range 11 {
					ragged := slices.Clone(matrix)
					ragged[i] = randomNumbers(random, length, 9, 3)
					checkTranspose(t, ragged)
				}
				for k := range matrix[i] {
					wrong := cloneOfMatrix(matrix)
					for _, r := range invalidRationals() {
						wrong[i][k] = r
						if got, ok := impl.Transpose(wrong); len(got) != 0 || ok {
							t.Errorf("Transpose(%s) = %v, %v", describeMatrix(wrong), got, ok)
						}
					}
				}
			}
		}
	}
}

// TestTransposedProducts: y*(A*x) is (y*A)*x.
func TestTransposedProducts(t *testing.T) {
	random := rand.New(rand.NewSource(38))
	for range 500 {
		rows, columns := 1+random.Intn(5), 1+random.Intn(5)
		matrix := randomMatrix(random, rows, columns, 3, 1000000)
		x, y := randomNumbers(random, columns, 3, 1000000), randomNumbers(random, rows, 3, 1000000)
		transposed, transposedOk := impl.Transpose(matrix)
		ax, axOk := impl.MatrixVectorProduct(matrix, x)
		ya, yaOk := impl.MatrixVectorProduct(transposed, y)
		left, leftOk := impl.DotProduct(y, ax)
		right, rightOk := impl.DotProduct(ya, x)
		if !transposedOk || !axOk || !yaOk || !leftOk || !rightOk || left != right {
			t.Fatalf("the products of %s with %v and %v are %v and %v", describeMatrix(matrix), x, y, left, right)
		}
	}
}

func TestLongRowsAndColumns(t *testing.T) {
	const count = 300000
	one := slices.Repeat([]impl.Rational{{Num: 1, Den: 1}}, count)
	halves := slices.Repeat([]impl.Rational{{Num: 1, Den: 2}}, count)
	if got, ok := impl.DotProduct(one, halves); got != rational(count/2, 1) || !ok {
		t.Errorf("DotProduct of long lists = %v, %v", got, ok)
	}
	if got, ok := impl.DotProduct(one, halves[1:]); got != (impl.Rational{}) || ok {
		t.Errorf("DotProduct of lists of different length = %v, %v", got, ok)
	}
	column := slices.Repeat([][]impl.Rational{halves[:1]}, count)
	if got, ok := impl.MatrixVectorProduct(column, wholeNumbers(2)); !sameRationals(got, one) || !ok {
		t.Errorf("MatrixVectorProduct of a long column = %s, %v", describeRationals(got), ok)
	}
	if got, ok := impl.MatrixVectorProduct([][]impl.Rational{one, one}, halves); !sameRationals(got, wholeNumbers(count/2, count/2)) || !ok {
		t.Errorf("MatrixVectorProduct of long rows = %s, %v", describeRationals(got), ok)
	}
	if got, ok := impl.Transpose(column); len(got) != 1 || !sameRationals(got[0], halves) || !ok {
		t.Errorf("Transpose of a long column = %s, %v", describeMatrix(got), ok)
	}
	if got, ok := impl.Transpose([][]impl.Rational{halves}); !sameMatrices(got, column) || !ok {
		t.Errorf("Transpose of a long row = %s, %v", describeMatrix(got), ok)
	}
	column[count-1] = []impl.Rational{{}}
	if got, ok := impl.MatrixVectorProduct(column, wholeNumbers(2)); len(got) != 0 || ok {
		t.Errorf("MatrixVectorProduct of a wrong column = %s, %v", describeRationals(got), ok)
	}
	if got, ok := impl.Transpose(column); len(got) != 0 || ok {
		t.Errorf("Transpose of a wrong column = %s, %v", describeMatrix(got), ok)
	}
}

// guardedMatrix returns the matrix with its rows in the middle of one array and
// with unused capacity everywhere, and a function that reports whether all of
// this memory is as it was.
func guardedMatrix(matrix [][]impl.Rational) ([][]impl.Rational, func() bool) {
	guard := []impl.Rational{{Num: 7, Den: 9}, {Num: 7, Den: 9}}
	array := slices.Clone(guard)
	for _, row := range matrix {
		array = slices.Concat(array, row, guard)
	}
	outer := [][]impl.Rational{guard}
	offset := len(guard)
	for _, row := range matrix {
		outer = append(outer, array[offset:offset+len(row)])
		offset += len(row) + len(guard)
	}
	outer = append(outer, guard, guard)
	savedArray, saved := slices.Clone(array), cloneOfMatrix(outer)
	isAsBefore := func() bool {
		return sameRationals(array, savedArray) && sameMatrices(outer, saved)
	}
	return outer[1 : len(matrix)+1], isAsBefore
}

// overwriteMatrix writes to all of the rows and of the list of rows, to their
// unused capacity too.
func overwriteMatrix(matrix [][]impl.Rational) {
	all := matrix[:cap(matrix)]
	for i := range all {
		overwriteRationals(all[i])
		all[i] = []impl.Rational{{Num: 77, Den: 78}}
	}
}

// matrixSharesMemory writes another number to all of each row and looks for the
// numbers of the others.
func matrixSharesMemory(matrix [][]impl.Rational) bool {
	for i, row := range matrix {
		for k := range row[:cap(row)] {
			row[:cap(row)][k] = rational(i, 1)
		}
	}
	for i, row := range matrix {
		for _, r := range row[:cap(row)] {
			if r != rational(i, 1) {
				return true
			}
		}
	}
	return false
}

// matrixMemoryProblem overwrites results and looks for the change in other
// results and in the arguments.
func matrixMemoryProblem(call func() ([][]impl.Rational, impl.Rational, bool), areArgumentsAsBefore func() bool) string {
	first, value, ok := call()
	want := cloneOfMatrix(first)
	second, secondValue, secondOk := call()
	overwriteMatrix(first)
	// The next call might restore the numbers that were overwritten.
	kept := cloneOfMatrix(second)
	third, thirdValue, thirdOk := call()
	switch {
	case !sameMatrices(kept, want) || !sameMatrices(third, want):
		return "the result changes with the previous one"
	case secondValue != value || thirdValue != value || secondOk != ok || thirdOk != ok:
		return "the value changes"
	case matrixSharesMemory(second) || !sameMatrices(third, want):
		return "parts of the results share memory"
	case !areArgumentsAsBefore():
		return "the call or a write to its result modifies an argument"
	}
	return ""
}

type systemCall struct {
	name string
	call func(matrix [][]impl.Rational, list []impl.Rational) ([][]impl.Rational, bool)
}

// systemCalls returns each list of numbers as one row.
func systemCalls() []systemCall {
	return []systemCall{
		{"SolveLinearSystem", func(matrix [][]impl.Rational, list []impl.Rational) ([][]impl.Rational, bool) {
			solution, ok := impl.SolveLinearSystem(matrix, list)
			return [][]impl.Rational{solution}, ok
		}},
		{"MatrixVectorProduct", func(matrix [][]impl.Rational, list []impl.Rational) ([][]impl.Rational, bool) {
			products, ok := impl.MatrixVectorProduct(matrix, list)
			return [][]impl.Rational{products}, ok
		}},
		{"DotProduct", func(matrix [][]impl.Rational, list []impl.Rational) ([][]impl.Rational, bool) {
			allOk := true
			for _, row := range matrix {
				_, ok := impl.DotProduct(row, list)
				_, otherOk := impl.DotProduct(list, row)
				allOk = allOk && ok && otherOk
			}
			return nil, allOk
		}},
		{"Transpose", func(matrix [][]impl.Rational, list []impl.Rational) ([][]impl.Rational, bool) {
			return impl.Transpose(matrix)
		}},
	}
}

// sampleSystems contains a matrix and a list for each call that succeeds and for
// each way to fail.
func sampleSystems(t *testing.T) (matrices [][][]impl.Rational, lists [][]impl.Rational) {
	add := func(matrix [][]impl.Rational, list []impl.Rational) {
		matrices, lists = append(matrices, matrix), append(lists, list)
	}
	for _, c := range solveCases {
		add(parsedMatrix(t, c.matrix), parsedRationals(t, c.right))
	}
	for _, c := range intermediateCases {
		add(parsedMatrix(t, c.matrix), parsedRationals(t, c.right))
	}
	for _, c := range productCases {
		add(parsedMatrix(t, c.matrix), parsedRationals(t, c.vector))
	}
	for _, c := range transposeCases {
		add(parsedMatrix(t, c.matrix), parsedRationals(t, "1 2"))
	}
	for size := range 9 {
		add(unitMatrix(size), slices.Repeat([]impl.Rational{{Num: 1, Den: 3}}, size))
		add(slices.Repeat([][]impl.Rational{make([]impl.Rational, size)}, size), make([]impl.Rational, size))
	}
	random := rand.New(rand.NewSource(39))
	for range 200 {
		rows, columns := 1+random.Intn(6), 1+random.Intn(6)
		add(randomMatrix(random, rows, columns, 3, 50), randomNumbers(random, columns, 3, 50))
		add(triangularMatrix(random, rows), randomNumbers(random, rows, 3, 50))
	}
	return matrices, lists
}

func TestLinearSystemMemory(t *testing.T) {
	matrices, lists := sampleSystems(t)
	for i, original := range matrices {
		for _, c := range systemCalls() {
			matrix, isMatrixAsBefore := guardedMatrix(original)
			list, array := guardedRationals(lists[i])
			savedArray := slices.Clone(array)
			areAsBefore := func() bool { return isMatrixAsBefore() && sameRationals(array, savedArray) }
			call := func() ([][]impl.Rational, impl.Rational, bool) {
				result, ok := c.call(matrix, list)
				return result, impl.Rational{}, ok
			}
			if problem := matrixMemoryProblem(call, areAsBefore); problem != "" {
				t.Fatalf("%s(%s, %v): %s", c.name, describeMatrix(original), lists[i], problem)
			}
		}
	}
}

// TestSystemPartsMayOverlap takes all rows and the list from one array.
func TestSystemPartsMayOverlap(t *testing.T) {
	array := parsedRationals(t, "2 1 0 -1 1/2 3 1 1 0 2 5 -1/3 1 0 0 7")
	saved := slices.Clone(array)
	calls := systemCalls()
	for size := 1; size <= 4; size++ {
		for step := range 4 {
			for start := range 5 {
				var matrix [][]impl.Rational
				for i := range size {
					offset := (start + i*step) % (len(array) - size)
					matrix = append(matrix, array[offset:offset+size])
				}
				for _, list := range append([][]impl.Rational{array[start : start+size]}, matrix...) {
					for _, c := range calls {
						want, wantOk := c.call(cloneOfMatrix(matrix), slices.Clone(list))
						if got, ok := c.call(matrix, list); !sameMatrices(got, want) || ok != wantOk {
							t.Fatalf("%s(%s, %v) = %v, %v, want %v, %v", c.name, describeMatrix(matrix), list, got, ok, want, wantOk)
						}
					}
					checkSolve(t, matrix, list)
					checkProduct(t, matrix, list)
				}
				checkTranspose(t, matrix)
			}
		}
	}
	if !sameRationals(array, saved) {
		t.Errorf("the array is now %v", array)
	}
}
