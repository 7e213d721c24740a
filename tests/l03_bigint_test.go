package tests

import (
	"math"
	"math/big"
	"slices"
	"strconv"
	"strings"
	"testing"

	"loop.example/g01917/impl"
)

const digitLimit = 60
const exponentLimit = 100

// The conversion compiles only if a BigInt has no other field than its digits.
var _ = impl.BigInt(struct{ Digits []int }{})

func bigInt(digits ...int) impl.BigInt {
	return impl.BigInt{Digits: digits}
}

// bigIntFromText returns the number with these decimal digits, the most
// significant one first, whether it is valid or not.
func bigIntFromText(text string) impl.BigInt {
	var b impl.BigInt
	for i := len(text) - 1; i >= 0; i-- {
		b.Digits = append(b.Digits, int(text[i])-'0')
	}
	return b
}

func nines(count int) impl.BigInt {
	return bigIntFromText(strings.Repeat("9", count))
}

// tenToThe returns 1 followed by that many zeros.
func tenToThe(exponent int) impl.BigInt {
	return bigIntFromText("1" + strings.Repeat("0", exponent))
}

// bigIntOf is the test's own conversion and check of the limit.
func bigIntOf(x *big.Int) (impl.BigInt, bool) {
	if x.Sign() == 0 {
		return bigInt(), true
	}
	text := x.String()
	if len(text) > digitLimit {
		return bigInt(), false
	}
	return bigIntFromText(text), true
}

// exactBigInt returns the exact number, or nil if b is invalid.
func exactBigInt(b impl.BigInt) *big.Int {
	if len(b.Digits) > digitLimit {
		return nil
	}
	x := new(big.Int)
	for i := len(b.Digits) - 1; i >= 0; i-- {
		x.Mul(x, big.NewInt(10)).Add(x, big.NewInt(int64(b.Digits[i])))
	}
	if same, ok := bigIntOf(x); x.Sign() < 0 || !ok || !sameBigInts(same, b) {
		return nil
	}
	return x
}

func sameBigInts(a, b impl.BigInt) bool {
	return slices.Equal(a.Digits, b.Digits)
}

// validBigInts contains powers of 2 and 10, their neighbors, and other numbers
// of all lengths up to the limit.
func validBigInts() []impl.BigInt {
	valid := []impl.BigInt{{}, {Digits: []int{}}, bigIntFromText("9223372036854775807"), bigIntFromText("18446744073709551616")}
	for digit := 1; digit <= 9; digit++ {
		valid = append(valid, bigInt(digit), bigIntFromText(strings.Repeat(strconv.Itoa(digit), digitLimit)))
	}
	for count := 1; count <= digitLimit; count++ {
		digits := strings.Repeat("7302918456", digitLimit/10)
		valid = append(valid, nines(count), tenToThe(count-1), bigIntFromText(digits[:count]))
	}
	for exponent := 1; exponent < 199; exponent += 9 {
		power := new(big.Int).Lsh(big.NewInt(1), uint(exponent))
		for _, d := range []int64{-1, 0, 1} {
			b, _ := bigIntOf(new(big.Int).Add(power, big.NewInt(d)))
			valid = append(valid, b)
		}
	}
	return valid
}

func invalidBigInts() []impl.BigInt {
	return []impl.BigInt{
		bigInt(0), bigInt(0, 0), bigInt(1, 0), bigInt(0, 1, 0), bigInt(1, 0, 0),
		bigInt(10), bigInt(-1), bigInt(11), bigInt(1, -1), bigInt(-1, 1), bigInt(-10, 1), bigInt(10, 1), bigInt(1, 10),
		bigInt(0, -1, 1), bigInt(9, 10, 9), bigInt(10, 0), bigInt(255), bigInt(256), bigInt(257), bigInt(1<<32 + 1), bigInt('1'),
		bigInt(math.MaxInt), bigInt(math.MinInt), bigInt(math.MaxInt, 1), bigInt(math.MinInt, 1), bigInt(1, math.MaxInt, 1),
		bigInt(1, math.MinInt), bigInt(math.MaxInt, math.MaxInt, math.MaxInt),
		tenToThe(digitLimit), nines(digitLimit + 1), nines(10 * digitLimit),
		{Digits: make([]int, digitLimit)}, {Digits: make([]int, digitLimit+1)}, bigIntFromText("0" + strings.Repeat("9", digitLimit-1)),
		bigIntFromText("0" + strings.Repeat("9", digitLimit)),
		{Digits: append(nines(digitLimit-1).Digits, 10)}, {Digits: append(nines(digitLimit-1).Digits, -1)},
		{Digits: append([]int{10}, nines(digitLimit-1).Digits...)}, {Digits: append([]int{-1}, nines(digitLimit-1).Digits...)},
	}
}

func TestMaxDigits(t *testing.T) {
	if impl.MaxDigits != digitLimit {
		t.Errorf("MaxDigits = %d", impl.MaxDigits)
	}
}

func TestIsValidBigInt(t *testing.T) {
	for _, b := range validBigInts() {
		if !impl.IsValidBigInt(b) {
			t.Errorf("IsValidBigInt(%v) = false", b)
		}
	}
	for _, b := range invalidBigInts() {
		if impl.IsValidBigInt(b) {
			t.Errorf("IsValidBigInt(%v) = true", b)
		}
	}
}

func TestIsValidBigIntForAllShortNumbers(t *testing.T) {
	for low := -3; low <= 13; low++ {
		for middle := -3; middle <= 13; middle++ {
			for high := -3; high <= 13; high++ {
				inRange := 0 <= min(low, middle, high) && max(low, middle, high) <= 9
				b := bigInt(low, middle, high)
				if got := impl.IsValidBigInt(b); got != (inRange && high != 0) {
					t.Errorf("IsValidBigInt(%v) = %v", b, got)
				}
			}
		}
	}
}

func TestBigIntFromInt(t *testing.T) {
	for _, c := range []struct {
		n    int
		want impl.BigInt
	}{
		{4070, bigInt(0, 7, 0, 4)},
		{1, bigInt(1)},
		{9, bigInt(9)},
		{10, bigInt(0, 1)},
		{math.MaxInt, bigIntFromText("9223372036854775807")},
		{0, bigInt()},
		{-1, bigInt()},
		{-5, bigInt()},
		{-10, bigInt()},
		{math.MinInt + 1, bigInt()},
		{math.MinInt, bigInt()},
	} {
		if got := impl.BigIntFromInt(c.n); !sameBigInts(got, c.want) {
			t.Errorf("BigIntFromInt(%d) = %v, want %v", c.n, got, c.want)
		}
	}
	for _, n := range append(sampleNumbers(math.MaxInt), sampleParts()...) {
		want, _ := bigIntOf(big.NewInt(int64(max(n, 0))))
		if got := impl.BigIntFromInt(n); !sameBigInts(got, want) {
			t.Errorf("BigIntFromInt(%d) = %v", n, got)
		}
	}
}

type bigOperation struct {
	name  string
	got   func(a, b impl.BigInt) (impl.BigInt, bool)
	exact func(a, b *big.Int) *big.Int
}

func bigOperations() []bigOperation {
	return []bigOperation{
		{"MulBigInt", impl.MulBigInt, func(a, b *big.Int) *big.Int { return new(big.Int).Mul(a, b) }},
		{"AddBigInt", impl.AddBigInt, func(a, b *big.Int) *big.Int { return new(big.Int).Add(a, b) }},
	}
}

func TestBigOperationsAreExact(t *testing.T) {
	valid := validBigInts()
	for n := range 130 {
		valid = append(valid, bigIntFromText(strings.TrimLeft(strconv.Itoa(n), "0")))
	}
	for _, op := range bigOperations() {
		for _, a := range valid {
			x := exactBigInt(a)
			for _, b := range valid {
				want, wantOk := bigIntOf(op.exact(x, exactBigInt(b)))
				if got, ok := op.got(a, b); !sameBigInts(got, want) || ok != wantOk {
					t.Fatalf("%s(%v, %v) = %v, %v, want %v, %v", op.name, a, b, got, ok, want, wantOk)
				}
			}
		}
	}
}

// TestBigOperationsRejectInvalidNumbers contains 0, because a product with 0
// does not make an invalid argument acceptable.
func TestBigOperationsRejectInvalidNumbers(t *testing.T) {
	others := append(invalidBigInts(), bigInt(), bigInt(1), bigInt(0, 1), nines(digitLimit))
	for _, op := range bigOperations() {
		for _, a := range invalidBigInts() {
			for _, b := range others {
				if got, ok := op.got(a, b); len(got.Digits) != 0 || ok {
					t.Errorf("%s(%v, %v) = %v, %v", op.name, a, b, got, ok)
				}
				if got, ok := op.got(b, a); len(got.Digits) != 0 || ok {
					t.Errorf("%s(%v, %v) = %v, %v", op.name, b, a, got, ok)
				}
			}
		}
	}
}

type bigOperationCase struct {
	a, b, want impl.BigInt
	ok         bool
}

func checkBigCases(t *testing.T, name string, f func(a, b impl.BigInt) (impl.BigInt, bool), cases []bigOperationCase) {
	t.Helper()
	for _, c := range cases {
		if got, ok := f(c.a, c.b); !sameBigInts(got, c.want) || ok != c.ok {
			t.Errorf("%s(%v, %v) = %v, %v, want %v, %v", name, c.a, c.b, got, ok, c.want, c.ok)
		}
		if got, ok := f(c.b, c.a); !sameBigInts(got, c.want) || ok != c.ok {
			t.Errorf("%s(%v, %v) = %v, %v, want %v, %v", name, c.b, c.a, got, ok, c.want, c.ok)
		}
	}
}

// TestMulBigInt contains the largest products that fit and the smallest ones
// that do not.
func TestMulBigInt(t *testing.T) {
	checkBigCases(t, "MulBigInt", impl.MulBigInt, []bigOperationCase{
		{bigInt(2), bigInt(3), bigInt(6), true},
		{bigInt(5), bigInt(2), bigInt(0, 1), true},
		{bigInt(9, 9), bigInt(9, 9), bigInt(1, 0, 8, 9), true},
		{bigIntFromText("79792266297612001"), bigInt(0, 0, 0, 1), bigIntFromText("79792266297612001000"), true},
		{bigInt(), bigInt(), bigInt(), true},
		{bigInt(), bigInt(7), bigInt(), true},
		{bigInt(), nines(digitLimit), bigInt(), true},
		{bigInt(1), bigInt(1), bigInt(1), true},
		{bigInt(1), nines(digitLimit), nines(digitLimit), true},
		{tenToThe(29), tenToThe(30), tenToThe(59), true},
		{bigInt(9), bigIntFromText(strings.Repeat("1", digitLimit)), nines(digitLimit), true},
		{bigInt(2), bigIntFromText("4" + strings.Repeat("9", 59)), bigIntFromText(strings.Repeat("9", 59) + "8"), true},
		{nines(30), nines(30), bigIntFromText(strings.Repeat("9", 29) + "8" + strings.Repeat("0", 29) + "1"), true},
		{tenToThe(30), tenToThe(30), bigInt(), false},
		{bigInt(0, 1), tenToThe(59), bigInt(), false},
		{bigInt(2), bigIntFromText("5" + strings.Repeat("0", 59)), bigInt(), false},
		{bigInt(2), nines(digitLimit), bigInt(), false},
		{nines(digitLimit), nines(digitLimit), bigInt(), false},
		{bigInt(), nines(digitLimit + 1), bigInt(), false},
		{bigInt(), bigInt(0), bigInt(), false},
	})
}

func TestAddBigInt(t *testing.T) {
	checkBigCases(t, "AddBigInt", impl.AddBigInt, []bigOperationCase{
		{bigInt(2), bigInt(3), bigInt(5), true},
		{bigInt(5), bigInt(5), bigInt(0, 1), true},
		{nines(3), bigInt(1), bigInt(0, 0, 0, 1), true},
		{bigInt(9, 9, 1), bigInt(5), bigInt(4, 0, 2), true},
		{bigInt(), bigInt(), bigInt(), true},
		{bigInt(), bigInt(7), bigInt(7), true},
		{bigInt(), nines(digitLimit), nines(digitLimit), true},
		{nines(59), bigInt(1), tenToThe(59), true},
		{bigInt(1), bigIntFromText(strings.Repeat("9", 59) + "8"), nines(digitLimit), true},
		{bigIntFromText(strings.Repeat("4", digitLimit)), bigIntFromText(strings.Repeat("5", digitLimit)), nines(digitLimit), true},
		{nines(digitLimit), bigInt(1), bigInt(), false},
		{bigIntFromText("5" + strings.Repeat("0", 59)), bigIntFromText("5" + strings.Repeat("0", 59)), bigInt(), false},
		{nines(digitLimit), nines(digitLimit), bigInt(), false},
		{bigInt(), tenToThe(digitLimit), bigInt(), false},
		{bigInt(), bigInt(0), bigInt(), false},
	})
}

func TestPowBigInt(t *testing.T) {
	for _, c := range []struct {
		base, exponent int
		want           impl.BigInt
		ok             bool
	}{
		{7, 20, bigIntFromText("79792266297612001"), true},
		{2, 10, bigInt(4, 2, 0, 1), true},
		{2, 100, bigIntFromText("1267650600228229401496703205376"), true},
		{0, 0, bigInt(1), true},
		{1, 0, bigInt(1), true},
		{2, 0, bigInt(1), true},
		{10, 0, bigInt(1), true},
		{math.MaxInt, 0, bigInt(1), true},
		{0, 1, bigInt(), true},
		{0, exponentLimit, bigInt(), true},
		{1, exponentLimit, bigInt(1), true},
		{10, 59, tenToThe(59), true},
		{math.MaxInt, 1, bigIntFromText("9223372036854775807"), true},
		{10, 60, bigInt(), false},
		{10, exponentLimit, bigInt(), false},
		{4, exponentLimit, bigInt(), false},
		{math.MaxInt, 4, bigInt(), false},
		{math.MaxInt, exponentLimit, bigInt(), false},
		{0, exponentLimit + 1, bigInt(), false},
		{1, exponentLimit + 1, bigInt(), false},
		{2, exponentLimit + 1, bigInt(), false},
		{1, math.MaxInt, bigInt(), false},
		{1, -1, bigInt(), false},
		{0, -1, bigInt(), false},
		{2, math.MinInt, bigInt(), false},
		{-1, 0, bigInt(), false},
		{-1, 1, bigInt(), false},
		{-2, 2, bigInt(), false},
		{-1, -1, bigInt(), false},
		{math.MinInt, 0, bigInt(), false},
		{math.MinInt, math.MinInt, bigInt(), false},
	} {
		if got, ok := impl.PowBigInt(c.base, c.exponent); !sameBigInts(got, c.want) || ok != c.ok {
			t.Errorf("PowBigInt(%d, %d) = %v, %v, want %v, %v", c.base, c.exponent, got, ok, c.want, c.ok)
		}
	}
}

func TestPowBigIntIsExact(t *testing.T) {
	bases := append(sampleParts(), sampleNumbers(math.MaxInt)...)
	for base := -3; base <= 120; base++ {
		bases = append(bases, base)
	}
	for _, base := range bases {
		for exponent := -3; exponent <= exponentLimit+3; exponent++ {
			want, wantOk := bigInt(), false
			if base >= 0 && 0 <= exponent && exponent <= exponentLimit {
				want, wantOk = bigIntOf(new(big.Int).Exp(big.NewInt(int64(base)), big.NewInt(int64(exponent)), nil))
			}
			if got, ok := impl.PowBigInt(base, exponent); !sameBigInts(got, want) || ok != wantOk {
				t.Errorf("PowBigInt(%d, %d) = %v, %v, want %v, %v", base, exponent, got, ok, want, wantOk)
			}
		}
	}
}

func TestCompareBigInts(t *testing.T) {
	for _, c := range []struct {
		a, b impl.BigInt
		want int
	}{
		{bigInt(), bigInt(), 0},
		{bigInt(), bigInt(1), -1},
		{bigInt(1), bigInt(), 1},
		{bigInt(9), bigInt(0, 1), -1},
		{bigInt(0, 1), bigInt(9), 1},
		{bigInt(9, 1), bigInt(0, 2), -1},
		{bigInt(1, 9, 1), bigInt(2, 8, 1), 1},
		{bigInt(1, 2, 3), bigInt(1, 2, 3), 0},
		{nines(digitLimit), nines(digitLimit), 0},
		{nines(digitLimit - 1), tenToThe(digitLimit - 1), -1},
		{bigIntFromText(strings.Repeat("9", 59) + "8"), nines(digitLimit), -1},
	} {
		if got := impl.CompareBigInts(c.a, c.b); got != c.want {
			t.Errorf("CompareBigInts(%v, %v) = %d", c.a, c.b, got)
		}
	}
	for _, a := range validBigInts() {
		for _, b := range validBigInts() {
			if got, want := impl.CompareBigInts(a, b), exactBigInt(a).Cmp(exactBigInt(b)); got != want {
				t.Errorf("CompareBigInts(%v, %v) = %d, want %d", a, b, got, want)
			}
		}
	}
}

func TestCompareBigIntsRejectsInvalidNumbers(t *testing.T) {
	others := append(invalidBigInts(), bigInt(), bigInt(1), bigInt(0, 1), nines(digitLimit))
	for _, a := range invalidBigInts() {
		for _, b := range others {
			if got := impl.CompareBigInts(a, b); got != 0 {
				t.Errorf("CompareBigInts(%v, %v) = %d", a, b, got)
			}
			if got := impl.CompareBigInts(b, a); got != 0 {
				t.Errorf("CompareBigInts(%v, %v) = %d", b, a, got)
			}
		}
	}
}

func TestFormatBigInt(t *testing.T) {
	for _, c := range []struct {
		b    impl.BigInt
		want string
	}{
		{bigInt(), "0"},
		{impl.BigInt{Digits: nil}, "0"},
		{bigInt(7), "7"},
		{bigInt(0, 7, 0, 4), "4070"},
		{bigInt(1, 2, 3, 4, 5, 6, 7, 8, 9), "987654321"},
		{tenToThe(59), "1" + strings.Repeat("0", 59)},
		{nines(digitLimit), strings.Repeat("9", digitLimit)},
	} {
		if got := impl.FormatBigInt(c.b); got != c.want {
			t.Errorf("FormatBigInt(%v) = %q, want %q", c.b, got, c.want)
		}
	}
	for _, b := range validBigInts() {
		if got, want := impl.FormatBigInt(b), exactBigInt(b).String(); got != want {
			t.Errorf("FormatBigInt(%v) = %q, want %q", b, got, want)
		}
	}
	for _, b := range invalidBigInts() {
		if got := impl.FormatBigInt(b); got != "" {
			t.Errorf("FormatBigInt(%v) = %q", b, got)
		}
	}
}

// guardedInts returns these numbers in the middle of a larger array, and that
// array, so that a write to the numbers, before them or to their unused
// capacity shows.
func guardedInts(numbers []int) (inside, array []int) {
	const before, behind = 2, 2*digitLimit + 4
	guard := slices.Repeat([]int{7}, behind)
	array = slices.Concat(guard[:before], numbers, guard)
	return array[before : before+len(numbers)], array
}

func guarded(b impl.BigInt) (impl.BigInt, []int) {
	digits, array := guardedInts(b.Digits)
	return impl.BigInt{Digits: digits}, array
}

func overwriteInts(numbers []int) {
	all := numbers[:cap(numbers)]
	for i := range all {
		all[i] = 55
	}
}

func overwrite(b impl.BigInt) {
	overwriteInts(b.Digits)
}

func TestBigIntArgumentsAreNotModified(t *testing.T) {
	all := append(invalidBigInts(), validBigInts()...)
	for _, number := range all {
		a, arrayA := guarded(number)
		savedA := slices.Clone(arrayA)
		impl.IsValidBigInt(a)
		impl.FormatBigInt(a)
		for _, other := range all {
			b, arrayB := guarded(other)
			savedB := slices.Clone(arrayB)
			impl.CompareBigInts(a, b)
			for _, op := range bigOperations() {
				first, firstOk := op.got(a, b)
				again, againOk := op.got(a, b)
				want := impl.BigInt{Digits: slices.Clone(first.Digits)}
				overwrite(first)
				if !sameBigInts(again, want) || againOk != firstOk {
					t.Fatalf("%s(%v, %v) changes with its previous result", op.name, a, b)
				}
				overwrite(again)
			}
			if !slices.Equal(arrayA, savedA) || !slices.Equal(arrayB, savedB) {
				t.Fatalf("memory of %v or %v was modified", number, other)
			}
		}
	}
}

// TestBigIntsMayOverlap passes parts of one array as both arguments.
func TestBigIntsMayOverlap(t *testing.T) {
	array := []int{8, 9, 7, 9, 6, 9, 5}
	saved := slices.Clone(array)
	for _, c := range []struct {
		a, b []int
	}{
		{array, array}, {array[:4], array}, {array[1:], array[:5]}, {array[2:4], array[3:6]}, {array[:0], array[:3]},
	} {
		a, b := impl.BigInt{Digits: c.a}, impl.BigInt{Digits: c.b}
		for _, op := range bigOperations() {
			want, _ := bigIntOf(op.exact(exactBigInt(a), exactBigInt(b)))
			got, ok := op.got(a, b)
			if !sameBigInts(got, want) || !ok {
				t.Errorf("%s(%v, %v) = %v, %v, want %v", op.name, a, b, got, ok, want)
			}
			overwrite(got)
			if !slices.Equal(array, saved) {
				t.Fatalf("the result of %s shares memory with its arguments", op.name)
			}
		}
	}
}

// checkFreshBigInt overwrites the result of one call and looks for the change in
// those of two other calls.
func checkFreshBigInt(t *testing.T, call func() impl.BigInt) {
	t.Helper()
	first, again := call(), call()
	want := impl.BigInt{Digits: slices.Clone(again.Digits)}
	overwrite(first)
	// The next call might restore the digits that were overwritten.
	kept := impl.BigInt{Digits: slices.Clone(again.Digits)}
	if later := call(); !sameBigInts(kept, want) || !sameBigInts(later, want) {
		t.Errorf("the result %v changes with the previous one", want)
	}
}

func TestBigIntResultsShareNoMemory(t *testing.T) {
	for _, n := range []int{math.MinInt, -1, 0, 1, 9, 10, 4070, math.MaxInt} {
		checkFreshBigInt(t, func() impl.BigInt { return impl.BigIntFromInt(n) })
		for exponent := range 4 {
			checkFreshBigInt(t, func() impl.BigInt {
				power, _ := impl.PowBigInt(n, exponent)
				return power
			})
		}
	}
}
