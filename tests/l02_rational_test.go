package tests

import (
	"math"
	"math/big"
	"strconv"
	"strings"
	"testing"

	"loop.example/g01917/impl"
)

const rationalLimit = 1000000000
const unreducedLimit = 4000000000000000000

// The conversion compiles only if a Rational is two numbers: then it shares no
// memory, and no function can modify the caller's copy.
var _ = impl.Rational(struct {
	Num int
	Den int
}{})

func rational(num, den int) impl.Rational {
	return impl.Rational{Num: num, Den: den}
}

// rationalOf is the test's own reduction and check of the limits.
func rationalOf(x *big.Rat) (impl.Rational, bool) {
	limit := big.NewInt(rationalLimit)
	if x.Num().CmpAbs(limit) > 0 || x.Denom().Cmp(limit) > 0 {
		return impl.Rational{}, false
	}
	return rational(int(x.Num().Int64()), int(x.Denom().Int64())), true
}

// exactValue returns the exact number, or nil if r is invalid.
func exactValue(r impl.Rational) *big.Rat {
	if r.Den == 0 {
		return nil
	}
	x := big.NewRat(int64(r.Num), int64(r.Den))
	if reduced, ok := rationalOf(x); !ok || reduced != r {
		return nil
	}
	return x
}

// sampleParts contains every limit of the chapter, numbers on both sides of
// it, primes and numbers with many divisors.
func sampleParts() []int {
	parts := []int{math.MinInt, math.MinInt + 1, 0}
	for _, n := range []int{
		1, 2, 3, 4, 6, 12, 35, 31622, 31623, 1 << 20, 500000000, 999999937, 999999998, 999999999,
		rationalLimit, rationalLimit + 1, 2 * rationalLimit, 1 << 31, 1 << 32,
		rationalLimit * rationalLimit, unreducedLimit - 1, unreducedLimit, unreducedLimit + 1,
		1 << 62, math.MaxInt - 1, math.MaxInt,
	} {
		parts = append(parts, n, -n)
	}
	return parts
}

func validRationals() []impl.Rational {
	var valid []impl.Rational
	for _, num := range sampleParts() {
		for _, den := range sampleParts() {
			if exactValue(rational(num, den)) != nil {
				valid = append(valid, rational(num, den))
			}
		}
	}
	return valid
}

func invalidRationals() []impl.Rational {
	return []impl.Rational{
		{}, {Num: 1}, {Num: -1}, {Num: 0, Den: 2}, {Num: 0, Den: rationalLimit}, {Num: 0, Den: -1},
		{Num: 1, Den: -1}, {Num: 1, Den: -2}, {Num: -1, Den: -2}, {Num: 2, Den: 4}, {Num: -2, Den: 4},
		{Num: 2, Den: 2}, {Num: 999999999, Den: 3}, {Num: rationalLimit, Den: rationalLimit},
		{Num: rationalLimit + 1, Den: 1}, {Num: -rationalLimit - 1, Den: 1}, {Num: 1, Den: rationalLimit + 1},
		{Num: math.MaxInt, Den: 1}, {Num: math.MinInt, Den: 1}, {Num: 1, Den: math.MaxInt},
		{Num: 1, Den: math.MinInt}, {Num: math.MinInt, Den: math.MinInt}, {Num: math.MinInt, Den: -1},
		{Num: math.MaxInt, Den: math.MaxInt}, {Num: 0, Den: math.MinInt}, {Num: math.MinInt, Den: 0},
	}
}

func TestMaxRational(t *testing.T) {
	if impl.MaxRational != rationalLimit {
		t.Errorf("MaxRational = %d", impl.MaxRational)
	}
}

func TestIsValidRational(t *testing.T) {
	for _, r := range []impl.Rational{
		{Num: 0, Den: 1}, {Num: 1, Den: 1}, {Num: -1, Den: 1}, {Num: 1, Den: 2}, {Num: -2, Den: 3},
		{Num: rationalLimit, Den: 1}, {Num: -rationalLimit, Den: 1}, {Num: 1, Den: rationalLimit},
		{Num: -1, Den: rationalLimit}, {Num: rationalLimit, Den: 999999999}, {Num: -999999999, Den: rationalLimit},
	} {
		if !impl.IsValidRational(r) {
			t.Errorf("IsValidRational(%v) = false", r)
		}
	}
	for _, r := range invalidRationals() {
		if impl.IsValidRational(r) {
			t.Errorf("IsValidRational(%v) = true", r)
		}
	}
	for _, num := range sampleParts() {
		for _, den := range sampleParts() {
			r := rational(num, den)
			if got, want := impl.IsValidRational(r), exactValue(r) != nil; got != want {
				t.Errorf("IsValidRational(%v) = %v", r, got)
			}
		}
	}
}

func TestSmallValidRationals(t *testing.T) {
	for num := -40; num <= 40; num++ {
		for den := -40; den <= 40; den++ {
			r := rational(num, den)
			if got, want := impl.IsValidRational(r), exactValue(r) != nil; got != want {
				t.Errorf("IsValidRational(%v) = %v", r, got)
			}
		}
	}
}

func TestNewRational(t *testing.T) {
	for _, c := range []struct {
		num, den int
		want     impl.Rational
		ok       bool
	}{
		{4, -6, rational(-2, 3), true},
		{-4, 6, rational(-2, 3), true},
		{-4, -6, rational(2, 3), true},
		{4, 6, rational(2, 3), true},
		{0, 5, rational(0, 1), true},
		{0, -5, rational(0, 1), true},
		{0, unreducedLimit, rational(0, 1), true},
		{0, -unreducedLimit, rational(0, 1), true},
		{-7, -1, rational(7, 1), true},
		{rationalLimit, 1, rational(rationalLimit, 1), true},
		{rationalLimit, -1, rational(-rationalLimit, 1), true},
		{1, -rationalLimit, rational(-1, rationalLimit), true},
		{unreducedLimit, unreducedLimit, rational(1, 1), true},
		{unreducedLimit, -unreducedLimit, rational(-1, 1), true},
		{-unreducedLimit, -unreducedLimit, rational(1, 1), true},
		{unreducedLimit, unreducedLimit / rationalLimit, rational(rationalLimit, 1), true},
		{-unreducedLimit / rationalLimit, unreducedLimit, rational(-1, rationalLimit), true},
		{0, 0, rational(0, 0), false},
		{1, 0, rational(0, 0), false},
		{math.MinInt, 0, rational(0, 0), false},
		{rationalLimit + 1, 1, rational(0, 0), false},
		{-rationalLimit - 1, 1, rational(0, 0), false},
		{1, rationalLimit + 1, rational(0, 0), false},
		{1, -rationalLimit - 1, rational(0, 0), false},
		{unreducedLimit, 1, rational(0, 0), false},
		{1, unreducedLimit, rational(0, 0), false},
		{unreducedLimit + 1, unreducedLimit + 1, rational(0, 0), false},
		{-unreducedLimit - 1, -unreducedLimit - 1, rational(0, 0), false},
		{unreducedLimit + 2, (unreducedLimit + 2) / 2, rational(0, 0), false},
		{(unreducedLimit + 2) / 2, unreducedLimit + 2, rational(0, 0), false},
		{0, unreducedLimit + 1, rational(0, 0), false},
		{0, -unreducedLimit - 1, rational(0, 0), false},
		{0, math.MinInt, rational(0, 0), false},
		{math.MinInt, math.MinInt, rational(0, 0), false},
		{math.MinInt, -1, rational(0, 0), false},
		{math.MaxInt, math.MaxInt, rational(0, 0), false},
		{math.MinInt, 1 << 62, rational(0, 0), false},
	} {
		if got, ok := impl.NewRational(c.num, c.den); got != c.want || ok != c.ok {
			t.Errorf("NewRational(%d, %d) = %v, %v", c.num, c.den, got, ok)
		}
	}
}

func checkNewRational(t *testing.T, num, den int) {
	t.Helper()
	var want impl.Rational
	wantOk := den != 0 && -unreducedLimit <= num && num <= unreducedLimit && -unreducedLimit <= den && den <= unreducedLimit
	if wantOk {
		want, wantOk = rationalOf(big.NewRat(int64(num), int64(den)))
	}
	if got, ok := impl.NewRational(num, den); got != want || ok != wantOk {
		t.Errorf("NewRational(%d, %d) = %v, %v, want %v, %v", num, den, got, ok, want, wantOk)
	}
}

func TestNewRationalIsExact(t *testing.T) {
	for num := -40; num <= 40; num++ {
		for den := -40; den <= 40; den++ {
			checkNewRational(t, num, den)
		}
	}
	for _, num := range sampleParts() {
		for _, den := range sampleParts() {
			checkNewRational(t, num, den)
		}
	}
	for _, r := range validRationals() {
		for _, factor := range []int{1, -1, 2, -3, 999999937, rationalLimit, -4 * rationalLimit} {
			checkNewRational(t, factor*r.Num, factor*r.Den)
		}
	}
}

type operation struct {
	name  string
	got   func(a, b impl.Rational) (impl.Rational, bool)
	exact func(a, b *big.Rat) *big.Rat
}

// operations returns the four functions beside exact ones, which return nil if
// there is no result.
func operations() []operation {
	return []operation{
		{"AddRational", impl.AddRational, func(a, b *big.Rat) *big.Rat { return new(big.Rat).Add(a, b) }},
		{"SubRational", impl.SubRational, func(a, b *big.Rat) *big.Rat { return new(big.Rat).Sub(a, b) }},
		{"MulRational", impl.MulRational, func(a, b *big.Rat) *big.Rat { return new(big.Rat).Mul(a, b) }},
		{"DivRational", impl.DivRational, func(a, b *big.Rat) *big.Rat {
			if b.Sign() == 0 {
				return nil
			}
			return new(big.Rat).Quo(a, b)
		}},
	}
}

func checkOperation(t *testing.T, op operation, a, b impl.Rational) {
	t.Helper()
	var want impl.Rational
	var wantOk bool
	x, y := exactValue(a), exactValue(b)
	if x != nil && y != nil {
		if exact := op.exact(x, y); exact != nil {
			want, wantOk = rationalOf(exact)
		}
	}
	if got, ok := op.got(a, b); got != want || ok != wantOk {
		t.Errorf("%s(%v, %v) = %v, %v, want %v, %v", op.name, a, b, got, ok, want, wantOk)
	}
}

func TestOperationsAreExact(t *testing.T) {
	valid := validRationals()
	for num := -6; num <= 6; num++ {
		for den := 1; den <= 6; den++ {
			if r := rational(num, den); exactValue(r) != nil {
				valid = append(valid, r)
			}
		}
	}
	for _, op := range operations() {
		for _, a := range valid {
			for _, b := range valid {
				checkOperation(t, op, a, b)
			}
		}
	}
}

func TestOperationsRejectInvalidNumbers(t *testing.T) {
	others := append(invalidRationals(), rational(0, 1), rational(1, 1), rational(-1, 2), rational(1, rationalLimit))
	for _, op := range operations() {
		for _, a := range invalidRationals() {
			for _, b := range others {
				if got, ok := op.got(a, b); got != rational(0, 0) || ok {
					t.Errorf("%s(%v, %v) = %v, %v", op.name, a, b, got, ok)
				}
				if got, ok := op.got(b, a); got != rational(0, 0) || ok {
					t.Errorf("%s(%v, %v) = %v, %v", op.name, b, a, got, ok)
				}
			}
		}
	}
}

type operationCase struct {
	a, b, want impl.Rational
	ok         bool
}

func checkCases(t *testing.T, name string, f func(a, b impl.Rational) (impl.Rational, bool), cases []operationCase) {
	t.Helper()
	for _, c := range cases {
		if got, ok := f(c.a, c.b); got != c.want || ok != c.ok {
			t.Errorf("%s(%v, %v) = %v, %v, want %v, %v", name, c.a, c.b, got, ok, c.want, c.ok)
		}
	}
}

// TestAddRational contains the sums that are too large, and the largest ones
// that are not.
func TestAddRational(t *testing.T) {
	checkCases(t, "AddRational", impl.AddRational, []operationCase{
		{rational(1, 2), rational(1, 3), rational(5, 6), true},
		{rational(1, 2), rational(-1, 2), rational(0, 1), true},
		{rational(1, 6), rational(1, 3), rational(1, 2), true},
		{rational(0, 1), rational(-7, 5), rational(-7, 5), true},
		{rational(999999999, 1), rational(1, 1), rational(rationalLimit, 1), true},
		{rational(rationalLimit, 1), rational(0, 1), rational(rationalLimit, 1), true},
		{rational(rationalLimit, 1), rational(-rationalLimit, 1), rational(0, 1), true},
		{rational(1, rationalLimit), rational(999999999, rationalLimit), rational(1, 1), true},
		{rational(1, rationalLimit), rational(1, rationalLimit), rational(1, 500000000), true},
		{rational(1, 31622), rational(1, 31623), rational(63245, 999982506), true},
		{rational(rationalLimit, 1), rational(1, 1), rational(0, 0), false},
		{rational(-rationalLimit, 1), rational(-1, 1), rational(0, 0), false},
		{rational(rationalLimit, 1), rational(rationalLimit, 1), rational(0, 0), false},
		{rational(rationalLimit, 1), rational(1, rationalLimit), rational(0, 0), false},
		{rational(500000000, 1), rational(1, 2), rational(0, 0), false},
		{rational(-500000000, 1), rational(-1, 2), rational(0, 0), false},
		{rational(1, 31623), rational(1, 31624), rational(0, 0), false},
		{rational(1, rationalLimit), rational(1, 999999999), rational(0, 0), false},
	})
}

func TestSubRational(t *testing.T) {
	checkCases(t, "SubRational", impl.SubRational, []operationCase{
		{rational(1, 2), rational(1, 3), rational(1, 6), true},
		{rational(1, 3), rational(1, 2), rational(-1, 6), true},
		{rational(5, 7), rational(5, 7), rational(0, 1), true},
		{rational(0, 1), rational(2, 3), rational(-2, 3), true},
		{rational(-999999999, 1), rational(1, 1), rational(-rationalLimit, 1), true},
		{rational(rationalLimit, 1), rational(rationalLimit, 1), rational(0, 1), true},
		{rational(-rationalLimit, 1), rational(1, 1), rational(0, 0), false},
		{rational(rationalLimit, 1), rational(-rationalLimit, 1), rational(0, 0), false},
		{rational(1, rationalLimit), rational(1, 999999999), rational(0, 0), false},
	})
}

func TestMulRational(t *testing.T) {
	checkCases(t, "MulRational", impl.MulRational, []operationCase{
		{rational(1, 2), rational(4, 3), rational(2, 3), true},
		{rational(-1, 2), rational(-2, 1), rational(1, 1), true},
		{rational(-3, 2), rational(5, 7), rational(-15, 14), true},
		{rational(0, 1), rational(-rationalLimit, 1), rational(0, 1), true},
		{rational(rationalLimit, 1), rational(1, rationalLimit), rational(1, 1), true},
		{rational(rationalLimit, 999999999), rational(999999999, rationalLimit), rational(1, 1), true},
		{rational(25000, 1), rational(40000, 1), rational(rationalLimit, 1), true},
		{rational(1, 25000), rational(-1, 40000), rational(-1, rationalLimit), true},
		{rational(rationalLimit, 1), rational(rationalLimit, 1), rational(0, 0), false},
		{rational(31623, 1), rational(31623, 1), rational(0, 0), false},
		{rational(1, 31623), rational(1, 31623), rational(0, 0), false},
		{rational(1, rationalLimit), rational(-1, rationalLimit), rational(0, 0), false},
	})
}

func TestDivRational(t *testing.T) {
	checkCases(t, "DivRational", impl.DivRational, []operationCase{
		{rational(1, 2), rational(-1, 4), rational(-2, 1), true},
		{rational(-1, 2), rational(-3, 4), rational(2, 3), true},
		{rational(2, 3), rational(2, 3), rational(1, 1), true},
		{rational(0, 1), rational(-5, 3), rational(0, 1), true},
		{rational(rationalLimit, 1), rational(-rationalLimit, 1), rational(-1, 1), true},
		{rational(1, rationalLimit), rational(1, rationalLimit), rational(1, 1), true},
		{rational(1, 1), rational(1, rationalLimit), rational(rationalLimit, 1), true},
		{rational(1, 1), rational(-rationalLimit, 1), rational(-1, rationalLimit), true},
		{rational(1, 2), rational(0, 1), rational(0, 0), false},
		{rational(0, 1), rational(0, 1), rational(0, 0), false},
		{rational(rationalLimit, 1), rational(1, 2), rational(0, 0), false},
		{rational(1, 2), rational(rationalLimit, 1), rational(0, 0), false},
		{rational(rationalLimit, 1), rational(1, rationalLimit), rational(0, 0), false},
		{rational(1, rationalLimit), rational(rationalLimit, 1), rational(0, 0), false},
	})
}

func TestCompareRationals(t *testing.T) {
	for _, c := range []struct {
		a, b impl.Rational
		want int
	}{
		{rational(1, 2), rational(2, 3), -1},
		{rational(2, 3), rational(1, 2), 1},
		{rational(1, 2), rational(1, 2), 0},
		{rational(-1, 2), rational(-2, 3), 1},
		{rational(-1, 2), rational(0, 1), -1},
		{rational(0, 1), rational(0, 1), 0},
		{rational(999999998, 999999999), rational(999999999, rationalLimit), -1},
		{rational(rationalLimit, 999999999), rational(999999999, 999999998), -1},
		{rational(-rationalLimit, 1), rational(rationalLimit, 1), -1},
	} {
		if got := impl.CompareRationals(c.a, c.b); got != c.want {
			t.Errorf("CompareRationals(%v, %v) = %d", c.a, c.b, got)
		}
	}
	for _, a := range validRationals() {
		for _, b := range validRationals() {
			if got, want := impl.CompareRationals(a, b), exactValue(a).Cmp(exactValue(b)); got != want {
				t.Errorf("CompareRationals(%v, %v) = %d, want %d", a, b, got, want)
			}
		}
	}
}

func TestCompareRationalsRejectsInvalidNumbers(t *testing.T) {
	others := append(invalidRationals(), rational(0, 1), rational(-7, 1), rational(rationalLimit, 1))
	for _, a := range invalidRationals() {
		for _, b := range others {
			if got := impl.CompareRationals(a, b); got != 0 {
				t.Errorf("CompareRationals(%v, %v) = %d", a, b, got)
			}
			if got := impl.CompareRationals(b, a); got != 0 {
				t.Errorf("CompareRationals(%v, %v) = %d", b, a, got)
			}
		}
	}
}

// plainFormat is the test's own format of a valid number.
func plainFormat(r impl.Rational) string {
	if r.Den == 1 {
		return strconv.Itoa(r.Num)
	}
	return strconv.Itoa(r.Num) + "/" + strconv.Itoa(r.Den)
}

func TestFormatRational(t *testing.T) {
	for _, c := range []struct {
		r    impl.Rational
		want string
	}{
		{rational(7, 1), "7"},
		{rational(-2, 3), "-2/3"},
		{rational(0, 1), "0"},
		{rational(-1, 1), "-1"},
		{rational(rationalLimit, 1), "1000000000"},
		{rational(-rationalLimit, 999999999), "-1000000000/999999999"},
		{rational(1, rationalLimit), "1/1000000000"},
	} {
		if got := impl.FormatRational(c.r); got != c.want {
			t.Errorf("FormatRational(%v) = %q, want %q", c.r, got, c.want)
		}
	}
	for _, r := range invalidRationals() {
		if got := impl.FormatRational(r); got != "" {
			t.Errorf("FormatRational(%v) = %q", r, got)
		}
	}
}

func rejectsRational(s string) bool {
	r, ok := impl.ParseRational(s)
	return r == rational(0, 0) && !ok
}

func TestParseRational(t *testing.T) {
	for _, r := range validRationals() {
		s := plainFormat(r)
		if got := impl.FormatRational(r); got != s {
			t.Errorf("FormatRational(%v) = %q", r, got)
		}
		if got, ok := impl.ParseRational(s); got != r || !ok {
			t.Errorf("ParseRational(%q) = %v, %v", s, got, ok)
		}
	}
	for _, r := range invalidRationals() {
		if s := strconv.Itoa(r.Num) + "/" + strconv.Itoa(r.Den); !rejectsRational(s) {
			t.Errorf("ParseRational(%q) returns a number", s)
		}
	}
}

func TestParseRationalRejects(t *testing.T) {
	for _, s := range []string{
		"", "/", "-", "+", "-/", "1/", "/2", "-/2", "2/4", "-2/4", "1/1", "-7/1", "0/1", "0/2", "-0", "-0/1", "00", "01",
		"-01", "1/02", "01/2", "+1", "1/+2", "+1/2", "1/-2", "-1/-2", "--1", "1/0", "0/0", "1//2", "1/2/", "1/2/3", "/1/2",
		" 1", "1 ", "1 /2", "1/ 2", "1/2\n", "1\x00", "\x001", "1/2\x00", "1_0", "1_0/3", "0x1", "1/0x2", "1e3", "1.5", "a",
		"1a", "1/2a", "1:2", "1\\2", "\u0661", "\u22121", "1\u20442", "1000000001", "-1000000001", "1/1000000001",
		"1000000000/1000000000", "1000000000/2", "9223372036854775807", "9223372036854775808", "-9223372036854775808",
		"1/9223372036854775808", "1/18446744073709551618", "18446744073709551617", "18446744073709551617/2",
		strings.Repeat("0", 1000) + "1", strings.Repeat("9", 1000), "1/" + strings.Repeat("0", 1000) + "2", strings.Repeat("/", 1000),
	} {
		if !rejectsRational(s) {
			t.Errorf("ParseRational(%q) returns a number", s)
		}
	}
}

// TestParseRationalAcceptsNothingElse compares ParseRational, on all short
// strings, with the formats of all numbers that are as short.
func TestParseRationalAcceptsNothingElse(t *testing.T) {
	const length = 5
	formats := map[string]impl.Rational{}
	for num := -9999; num <= 99999; num++ {
		for den := 1; den <= 999; den++ {
			r := rational(num, den)
			if s := plainFormat(r); len(s) > length {
				break
			} else if exactValue(r) != nil {
				formats[s] = r
			}
		}
	}
	for _, s := range allStrings("01234/-+ _\x00", length) {
		want, wantOk := formats[s]
		if got, ok := impl.ParseRational(s); got != want || ok != wantOk {
			t.Fatalf("ParseRational(%q) = %v, %v, want %v, %v", s, got, ok, want, wantOk)
		}
	}
}
