package tests

import (
	"fmt"
	"math"
	"math/big"
	"math/rand"
	"regexp"
	"slices"
	"strconv"
	"strings"
	"testing"

	"loop.example/g01917/impl"
)

const weightPartLimit = 1000
const scaleLimit = 1000

var oneRationalFormat = regexp.MustCompile(`^(0|-?[1-9][0-9]{0,9})(?:/([1-9][0-9]{0,9}))?$`)

// plainParseRationals is the test's own parser of numbers.
func plainParseRationals(s string) ([]impl.Rational, bool) {
	if s == "" {
		return nil, true
	}
	var all []impl.Rational
	for _, text := range strings.Split(s, " ") {
		parts := oneRationalFormat.FindStringSubmatch(text)
		if parts == nil {
			return nil, false
		}
		r := rational(0, 1)
		r.Num, _ = strconv.Atoi(parts[1])
		if parts[2] != "" {
			r.Den, _ = strconv.Atoi(parts[2])
		}
		if exactValue(r) == nil || plainFormat(r) != text {
			return nil, false
		}
		all = append(all, r)
	}
	return all, true
}

// plainFormatRationals is the test's own format of valid numbers.
func plainFormatRationals(list []impl.Rational) string {
	text := ""
	for i, r := range list {
		text += strings.Repeat(" ", min(i, 1)) + plainFormat(r)
	}
	return text
}

func parsedRationals(t *testing.T, s string) []impl.Rational {
	t.Helper()
	list, ok := plainParseRationals(s)
	if !ok {
		t.Fatalf("%q are no numbers", s)
	}
	return list
}

// describeRationals keeps messages about long lists readable.
func describeRationals(list []impl.Rational) string {
	return fmt.Sprintf("%d:%v", len(list), list[:min(len(list), 8)])
}

// sameRationals is the test's own comparison of any lists.
func sameRationals(a, b []impl.Rational) bool {
	if len(a) != len(b) {
		return false
	}
	for i := range a {
		if a[i].Num != b[i].Num || a[i].Den != b[i].Den {
			return false
		}
	}
	return true
}

// plainSum is the test's own result of SumRationals.
func plainSum(list []impl.Rational) (impl.Rational, bool) {
	sum := new(big.Rat)
	for _, r := range list {
		x := exactValue(r)
		if x == nil {
			return impl.Rational{}, false
		}
		sum.Add(sum, x)
		if _, ok := rationalOf(sum); !ok {
			return impl.Rational{}, false
		}
	}
	return rationalOf(sum)
}

func checkSum(t *testing.T, list []impl.Rational) {
	t.Helper()
	want, wantOk := plainSum(list)
	if got, ok := impl.SumRationals(list); got != want || ok != wantOk {
		t.Fatalf("SumRationals(%s) = %v, %v, want %v, %v", describeRationals(list), got, ok, want, wantOk)
	}
}

// sumCases lists numbers and their sum; none if there is no sum.
var sumCases = []struct{ numbers, sum string }{
	{"", "0"},
	{"0", "0"},
	{"7", "7"},
	{"-2/3", "-2/3"},
	{"1/2 1/3", "5/6"},
	{"1/2 1/2", "1"},
	{"1/2 -1/2", "0"},
	{"-1/2 -1/3", "-5/6"},
	{"1/3 1/3 1/3", "1"},
	{"1/6 1/10 1/15", "1/3"},
	{"0 0 0 0", "0"},
	{"3 -1/2 5/4 0 7", "43/4"},
	{"1000000000", "1000000000"},
	{"-1000000000", "-1000000000"},
	{"1/1000000000", "1/1000000000"},
	{"999999999 1", "1000000000"},
	{"-999999999 -1", "-1000000000"},
	{"1/1000000000 999999999/1000000000", "1"},
	{"1000000000 1", ""},
	{"-1000000000 -1", ""},
	{"1000000000 1 -1", ""},
	{"1000000000 -1 1", "1000000000"},
	{"1 1000000000 -1000000000", ""},
	{"-1 1000000000 1", "1000000000"},
	{"-1000000000 -1 1000000000 1000000000", ""},
	{"-1000000000 1000000000 1000000000 -1", "999999999"},
	{"500000000 1/2", ""},
	{"500000000 1/2 -1/2", ""},
	{"1/31623 1/31624", ""},
	{"1/31623 1/31624 -1/31624", ""},
	{"1/31624 -1/31624 1/31623", "1/31623"},
	{"1/31623 1/31624 -1/31623 -1/31624", ""},
	{"1/1000000000 1/1000000000", "1/500000000"},
	{"1/1000000000 1/999999999", ""},
}

func TestSumRationals(t *testing.T) {
	for _, c := range sumCases {
		list, want := parsedRationals(t, c.numbers), impl.Rational{}
		if c.sum != "" {
			want = parsedRationals(t, c.sum)[0]
		}
		if got, ok := impl.SumRationals(list); got != want || ok != (c.sum != "") {
			t.Errorf("SumRationals(%s) = %v, %v, want %v", c.numbers, got, ok, want)
		}
		checkSum(t, list)
	}
}

func TestSumsAreExact(t *testing.T) {
	random := rand.New(rand.NewSource(21))
	small := append([]impl.Rational{rational(1, 7), rational(-3, 4), rational(rationalLimit, 1), rational(1, rationalLimit)}, invalidRationals()[:6]...)
	for _, a := range small {
		for _, b := range small {
			for _, c := range small {
				checkSum(t, []impl.Rational{a, b, c})
			}
		}
	}
	valid := validRationals()
	sums := 0
	for range 20000 {
		var list []impl.Rational
		for range 1 + random.Intn(5) {
			list = append(list, rational(1, 1))
			if r := rational(random.Intn(41)-20, 1+random.Intn(12)); exactValue(r) != nil {
				list = append(list, r)
			}
			if random.Intn(4) == 0 {
				list = append(list, valid[random.Intn(len(valid))])
			}
		}
		checkSum(t, list)
		if _, ok := plainSum(list); ok {
			sums++
		}
	}
	if sums < 5000 || sums > 19000 {
		t.Errorf("%d of the lists have a sum", sums)
	}
}

// TestSumsOfInvalidNumbers puts an invalid number at each place of a list.
func TestSumsOfInvalidNumbers(t *testing.T) {
	for _, s := range []string{"", "1/2", "1/2 1/3", "0 0 0", "1/2 -1/2 7 1/6", "1000000000 1 -1"} {
		list := parsedRationals(t, s)
		for _, r := range invalidRationals() {
			for i := range len(list) + 1 {
				wrong := slices.Insert(slices.Clone(list), i, r)
				if got, ok := impl.SumRationals(wrong); got != (impl.Rational{}) || ok {
					t.Errorf("SumRationals(%v) = %v, %v", wrong, got, ok)
				}
			}
		}
	}
}

func TestSumsOfLongLists(t *testing.T) {
	const count = 1000000
	for _, c := range []struct {
		list []impl.Rational
		want impl.Rational
		ok   bool
	}{
		{slices.Repeat([]impl.Rational{{Num: 1000, Den: 1}}, count), rational(rationalLimit, 1), true},
		{slices.Repeat([]impl.Rational{{Num: 1000, Den: 1}}, count+1), rational(0, 0), false},
		{slices.Repeat([]impl.Rational{{Num: 1, Den: count}}, count), rational(1, 1), true},
		{slices.Repeat([]impl.Rational{{Num: 1, Den: 2}, {Num: -1, Den: 2}}, count), rational(0, 1), true},
		{append(slices.Repeat([]impl.Rational{{Num: 0, Den: 1}}, count), impl.Rational{}), rational(0, 0), false},
	} {
		if got, ok := impl.SumRationals(c.list); got != c.want || ok != c.ok {
			t.Errorf("SumRationals(%s) = %v, %v", describeRationals(c.list), got, ok)
		}
	}
}

// plainAreWeights is the test's own check of that many admissible weights.
func plainAreWeights(list []impl.Rational, count int) bool {
	for _, r := range list {
		if exactValue(r) == nil || r.Num < 0 || r.Num > weightPartLimit || r.Den > weightPartLimit {
			return false
		}
	}
	return len(list) == count
}

// plainCompareWithOne compares the sum with 1.
func plainCompareWithOne(list []impl.Rational) (int, bool) {
	sum, ok := plainSum(list)
	if !ok {
		return 0, false
	}
	return exactValue(sum).Cmp(big.NewRat(1, 1)), true
}

// plainIsCover is the test's own result of IsFractionalCover.
func plainIsCover(q impl.Query, weights []impl.Rational) bool {
	if !plainIsValidQuery(q) || !plainAreWeights(weights, len(q.Atoms)) {
		return false
	}
	for v := range q.VariableCount {
		var list []impl.Rational
		for i, a := range q.Atoms {
			if plainOccurs(a.Vars, v) {
				list = append(list, weights[i])
			}
		}
		if order, ok := plainCompareWithOne(list); !ok || order < 0 {
			return false
		}
	}
	return true
}

// plainIsPacking is the test's own result of IsFractionalPacking.
func plainIsPacking(q impl.Query, weights []impl.Rational) bool {
	if !plainIsValidQuery(q) || !plainAreWeights(weights, q.VariableCount) {
		return false
	}
	for _, a := range q.Atoms {
		var list []impl.Rational
		for _, v := range plainAtomVariables(a) {
			list = append(list, weights[v])
		}
		if order, ok := plainCompareWithOne(list); !ok || order > 0 {
			return false
		}
	}
	return true
}

// checkWeights compares both functions with the test's own results and reports
// these.
func checkWeights(t *testing.T, q impl.Query, weights []impl.Rational) (isCover, isPacking bool) {
	t.Helper()
	isCover, isPacking = plainIsCover(q, weights), plainIsPacking(q, weights)
	if got := impl.IsFractionalCover(q, weights); got != isCover {
		t.Fatalf("IsFractionalCover(%s, %s) = %v", describeQuery(q), describeRationals(weights), got)
	}
	if got := impl.IsFractionalPacking(q, weights); got != isPacking {
		t.Fatalf("IsFractionalPacking(%s, %s) = %v", describeQuery(q), describeRationals(weights), got)
	}
	return isCover, isPacking
}

type weightCase struct {
	query, weights string
	want           bool
}

// The last sums of four weights fail or not depending on the order of the
// atoms, because of a partial sum.
var coverCases = []weightCase{
	{"()=r(X)", "1", true},
	{"()=r(X)", "0", false},
	{"()=r(X)", "999/1000", false},
	{"()=r(X)", "1000/999", true},
	{"()=r(X)", "1001/1000", false},
	{"()=r(X)", "1000", true},
	{"()=r(X)", "1001", false},
	{"()=r(X)", "1000000000", false},
	{"()=r(X)", "", false},
	{"()=r(X)", "1 1", false},
	{"(X)=r(XX)", "1/2", false},
	{"(X)=r(XX)", "1", true},
	{"()=r(XYZUV)", "1", true},
	{"()=r(XYZUV)", "999/1000", false},
	{"()=r(XYZUV)", "1 0 0 0 0", false},
	{"(XYZ)=r(XY),s(YZ),t(ZX)", "1/2 1/2 1/2", true},
	{"(XYZ)=r(XY),s(YZ),t(ZX)", "1/2 1/2 0", false},
	{"(XYZ)=r(XY),s(YZ),t(ZX)", "1/2 0 1/2", false},
	{"(XYZ)=r(XY),s(YZ),t(ZX)", "0 1/2 1/2", false},
	{"(XYZ)=r(XY),s(YZ),t(ZX)", "1 1 0", true},
	{"(XYZ)=r(XY),s(YZ),t(ZX)", "1 0 1", true},
	{"(XYZ)=r(XY),s(YZ),t(ZX)", "0 1 1", true},
	{"(XYZ)=r(XY),s(YZ),t(ZX)", "1 0 0", false},
	{"(XYZ)=r(XY),s(YZ),t(ZX)", "1/2 1/2", false},
	{"(XYZ)=r(XY),s(YZ),t(ZX)", "1/2 1/2 1/2 1/2", false},
	{"(XYZ)=r(XY),s(YZ),t(ZX)", "", false},
	{"(XYZ)=r(XY),s(YZ),t(ZX)", "1/3 2/3 2/3", true},
	{"(XYZ)=r(XY),s(YZ),t(ZX)", "1/3 2/3 1/2", false},
	{"(XYZ)=r(XY),s(YZ),t(ZX)", "499/1000 1/2 501/1000", false},
	{"(XYZ)=r(XY),s(YZ),t(ZX)", "499/1000 501/1000 501/1000", true},
	{"(XYZ)=r(XY),s(YZ),t(ZX)", "499/1000 501/1000 1/2", false},
	{"(XYZ)=r(XY),s(YZ),t(ZX)", "-1/2 3/2 3/2", false},
	{"(XYZ)=r(XY),s(YZ),t(ZX)", "1 1 -1/1000", false},
	{"(XYZ)=r(XY),s(YZ),t(ZX)", "1 1 1/1000", true},
	{"(XYZ)=r(XY),s(YZ),t(ZX)", "1 1 1/1001", false},
	{"(XYZ)=r(XY),s(YZ),t(ZX)", "1 1 1000/1001", false},
	{"(XYZ)=r(XY),s(YZ),t(ZX)", "1 1000 1", true},
	{"(XYZ)=r(XY),s(YZ),t(ZX)", "1 1001 1", false},
	{"(XYZ)=r(XY),s(YZ),t(ZX)", "1001/2 1 1", false},
	{"()=r(X),s(X),t(X)", "1/3 1/3 1/3", true},
	{"()=r(X),s(X),t(X)", "1/3 1/3 333/1000", false},
	{"()=r(X),s(X),t(X)", "1/2 1/3 1/6", true},
	{"()=r(X),s(X),t(X)", "1/2 1/3 1/7", false},
	{"()=r(X),s(X),t(X)", "1/1000 0 999/1000", true},
	{"()=r(X),s(X),t(X)", "1/1000 0 499/500", false},
	{"()=r(X),r(X),r(X),r(X)", "1/4 1/4 1/4 1/4", true},
	{"()=r(X),r(X),r(X),r(X)", "1/4 1/4 1/4 249/1000", false},
	{"()=r(X),r(X),r(X),r(X)", "1/3 1/4 1/5 13/60", true},
	{"()=r(X),s(Y)", "1 1", true},
	{"()=r(X),s(Y)", "2 999/1000", false},
	{"()=r(XY),s(YZ),t(ZU)", "1 0 1", true},
	{"()=r(XY),s(YZ),t(ZU)", "1 1 0", false},
	{"()=r(XYZ),s(YZU),t(ZUX),u(UXY)", "1/3 1/3 1/3 1/3", true},
	{"()=r(XYZ),s(YZU),t(ZUX),u(UXY)", "1/3 1/3 1/3 333/1000", false},
	{"()=r(X),s(X)", "1000/997 1000/991", true},
	{"()=r(X),s(X),t(X)", "1000/997 1000/991 1000/983", false},
	{"()=r(X),s(X),t(X),u(X)", "1/997 1/991 1/983 1", true},
	{"()=r(X),s(X),t(X),u(X)", "1/997 1/991 1/983 2", false},
	{"()=r(X),s(X),t(X),u(X)", "997/998 990/991 982/983 1/998", false},
	{"()=r(X),s(X),t(X),u(X)", "1/998 997/998 990/991 982/983", true},
	{"()=r(X),s(X),t(X),u(XY)", "1000/997 1000/991 1000/983 1", false},
	{"()=u(YX),r(Y),s(Y),t(Y)", "1 1000/997 1000/991 1000/983", false},
}

// The first sums of five weights fail or not depending on the order of the
// variables (ascending, not as in the atom), because of a partial sum.
var packingCases = []weightCase{
	{"()=r(VUZYX)", "1/998 249/499 1/997 1/991 1/500", true},
	{"()=r(VUZYX)", "1/500 1/991 1/997 249/499 1/998", false},
	{"()=r(XYZUV)", "1/998 249/499 1/997 1/991 1/500", true},
	{"()=r(XYZUV)", "1/500 1/991 1/997 249/499 1/998", false},
	{"()=r(X),s(YZUV)", "1/2 1/997 1/991 1/983 1/977", false},
	{"()=r(X),s(YZUV)", "1/2 0 1/991 1/983 1/977", true},
	{"()=r(X)", "1", true},
	{"()=r(X)", "0", true},
	{"()=r(X)", "1000/999", false},
	{"()=r(X)", "999/1000", true},
	{"()=r(X)", "1/1000", true},
	{"()=r(X)", "1/1001", false},
	{"()=r(X)", "1001/1002", false},
	{"()=r(X)", "-1/2", false},
	{"()=r(X)", "", false},
	{"()=r(X)", "0 0", false},
	{"()=r(XX)", "1", true},
	{"()=r(XXXXX)", "1", true},
	{"()=r(XYX)", "2/3 1/3", true},
	{"()=r(XYX)", "2/3 167/500", false},
	{"()=r(XYX)", "667/1000 1/3", false},
	{"(XYZ)=r(XY),s(YZ),t(ZX)", "1/2 1/2 1/2", true},
	{"(XYZ)=r(XY),s(YZ),t(ZX)", "1/2 1/2 2/3", false},
	{"(XYZ)=r(XY),s(YZ),t(ZX)", "501/1000 1/2 499/1000", false},
	{"(XYZ)=r(XY),s(YZ),t(ZX)", "501/1000 499/1000 499/1000", true},
	{"(XYZ)=r(XY),s(YZ),t(ZX)", "1 0 0", true},
	{"(XYZ)=r(XY),s(YZ),t(ZX)", "0 1 0", true},
	{"(XYZ)=r(XY),s(YZ),t(ZX)", "0 0 1", true},
	{"(XYZ)=r(XY),s(YZ),t(ZX)", "1 0 1/1000", false},
	{"(XYZ)=r(XY),s(YZ),t(ZX)", "0 0 0", true},
	{"(XYZ)=r(XY),s(YZ),t(ZX)", "1/2 1/2", false},
	{"(XYZ)=r(XY),s(YZ),t(ZX)", "1/2 1/2 1/2 1/2", false},
	{"(XYZ)=r(XY),s(YZ),t(ZX)", "1/2 1/2 -1/2", false},
	{"()=r(XYZ),s(YZU),t(ZUX),u(UXY)", "1/3 1/3 1/3 1/3", true},
	{"()=r(XYZ),s(YZU),t(ZUX),u(UXY)", "1/3 1/3 1/3 167/500", false},
	{"()=r(X),s(Y)", "1 1", true},
	{"()=r(X),r(X),r(X),r(X)", "1", true},
	{"()=r(X),r(X),r(X),r(X)", "1/4 1/4 1/4 1/4", false},
	{"()=r(XY),s(YZ),t(ZU)", "1 0 0 1", true},
	{"()=r(XY),s(YZ),t(ZU)", "1 0 1 0", true},
	{"()=r(XY),s(YZ),t(ZU)", "1 0 1 1/1000", false},
	{"()=r(XYZUV)", "1/5 1/5 1/5 1/5 1/5", true},
	{"()=r(XYZUV)", "1/5 1/5 1/5 1/5 201/1000", false},
}

func TestIsFractionalCover(t *testing.T) {
	for _, c := range coverCases {
		q, weights := parsedQuery(t, c.query), parsedRationals(t, c.weights)
		if got := impl.IsFractionalCover(q, weights); got != c.want {
			t.Errorf("IsFractionalCover(%s, %s) = %v", c.query, c.weights, got)
		}
		checkWeights(t, q, weights)
	}
}

func TestIsFractionalPacking(t *testing.T) {
	for _, c := range packingCases {
		q, weights := parsedQuery(t, c.query), parsedRationals(t, c.weights)
		if got := impl.IsFractionalPacking(q, weights); got != c.want {
			t.Errorf("IsFractionalPacking(%s, %s) = %v", c.query, c.weights, got)
		}
		checkWeights(t, q, weights)
	}
}

// TestWeightsOfExactlyOne takes all weights with small denominators for one sum;
// where this is 1, it makes the last weight a little less or more.
func TestWeightsOfExactlyOne(t *testing.T) {
	for count := 1; count <= atomLimit; count++ {
		cover, packing := query(1, nil), query(count, nil, atom("r"))
		for v := range count {
			cover.Atoms = append(cover.Atoms, atom("r", 0))
			packing.Atoms[0].Vars = append(packing.Atoms[0].Vars, v)
		}
		for den := 1; den <= 12; den++ {
			parts := []int{}
			for n := range den + 1 {
				parts = append(parts, n)
			}
			for _, nums := range rowsOfLength(parts, count) {
				sum := 0
				var weights, less, more []impl.Rational
				for _, n := range nums {
					sum += n
					w, _ := rationalOf(big.NewRat(int64(n), int64(den)))
					weights = append(weights, w)
				}
				less, more = slices.Clone(weights), slices.Clone(weights)
				last := big.NewRat(int64(nums[count-1]), int64(den))
				less[count-1], _ = rationalOf(new(big.Rat).Sub(last, big.NewRat(1, int64(50*den))))
				more[count-1], _ = rationalOf(new(big.Rat).Add(last, big.NewRat(1, int64(50*den))))
				if impl.IsFractionalCover(cover, weights) != (sum >= den) || impl.IsFractionalPacking(packing, weights) != (sum <= den) {
					t.Fatalf("the sum of %v is %d/%d", weights, sum, den)
				}
				if sum == den && (impl.IsFractionalCover(cover, less) || impl.IsFractionalPacking(packing, more)) {
					t.Fatalf("the sums of %v and %v are not 1", less, more)
				}
			}
		}
	}
}

// sampleWeights contains numbers on both sides of each limit of the weights.
func sampleWeights() []impl.Rational {
	var all []impl.Rational
	for _, num := range []int{math.MinInt, -1001, -1000, -2, -1, 0, 1, 2, 3, 499, 500, 501, 998, 999, 1000, 1001, 1002, 1 << 32, rationalLimit, rationalLimit + 1} {
		for _, den := range []int{-1, 0, 1, 2, 3, 499, 500, 501, 998, 999, 1000, 1001, 1002, 1 << 32, rationalLimit, math.MaxInt} {
			all = append(all, rational(num, den))
		}
	}
	return append(all, invalidRationals()...)
}

// TestAdmissibleWeights adds one number to weights that are a cover without it,
// and to weights that are a packing.
func TestAdmissibleWeights(t *testing.T) {
	cover, packing := parsedQuery(t, "()=r(XY),s(Y),t(YX),u(X)"), parsedQuery(t, "()=r(X),s(X),t(YZ),u(UZ)")
	admissible := 0
	for _, w := range sampleWeights() {
		for i := range 3 {
			weights := slices.Insert(slices.Repeat([]impl.Rational{{Num: 1, Den: 1}}, 3), i, w)
			isCover, _ := checkWeights(t, cover, weights)
			if isCover != plainAreWeights([]impl.Rational{w}, 1) {
				t.Fatalf("%v: %v", weights, isCover)
			}
			if isCover {
				admissible++
			}
			checkWeights(t, packing, slices.Insert(slices.Repeat([]impl.Rational{{Num: 0, Den: 1}}, 3), i, w))
		}
		checkWeights(t, parsedQuery(t, "()=r(X)"), []impl.Rational{w})
	}
	if admissible < 100 {
		t.Errorf("only %d weights are admissible", admissible)
	}
}

// randomWeight is mostly a simple fraction, and sometimes one whose denominator
// is a large prime, or a number that is not admissible.
func randomWeight(random *rand.Rand) impl.Rational {
	if random.Intn(60) == 0 {
		samples := sampleWeights()
		return samples[random.Intn(len(samples))]
	}
	den := 1 + random.Intn(4)
	if random.Intn(4) == 0 {
		den = []int{499, 500, 977, 983, 991, 997, 998, 999, 1000}[random.Intn(9)]
	}
	w, _ := rationalOf(big.NewRat(int64(random.Intn(den+1+den/8)), int64(den)))
	return w
}

func randomWeights(random *rand.Rand, count int) []impl.Rational {
	weights := []impl.Rational{}
	for range count {
		weights = append(weights, randomWeight(random))
	}
	return weights
}

func TestWeightsOfAllQueries(t *testing.T) {
	random := rand.New(rand.NewSource(22))
	covers, packings := 0, 0
	queries := validQueries()
	for i := range 3000 {
		queries = append(queries, randomQuery(random))
		if i%100 == 0 {
			queries = append(queries, parsedQuery(t, "()=r(X),s(X),t(X),u(X)"), parsedQuery(t, "()=r(XYZUV)"))
		}
	}
	for _, q := range queries {
		for _, count := range []int{len(q.Atoms), len(q.Atoms), q.VariableCount, q.VariableCount, random.Intn(7)} {
			weights := randomWeights(random, count)
			isCover, isPacking := checkWeights(t, q, weights)
			if isCover {
				covers++
			}
			for k := range weights {
				weights[k], _ = impl.MulRational(weights[k], rational(1, 3))
			}
			_, alsoPacking := checkWeights(t, q, weights)
			if isPacking || alsoPacking {
				packings++
			}
		}
	}
	if covers < 500 || packings < 500 {
		t.Errorf("%d covers, %d packings", covers, packings)
	}
}

func TestWeightsOfInvalidQueries(t *testing.T) {
	for _, q := range invalidQueries() {
		for _, w := range []impl.Rational{rational(0, 1), rational(1, 5), rational(1, 1)} {
			for _, count := range []int{0, 1, 2, 3, 4, 5, len(q.Atoms), max(min(q.VariableCount, 1000), 0)} {
				weights := slices.Repeat([]impl.Rational{w}, count)
				if impl.IsFractionalCover(q, weights) || impl.IsFractionalPacking(q, weights) {
					t.Fatalf("%s has the weights %s", describeQuery(q), describeRationals(weights))
				}
			}
		}
	}
}

func TestManyWeights(t *testing.T) {
	for _, q := range []impl.Query{parsedQuery(t, "()=r(X)"), parsedQuery(t, "()=r(XYZU),s(X),t(V),u(Y)"), {}} {
		for _, w := range []impl.Rational{rational(0, 1), rational(1, 1), {}} {
			weights := slices.Repeat([]impl.Rational{w}, 1000000)
			if impl.IsFractionalCover(q, weights) || impl.IsFractionalPacking(q, weights) {
				t.Errorf("%s has a million weights", describeQuery(q))
			}
		}
	}
}

// coverQueries contains the queries of earlier tests and some with each number
// of atoms and of variables, each with names of relations that differ.
func coverQueries(t *testing.T) []impl.Query {
	all := []impl.Query{parsedQuery(t, "()=r(XYZ),s(XU),t(YU),u(ZU)")}
	for _, c := range treeCases {
		all = append(all, parsedQuery(t, c.query))
	}
	for _, c := range graphCases {
		all = append(all, parsedQuery(t, c.query))
	}
	for i, q := range queriesOfAllSets() {
		if i%400 == 0 && plainIsValidQuery(q) {
			all = append(all, q)
		}
	}
	for i := range all {
		all[i] = cloneOfQuery(all[i])
		for k := range all[i].Atoms {
			all[i].Atoms[k].Relation = "rstu"[k : k+1]
		}
	}
	return all
}

// The vertices of covers and of packings have denominators up to 3, because
// there are at most four atoms: these sixths contain the best ones.
var sixths = []int{0, 2, 3, 4, 6}

func sixthsAsWeights(nums []int) []impl.Rational {
	weights := []impl.Rational{}
	for _, n := range nums {
		weights = append(weights, map[int]impl.Rational{0: rational(0, 1), 2: rational(1, 3), 3: rational(1, 2), 4: rational(2, 3), 6: rational(1, 1)}[n])
	}
	return weights
}

func total(list []int) int {
	sum := 0
	for _, n := range list {
		sum += n
	}
	return sum
}

// coversAndPackings returns all of these lists that the program accepts.
func coversAndPackings(q impl.Query) (covers, packings [][]int) {
	for _, nums := range rowsOfLength(sixths, len(q.Atoms)) {
		if impl.IsFractionalCover(q, sixthsAsWeights(nums)) {
			covers = append(covers, nums)
		}
	}
	for _, nums := range rowsOfLength(sixths, q.VariableCount) {
		if impl.IsFractionalPacking(q, sixthsAsWeights(nums)) {
			packings = append(packings, nums)
		}
	}
	return covers, packings
}

// plainSixths counts the covers and the packings among these lists.
func plainSixths(q impl.Query) (covers, packings int) {
	for _, nums := range rowsOfLength(sixths, len(q.Atoms)) {
		isCover := true
		for v := range q.VariableCount {
			sum := 0
			for i, a := range q.Atoms {
				if plainOccurs(a.Vars, v) {
					sum += nums[i]
				}
			}
			isCover = isCover && sum >= 6
		}
		if isCover {
			covers++
		}
	}
	for _, nums := range rowsOfLength(sixths, q.VariableCount) {
		isPacking := true
		for _, a := range q.Atoms {
			sum := 0
			for _, v := range plainAtomVariables(a) {
				sum += nums[v]
			}
			isPacking = isPacking && sum <= 6
		}
		if isPacking {
			packings++
		}
	}
	return covers, packings
}

// TestMinimumCoversWeighAsMaximumPackings also checks that no packing weighs
// more than a cover.
func TestMinimumCoversWeighAsMaximumPackings(t *testing.T) {
	weights := map[int]int{}
	for _, q := range coverQueries(t) {
		covers, packings := coversAndPackings(q)
		lightest, heaviest := math.MaxInt, -1
		for _, nums := range covers {
			lightest = min(lightest, total(nums))
		}
		for _, nums := range packings {
			heaviest = max(heaviest, total(nums))
		}
		if lightest != heaviest {
			t.Errorf("%s: the minimum cover weighs %d/6, the maximum packing %d/6", describeQuery(q), lightest, heaviest)
		}
		coverCount, packingCount := plainSixths(q)
		if len(covers) != coverCount || len(packings) != packingCount {
			t.Errorf("%s: %d covers and %d packings, want %d and %d", describeQuery(q), len(covers), len(packings), coverCount, packingCount)
		}
		weights[lightest]++
	}
	for _, weight := range []int{6, 8, 9, 10, 12, 15, 18, 24} {
		if weights[weight] == 0 {
			t.Errorf("no query has a minimum cover of %d/6: %v", weight, weights)
		}
	}
}

// isWithinBound is the test's own comparison of a number of bindings with the
// product of these powers of the sizes.
func isWithinBound(sizes, exponents []int, scale, bindings int) bool {
	bound := big.NewInt(1)
	for i, size := range sizes {
		bound.Mul(bound, new(big.Int).Exp(big.NewInt(int64(size)), big.NewInt(int64(exponents[i])), nil))
	}
	rows := new(big.Int).Exp(big.NewInt(int64(bindings)), big.NewInt(int64(scale)), nil)
	return rows.Cmp(bound) <= 0
}

func sizesOfAtoms(db impl.Database, q impl.Query) []int {
	var sizes []int
	for _, a := range q.Atoms {
		sizes = append(sizes, len(impl.AtomBindings(db, a).Rows))
	}
	return sizes
}

// TestCoversBoundTheBindings takes the covers among random weights: with the
// exponents of ScaleToIntegers, no database has more bindings than their bound.
func TestCoversBoundTheBindings(t *testing.T) {
	random := rand.New(rand.NewSource(23))
	checked := 0
	for i := range 1500 {
		db, q := randomDatabase(random, 1+i%5), randomQuery(random)
		bindings, sizes := len(impl.AllBindings(db, q).Rows), sizesOfAtoms(db, q)
		for range 20 {
			weights := randomWeights(random, len(q.Atoms))
			exponents, scale := impl.ScaleToIntegers(weights)
			if !impl.IsFractionalCover(q, weights) || scale == 0 {
				continue
			}
			if bindings > 0 {
				checked++
			}
			if !isWithinBound(sizes, exponents, scale, bindings) {
				t.Fatalf("%s has %d bindings in %s, more than the bound of %v", describeQuery(q), bindings, describeDatabase(db), weights)
			}
		}
	}
	if checked < 2000 {
		t.Errorf("only %d covers are checked", checked)
	}
}

// databaseOfVariable has one row for each of 16 values of the variable and the
// value 0 for all others.
func databaseOfVariable(q impl.Query, variable int) impl.Database {
	db := impl.Database{}
	for _, a := range q.Atoms {
		var rows [][]int
		for value := range tableRowLimit {
			row := make([]int, len(a.Vars))
			for k, v := range a.Vars {
				if v == variable {
					row[k] = value
				}
			}
			rows = append(rows, row)
		}
		r, _ := plainRelation(len(a.Vars), rows)
		db.Tables = append(db.Tables, table(a.Relation, r))
	}
	return db
}

// TestOnlyCoversBoundTheBindings finds, for weights that are no cover, a
// database with more bindings than their bound.
func TestOnlyCoversBoundTheBindings(t *testing.T) {
	for _, q := range coverQueries(t) {
		var sizes [][]int
		for v := range q.VariableCount {
			db := databaseOfVariable(q, v)
			if bindings := len(impl.AllBindings(db, q).Rows); bindings != tableRowLimit {
				t.Fatalf("%s has %d bindings in %s", describeQuery(q), bindings, describeDatabase(db))
			}
			sizes = append(sizes, sizesOfAtoms(db, q))
		}
		for i, nums := range rowsOfLength(sixths, len(q.Atoms)) {
			if len(q.Atoms) == atomLimit && i%4 != 0 {
				continue
			}
			weights := sixthsAsWeights(nums)
			exponents, scale := impl.ScaleToIntegers(weights)
			isBound := true
			for v := range q.VariableCount {
				isBound = isBound && isWithinBound(sizes[v], exponents, scale, tableRowLimit)
			}
			if got := impl.IsFractionalCover(q, weights); got != isBound {
				t.Fatalf("IsFractionalCover(%s, %v) = %v, but the bound holds: %v", describeQuery(q), weights, got, isBound)
			}
		}
	}
}

// plainScale is the test's own result of ScaleToIntegers: it tries one
// denominator after another.
func plainScale(list []impl.Rational) ([]int, int) {
	for _, r := range list {
		if exactValue(r) == nil || r.Num < 0 {
			return nil, 0
		}
	}
	for d := 1; d <= scaleLimit; d++ {
		scaled := []int{}
		for _, r := range list {
			if r.Num*d%r.Den == 0 {
				scaled = append(scaled, r.Num*d/r.Den)
			}
		}
		if len(scaled) == len(list) {
			return scaled, d
		}
	}
	return nil, 0
}

func checkScale(t *testing.T, list []impl.Rational) {
	t.Helper()
	want, wantScale := plainScale(list)
	got, scale := impl.ScaleToIntegers(list)
	if plainOrder(got, want) != 0 || scale != wantScale {
		t.Fatalf("ScaleToIntegers(%s) = %v, %d, want %v, %d", describeRationals(list), short(got), scale, short(want), wantScale)
	}
}

// scaleCases lists weights, the scaled ones, and the scale.
var scaleCases = []struct {
	weights string
	scaled  []int
	scale   int
}{
	{"", nil, 1},
	{"0", []int{0}, 1},
	{"1", []int{1}, 1},
	{"1/2", []int{1}, 2},
	{"1/2 1/2 1/2", []int{1, 1, 1}, 2},
	{"1/2 2/3 1", []int{3, 4, 6}, 6},
	{"1 2/3 1/2 0", []int{6, 4, 3, 0}, 6},
	{"1/4 1/6", []int{3, 2}, 12},
	{"3/4 5/6 7/8 2/9", []int{54, 60, 63, 16}, 72},
	{"7 0 12", []int{7, 0, 12}, 1},
	{"1/1000", []int{1}, 1000},
	{"1/1000 1/500 1/8 1/125", []int{1, 2, 125, 8}, 1000},
	{"1/8 1/125", []int{125, 8}, 1000},
	{"1/27 1/37", []int{37, 27}, 999},
	{"1/999 1/37 0", []int{1, 27, 0}, 999},
	{"1000000000", []int{1000000000}, 1},
	{"1000000000 1/1000", []int{1000000000000, 1}, 1000},
	{"999999999/1000 1000000000", []int{999999999, 1000000000000}, 1000},
	{"1000000000/999", []int{1000000000}, 999},
	{"1/1001", nil, 0},
	{"1/7 1/11 1/13", nil, 0},
	{"1/7 1/143", nil, 0},
	{"1/1000 1/999", nil, 0},
	{"1/1000 1/3", nil, 0},
	{"1/31 1/33", nil, 0},
	{"1/501 1/2", nil, 0},
	{"1/16 1/125", nil, 0},
	{"1/1000000000", nil, 0},
	{"1 1/1000000000", nil, 0},
	{"1/999999999 1/1000000000", nil, 0},
	{"1/1000 1/999999937", nil, 0},
	{"-1", nil, 0},
	{"-1/2", nil, 0},
	{"1/2 -1/2", nil, 0},
	{"-1/1000000000 1", nil, 0},
}

func TestScaleToIntegers(t *testing.T) {
	for _, c := range scaleCases {
		list := parsedRationals(t, c.weights)
		if got, scale := impl.ScaleToIntegers(list); plainOrder(got, c.scaled) != 0 || scale != c.scale {
			t.Errorf("ScaleToIntegers(%s) = %v, %d, want %v, %d", c.weights, got, scale, c.scaled, c.scale)
		}
		checkScale(t, list)
		slices.Reverse(list)
		checkScale(t, list)
	}
}

func TestScaleToIntegersForAllDenominators(t *testing.T) {
	for den := 1; den <= scaleLimit+50; den++ {
		checkScale(t, []impl.Rational{{Num: 1, Den: den}})
		checkScale(t, []impl.Rational{{Num: 1, Den: 2}, {Num: den - 1, Den: den}})
		checkScale(t, []impl.Rational{{Num: 1, Den: den}, {Num: 3, Den: 4}, {Num: 1, Den: 6}})
	}
	for a := 1; a <= 70; a++ {
		for b := 1; b <= 70; b++ {
			checkScale(t, []impl.Rational{{Num: 1, Den: a}, {Num: 1, Den: b}})
		}
	}
	for a := 1; a <= 16; a++ {
		for b := 1; b <= 16; b++ {
			for c := 1; c <= 16; c++ {
				checkScale(t, []impl.Rational{{Num: a, Den: 1}, {Num: 1, Den: a}, {Num: 1, Den: b}, {Num: 1, Den: c}})
			}
		}
	}
}

func TestScaleToIntegersRejects(t *testing.T) {
	for _, w := range sampleWeights() {
		for _, s := range []string{"", "1", "1/2 1/3", "1/7 1/11 1/13", "1/1000"} {
			list := parsedRationals(t, s)
			for i := range len(list) + 1 {
				checkScale(t, slices.Insert(slices.Clone(list), i, w))
			}
		}
	}
	for _, w := range invalidRationals() {
		if got, scale := impl.ScaleToIntegers([]impl.Rational{w}); len(got) != 0 || scale != 0 {
			t.Errorf("ScaleToIntegers(%v) = %v, %d", w, got, scale)
		}
	}
}

func TestScaleLongLists(t *testing.T) {
	list := slices.Repeat([]impl.Rational{{Num: 1, Den: 8}, {Num: 2, Den: 125}, {Num: 0, Den: 1}, {Num: 999, Den: 1000}}, 50000)
	got, scale := impl.ScaleToIntegers(list)
	if want := slices.Repeat([]int{125, 16, 0, 999}, 50000); !slices.Equal(got, want) || scale != scaleLimit {
		t.Errorf("ScaleToIntegers(%s) = %v, %d", describeRationals(list), short(got), scale)
	}
	for _, w := range []impl.Rational{rational(1, 3), rational(-1, 1), rational(2, 4), {}} {
		if got, scale := impl.ScaleToIntegers(append(list, w)); len(got) != 0 || scale != 0 {
			t.Errorf("ScaleToIntegers with %v = %v, %d", w, short(got), scale)
		}
	}
}

// sampleLists contains lists of valid and of invalid numbers.
func sampleLists() [][]impl.Rational {
	all := [][]impl.Rational{nil, {}, make([]impl.Rational, 1), make([]impl.Rational, 2), make([]impl.Rational, 3)}
	numbers := append(invalidRationals(), rational(0, 1), rational(1, 1), rational(-1, 1), rational(1, 2), rational(-2, 3), rational(rationalLimit, 1), rational(1, rationalLimit), rational(-rationalLimit, 999999999))
	for i, a := range numbers {
		all = append(all, []impl.Rational{a}, []impl.Rational{a, a}, []impl.Rational{rational(a.Den, a.Num)}, []impl.Rational{rational(a.Num-1, a.Den)}, []impl.Rational{rational(a.Num, a.Den+1)})
		for k, b := range numbers {
			all = append(all, []impl.Rational{a, b})
			if (i+k)%9 == 0 {
				all = append(all, []impl.Rational{a, b, a}, []impl.Rational{a, a, b}, []impl.Rational{a, b, b, a, b})
			}
		}
	}
	return all
}

func TestEqualRationals(t *testing.T) {
	all := sampleLists()
	for i, a := range all {
		for k, b := range all {
			if (i+k)%3 != 0 && i != k {
				continue
			}
			if got := impl.EqualRationals(a, b); got != sameRationals(a, b) {
				t.Fatalf("EqualRationals(%v, %v) = %v", a, b, got)
			}
		}
		if !impl.EqualRationals(a, slices.Clone(a)) {
			t.Fatalf("%v is not equal to itself", a)
		}
	}
	if !impl.EqualRationals(nil, []impl.Rational{}) || !impl.EqualRationals([]impl.Rational{}, nil) || impl.EqualRationals(nil, make([]impl.Rational, 1)) {
		t.Error("only nil and empty lists are equal")
	}
	if impl.EqualRationals([]impl.Rational{{Num: 1, Den: 2}}, []impl.Rational{{Num: 2, Den: 4}}) || impl.EqualRationals([]impl.Rational{{Num: 0, Den: 1}}, []impl.Rational{{}}) {
		t.Error("numbers are equal only if their parts are")
	}
}

// TestEqualRationalsWithOneDifference changes one part of each number.
func TestEqualRationalsWithOneDifference(t *testing.T) {
	for _, a := range sampleLists() {
		changed := [][]impl.Rational{append(slices.Clone(a), impl.Rational{}), append([]impl.Rational{{Num: 1, Den: 1}}, a...)}
		for i := range a {
			num, den := slices.Clone(a), slices.Clone(a)
			num[i].Num++
			den[i].Den -= 1 << 32
			changed = append(changed, num, den, a[:i])
		}
		for _, b := range changed {
			if impl.EqualRationals(a, b) || impl.EqualRationals(b, a) {
				t.Fatalf("%v is equal to %v", a, b)
			}
		}
	}
	long := slices.Repeat([]impl.Rational{{Num: 1, Den: 2}}, 300000)
	other := slices.Clone(long)
	other[len(other)-1].Den = 3
	if !impl.EqualRationals(long, slices.Clone(long)) || impl.EqualRationals(long, other) || impl.EqualRationals(long, long[1:]) {
		t.Error("long lists are not compared")
	}
}

func TestFormatRationals(t *testing.T) {
	for _, c := range []struct {
		list []impl.Rational
		want string
	}{
		{nil, ""},
		{[]impl.Rational{}, ""},
		{[]impl.Rational{{Num: 7, Den: 1}}, "7"},
		{[]impl.Rational{{Num: -2, Den: 3}}, "-2/3"},
		{[]impl.Rational{{Num: 0, Den: 1}, {Num: 0, Den: 1}}, "0 0"},
		{[]impl.Rational{{Num: 1, Den: 2}, {Num: 3, Den: 1}}, "1/2 3"},
		{[]impl.Rational{{Num: -7, Den: 1}, {Num: 1, Den: 2}, {Num: 0, Den: 1}, {Num: -2, Den: 3}}, "-7 1/2 0 -2/3"},
		{[]impl.Rational{{Num: rationalLimit, Den: 1}, {Num: -1, Den: rationalLimit}}, "1000000000 -1/1000000000"},
		{[]impl.Rational{{}}, ""},
		{[]impl.Rational{{Num: 1, Den: 2}, {}}, ""},
		{[]impl.Rational{{}, {Num: 1, Den: 2}}, ""},
		{[]impl.Rational{{Num: 1, Den: 2}, {Num: 2, Den: 4}, {Num: 1, Den: 2}}, ""},
	} {
		if got := impl.FormatRationals(c.list); got != c.want {
			t.Errorf("FormatRationals(%v) = %q, want %q", c.list, got, c.want)
		}
	}
	for _, list := range sampleLists() {
		want := plainFormatRationals(list)
		for _, r := range list {
			if exactValue(r) == nil {
				want = ""
			}
		}
		if got := impl.FormatRationals(list); got != want {
			t.Errorf("FormatRationals(%v) = %q, want %q", list, got, want)
		}
	}
}

func checkParseRationals(t *testing.T, s string) {
	t.Helper()
	want, wantOk := plainParseRationals(s)
	got, ok := impl.ParseRationals(s)
	if !sameRationals(got, want) || ok != wantOk {
		t.Fatalf("ParseRationals(%.80q) = %s, %v, want %s, %v", s, describeRationals(got), ok, describeRationals(want), wantOk)
	}
	if ok && impl.FormatRationals(got) != s {
		t.Fatalf("%.80q is parsed, but is not the format of %s", s, describeRationals(got))
	}
}

func TestParseRationals(t *testing.T) {
	for _, c := range []struct {
		s    string
		want []impl.Rational
	}{
		{"", nil},
		{"0", []impl.Rational{{Num: 0, Den: 1}}},
		{"-2/3", []impl.Rational{{Num: -2, Den: 3}}},
		{"1/2 3", []impl.Rational{{Num: 1, Den: 2}, {Num: 3, Den: 1}}},
		{"3 3 3 1/2 -7 0", []impl.Rational{{Num: 3, Den: 1}, {Num: 3, Den: 1}, {Num: 3, Den: 1}, {Num: 1, Den: 2}, {Num: -7, Den: 1}, {Num: 0, Den: 1}}},
		{"1000000000 -1000000000 1/1000000000", []impl.Rational{{Num: rationalLimit, Den: 1}, {Num: -rationalLimit, Den: 1}, {Num: 1, Den: rationalLimit}}},
	} {
		if got, ok := impl.ParseRationals(c.s); !sameRationals(got, c.want) || !ok {
			t.Errorf("ParseRationals(%q) = %v, %v", c.s, got, ok)
		}
	}
	valid := validRationals()
	for i := range valid {
		for count := 1; count <= 3; count++ {
			list := valid[i:min(i+count, len(valid))]
			s := plainFormatRationals(list)
			if got, ok := impl.ParseRationals(s); !sameRationals(got, list) || !ok || impl.FormatRationals(list) != s {
				t.Fatalf("ParseRationals(%q) = %v, %v", s, got, ok)
			}
		}
	}
}

func TestParseRationalsRejects(t *testing.T) {
	for _, s := range []string{
		" ", "  ", " 1", "1 ", " 1 2", "1 2 ", "1  2", "1/2  3", "1\t2", "1\n2", "1 2\n", "\n", "1,2", "1, 2", "1;2", "[1 2]", "1 \u00a02", "1\u00a02", "1\x002", "1 2\x00", "1 \x00 2", "1 2 \x00",
		"/", "1/ 2", "1 /2", "1 / 2", "1/2/3", "1 2/", "/1 2", "1 - 2", "- 1", "1 -", "1 +2", "+1 2", "1 2/4", "2/4 1", "1 2 2/2", "1 -0", "00 1", "1 01", "1/1 2", "2 1/1", "0/1", "0 0/2", "1 1/0", "1 1/-2",
		"1000000001 1", "1 1000000001", "1 -1000000001", "1/1000000001 1", "1 1/1000000001", "1 9223372036854775808", "18446744073709551617 1", "a", "1 a", "1 0x1", "1 1e3", "1 1.5", "1 1_0", "1 \u0661", "1 \xff",
	} {
		if got, ok := impl.ParseRationals(s); len(got) != 0 || ok {
			t.Errorf("ParseRationals(%q) = %v, %v", s, got, ok)
		}
		checkParseRationals(t, s)
	}
	for _, r := range invalidRationals() {
		s := strconv.Itoa(r.Num) + "/" + strconv.Itoa(r.Den)
		for _, text := range []string{s, s + " 1", "1 " + s, "1 " + s + " 1", s + " " + s} {
			if got, ok := impl.ParseRationals(text); len(got) != 0 || ok {
				t.Errorf("ParseRationals(%q) = %v, %v", text, got, ok)
			}
		}
	}
}

func TestParseRationalsAcceptsNothingElse(t *testing.T) {
	for _, s := range slices.Concat(allStrings(allBytes(), 2), allStrings("012/- ", 6), allStrings("1 ", 12), allStrings("03 /+\x00", 5)) {
		checkParseRationals(t, s)
	}
	for _, s := range []string{"", "7", "1/2 3", "-2/3 0", "1 1 1 1", "1000000000 -1/1000000000", "12/35 -35/12 0 100"} {
		for _, changed := range changesOf(s) {
			checkParseRationals(t, changed)
		}
	}
}

func TestParseLongRationals(t *testing.T) {
	for _, part := range []string{" ", "1", "0", "-", "/", "1 ", " 1", "1/2 ", "-7 0 1000000000 ", "1/1000000000 ", "1  ", "2/4 ", "x", "\x00", "\xff"} {
		long := strings.Repeat(part, 8000)
		for _, prefix := range []string{"", "1", "1 ", "1/2 ", " "} {
			for _, suffix := range []string{"", "1", " 1", " ", "2/4"} {
				checkParseRationals(t, prefix+long+suffix)
			}
		}
	}
}

// guardedRationals returns these numbers in the middle of a larger array, and
// that array, so that a write to the numbers, before them or to their unused
// capacity shows.
func guardedRationals(list []impl.Rational) (inside, array []impl.Rational) {
	guard := slices.Repeat([]impl.Rational{{Num: 7, Den: 9}}, 8)
	array = slices.Concat(guard[:2], list, guard)
	return array[2 : 2+len(list)], array
}

func overwriteRationals(list []impl.Rational) {
	all := list[:cap(list)]
	for i := range all {
		all[i] = rational(55, 56)
	}
}

func weightLists(t *testing.T) [][]impl.Rational {
	all := sampleLists()
	for _, c := range scaleCases {
		all = append(all, parsedRationals(t, c.weights))
	}
	for _, c := range sumCases {
		all = append(all, parsedRationals(t, c.numbers))
	}
	return all
}

func TestRationalsAreNotModified(t *testing.T) {
	for _, original := range weightLists(t) {
		list, array := guardedRationals(original)
		saved := slices.Clone(array)
		impl.SumRationals(list)
		impl.FormatRationals(list)
		impl.EqualRationals(list, original)
		impl.EqualRationals(original, list)
		impl.EqualRationals(list, list)
		scaled, _ := impl.ScaleToIntegers(list)
		overwriteInts(scaled)
		if !sameRationals(array, saved) {
			t.Fatalf("%v is modified", original)
		}
	}
}

func TestWeightsAreNotModified(t *testing.T) {
	random := rand.New(rand.NewSource(24))
	queries := allQueries()
	for _, c := range coverCases {
		queries = append(queries, parsedQuery(t, c.query))
	}
	for i, original := range queries {
		if i%5 != 0 {
			continue
		}
		q, isAsBefore := guardedQuery(original)
		for _, count := range []int{len(q.Atoms), max(min(q.VariableCount, 6), 0), random.Intn(6)} {
			for _, weights := range [][]impl.Rational{randomWeights(random, count), slices.Repeat([]impl.Rational{{Num: 1, Den: 1}}, count), slices.Repeat([]impl.Rational{{Num: 1, Den: 5}}, count)} {
				list, array := guardedRationals(weights)
				saved := slices.Clone(array)
				impl.IsFractionalCover(q, list)
				impl.IsFractionalPacking(q, list)
				if !isAsBefore() || !sameRationals(array, saved) {
					t.Fatalf("%s or %v is modified", describeQuery(original), weights)
				}
			}
		}
	}
}

// TestScaledWeightsShareNoMemory overwrites a result and looks for the change in
// the results of other calls.
func TestScaledWeightsShareNoMemory(t *testing.T) {
	for _, list := range weightLists(t) {
		want, wantScale := plainScale(list)
		first, _ := impl.ScaleToIntegers(list)
		second, _ := impl.ScaleToIntegers(list)
		overwriteInts(first)
		// The next call might restore the values that were overwritten.
		kept := slices.Clone(second)
		third, scale := impl.ScaleToIntegers(list)
		if plainOrder(kept, want) != 0 || plainOrder(third, want) != 0 || scale != wantScale {
			t.Fatalf("ScaleToIntegers(%v) changes with its previous result", list)
		}
		overwriteInts(second)
		if plainOrder(third, want) != 0 {
			t.Fatalf("the result of ScaleToIntegers(%v) changes with a later write", list)
		}
	}
}

func TestParsedRationalsShareNoMemory(t *testing.T) {
	for _, s := range []string{"", "0", "1/2", "1/2 3", "-7 1/2 0", "1 2 3 4 5 6 7 8 9", "1 x", "2/4", strings.Repeat("1/3 ", 99) + "0"} {
		want, wantOk := plainParseRationals(s)
		first, _ := impl.ParseRationals(s)
		second, _ := impl.ParseRationals(s)
		overwriteRationals(first)
		// The next call might restore the numbers that were overwritten.
		kept := slices.Clone(second)
		third, ok := impl.ParseRationals(s)
		if !sameRationals(kept, want) || !sameRationals(third, want) || ok != wantOk {
			t.Fatalf("ParseRationals(%q) changes with its previous result", s)
		}
		overwriteRationals(second)
		if !sameRationals(third, want) {
			t.Fatalf("the result of ParseRationals(%q) changes with a later write", s)
		}
	}
}

// TestRationalsMayOverlap passes parts of one array as both lists.
func TestRationalsMayOverlap(t *testing.T) {
	array := parsedRationals(t, "1/2 1/2 1/3 1/2 1/2 1/3 1/2")
	saved := slices.Clone(array)
	for i := range array {
		for k := range array {
			for count := 0; count <= len(array)-max(i, k); count++ {
				a, b := array[i:i+count], array[k:k+count]
				if got := impl.EqualRationals(a, b); got != sameRationals(saved[i:i+count], saved[k:k+count]) {
					t.Errorf("EqualRationals(%v, %v) = %v", a, b, got)
				}
			}
		}
	}
	if !sameRationals(array, saved) {
		t.Errorf("the list is now %v", array)
	}
}
