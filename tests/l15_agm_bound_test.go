package tests

import (
	"fmt"
	"math"
	"math/big"
	"math/rand"
	"slices"
	"testing"

	"loop.example/g01917/impl"
)

// plainCoverProgram is the test's own result of CoverProgram.
func plainCoverProgram(q impl.Query) (impl.LinearProgram, bool) {
	if !plainIsValidQuery(q) {
		return impl.LinearProgram{}, false
	}
	p := programOfOnes(q.VariableCount, len(q.Atoms))
	for v, row := range p.A {
		for i, a := range q.Atoms {
			if !plainOccurs(a.Vars, v) {
				row[i].Num = 0
			}
		}
	}
	return p, true
}

func checkCoverProgram(t *testing.T, q impl.Query) {
	t.Helper()
	want, wantOk := plainCoverProgram(q)
	if got, ok := impl.CoverProgram(q); !samePrograms(got, want) || ok != wantOk {
		t.Fatalf("CoverProgram(%s) = %s, %v", describeQuery(q), describeProgram(got), ok)
	}
}

// checkOptima compares the optima with the first best vertices.
func checkOptima(t *testing.T, q impl.Query) {
	t.Helper()
	p, _ := plainCoverProgram(q)
	dual, _ := plainDual(p)
	if got, want := describeOptimum(impl.MinimumCover(q)), describeOptimum(plainBest(p, atLeast)); got != want {
		t.Fatalf("MinimumCover(%s) = %s, want %s", describeQuery(q), got, want)
	}
	if got, want := describeOptimum(impl.MaximumPacking(q)), describeOptimum(plainBest(dual, atMost)); got != want {
		t.Fatalf("MaximumPacking(%s) = %s, want %s", describeQuery(q), got, want)
	}
}

// coverProgramCases lists queries and their programs.
var coverProgramCases = []struct{ query, program string }{
	{"(XYZ)=r(XY),s(YZ),t(ZX)", "1 0 1;1 1 0;0 1 1 | 1 1 1 | 1 1 1"},
	{"()=t(ZX),r(XY),s(YZ)", "1 1 0;0 1 1;1 0 1 | 1 1 1 | 1 1 1"},
	{"(X)=r(X)", "1 | 1 | 1"},
	{"()=r(XX)", "1 | 1 | 1"},
	{"()=r(XXXXX),s(X)", "1 1 | 1 | 1 1"},
	{"()=r(X),r(X),r(X),r(X)", "1 1 1 1 | 1 | 1 1 1 1"},
	{"()=r(X),s(Y)", "1 0;0 1 | 1 1 | 1 1"},
	{"(YX)=r(Y),s(X)", "0 1;1 0 | 1 1 | 1 1"},
	{"(ZX)=r(YXY),s(ZZ)", "1 0;1 0;0 1 | 1 1 1 | 1 1"},
	{"()=r(XY),s(YZ),t(ZU)", "1 0 0;1 1 0;0 1 1;0 0 1 | 1 1 1 1 | 1 1 1"},
	{"(V)=r(XYZUV)", "1;1;1;1;1 | 1 1 1 1 1 | 1"},
	{"()=r(VUZYX)", "1;1;1;1;1 | 1 1 1 1 1 | 1"},
	{"()=r(XYZ),s(YZU),t(ZUX),u(UXY)", "1 0 1 1;1 1 0 1;1 1 1 0;0 1 1 1 | 1 1 1 1 | 1 1 1 1"},
	{"()=r(XV),s(ZU),t(UV),u(YZ)", "1 0 0 0;0 0 0 1;0 1 0 1;0 1 1 0;1 0 1 0 | 1 1 1 1 1 | 1 1 1 1"},
}

func TestCoverProgram(t *testing.T) {
	for _, c := range coverProgramCases {
		q, want := parsedQuery(t, c.query), parsedProgram(t, c.program)
		if got, ok := impl.CoverProgram(q); !samePrograms(got, want) || !ok {
			t.Errorf("CoverProgram(%s) = %s, %v", c.query, describeProgram(got), ok)
		}
		checkCoverProgram(t, q)
		checkOptima(t, q)
	}
}

// optimumCases lists queries, their minimum cover, their maximum packing, and
// the weight of both.
var optimumCases = []struct{ query, cover, packing, weight string }{
	{"(X)=r(X)", "1", "1", "1"},
	{"()=r(XX)", "1", "1", "1"},
	{"()=r(X),s(X)", "0 1", "1", "1"},
	{"()=r(X),r(X),r(X),r(X)", "0 0 0 1", "1", "1"},
	{"()=r(XYZUV)", "1", "0 0 0 0 1", "1"},
	{"()=r(X),s(Y)", "1 1", "1 1", "2"},
	{"()=r(X),s(Y),t(Z),u(U)", "1 1 1 1", "1 1 1 1", "4"},
	{"()=r(X),s(XY)", "0 1", "1 0", "1"},
	{"()=r(XY),s(X)", "1 0", "1 0", "1"},
	{"()=r(XY),s(YX)", "0 1", "0 1", "1"},
	{"(XZ)=r(XY),s(YZ)", "1 1", "1 0 1", "2"},
	{"(XYZ)=r(XY),s(YZ),t(ZX)", "1/2 1/2 1/2", "1/2 1/2 1/2", "3/2"},
	{"()=r(XY),s(YZ),t(ZX),u(X)", "1/2 1/2 1/2 0", "1/2 1/2 1/2", "3/2"},
	{"()=r(XY),s(YZ),t(ZX),u(XYZ)", "0 0 0 1", "0 1 0", "1"},
	{"()=r(XY),s(YZ),t(ZX),u(U)", "1/2 1/2 1/2 1", "1/2 1/2 1/2 1", "5/2"},
	{"()=r(XY),s(YZ),t(ZU)", "1 0 1", "0 1 0 1", "2"},
	{"()=r(XY),s(YZ),t(ZU),u(UV)", "1 0 1 1", "1 0 1 0 1", "3"},
	{"()=r(XY),s(YZ),t(ZU),u(UX)", "0 1 0 1", "0 1 0 1", "2"},
	{"()=r(XYZ),s(YZU),t(ZUX),u(UXY)", "1/3 1/3 1/3 1/3", "1/3 1/3 1/3 1/3", "4/3"},
	{"()=r(XYZ),s(XU),t(YU),u(ZU)", "2/3 1/3 1/3 1/3", "1/3 1/3 1/3 2/3", "5/3"},
	{"()=r(ZX),s(ZY),t(ZU),u(ZV)", "1 1 1 1", "1 1 0 1 1", "4"},
	{"()=r(XYZ),s(ZUV)", "1 1", "0 1 0 0 1", "2"},
}

func TestOptima(t *testing.T) {
	for _, c := range optimumCases {
		q := parsedQuery(t, c.query)
		if got, want := describeOptimum(impl.MinimumCover(q)), c.cover+" = "+c.weight; got != want {
			t.Errorf("MinimumCover(%s) = %s, want %s", c.query, got, want)
		}
		if got, want := describeOptimum(impl.MaximumPacking(q)), c.packing+" = "+c.weight; got != want {
			t.Errorf("MaximumPacking(%s) = %s, want %s", c.query, got, want)
		}
		checkCoverProgram(t, q)
		checkOptima(t, q)
	}
}

// validQueriesOfAllSets leaves out the queries in which a variable is missing.
func validQueriesOfAllSets() []impl.Query {
	return slices.DeleteFunc(queriesOfAllSets(), func(q impl.Query) bool { return !plainIsValidQuery(q) })
}

// TestOptimaWeighTheSame also checks, for some of all queries, the weight with
// the simplex method.
func TestOptimaWeighTheSame(t *testing.T) {
	weights := map[impl.Rational]int{}
	for i, q := range validQueriesOfAllSets() {
		if i%3 != 0 {
			continue
		}
		cover, weight, ok := impl.MinimumCover(q)
		packing, other, otherOk := impl.MaximumPacking(q)
		if weight != other || !ok || !otherOk {
			t.Fatalf("%s: the minimum cover weighs %v, %v, the maximum packing %v, %v", describeQuery(q), weight, ok, other, otherOk)
		}
		if !plainIsCover(q, cover) || !impl.IsFractionalCover(q, cover) {
			t.Fatalf("%v is no cover of %s", cover, describeQuery(q))
		}
		if !plainIsPacking(q, packing) || !impl.IsFractionalPacking(q, packing) {
			t.Fatalf("%v is no packing of %s", packing, describeQuery(q))
		}
		coverSum, _ := plainSum(cover)
		packingSum, _ := plainSum(packing)
		if coverSum != weight || packingSum != weight {
			t.Fatalf("%s: %v and %v do not weigh %v", describeQuery(q), cover, packing, weight)
		}
		weights[weight]++
		if i%9 == 0 {
			p, _ := plainCoverProgram(q)
			_, transposed, b, c := exactParts(p)
			if most, _ := exactMaximum(transposed, c, b); most.Cmp(exactValue(weight)) != 0 {
				t.Fatalf("%s: the optima weigh %v, but the simplex method finds %v", describeQuery(q), weight, most)
			}
		}
		if i%150 == 0 {
			checkOptima(t, q)
		}
	}
	for _, s := range []string{"1", "4/3", "3/2", "5/3", "2", "5/2", "3", "4"} {
		if weights[parsedRationals(t, s)[0]] == 0 {
			t.Errorf("no query has the weight %s: %v", s, weights)
		}
	}
}

// TestNoWeightsAreBetter compares the optima with all covers and packings of
// some simple weights.
func TestNoWeightsAreBetter(t *testing.T) {
	for i, q := range coverQueries(t) {
		if i%2 != 0 {
			continue
		}
		_, weight, _ := impl.MinimumCover(q)
		covers, packings := coversAndPackings(q)
		for _, nums := range covers {
			if exactValue(weight).Cmp(big.NewRat(int64(total(nums)), 6)) > 0 {
				t.Errorf("MinimumCover(%s) weighs %v, but there is %v/6", describeQuery(q), weight, nums)
			}
		}
		_, weight, _ = impl.MaximumPacking(q)
		for _, nums := range packings {
			if exactValue(weight).Cmp(big.NewRat(int64(total(nums)), 6)) < 0 {
				t.Errorf("MaximumPacking(%s) weighs %v, but there is %v/6", describeQuery(q), weight, nums)
			}
		}
	}
}

// TestCoverProgramsOfAllQueries has variables that occur several times in an
// atom, and atoms with the same relation.
func TestCoverProgramsOfAllQueries(t *testing.T) {
	random := rand.New(rand.NewSource(51))
	queries := validQueries()
	for range 2000 {
		queries = append(queries, randomQuery(random))
	}
	for i, q := range queries {
		checkCoverProgram(t, q)
		if i%50 == 0 {
			checkOptima(t, q)
		}
	}
	for _, q := range validQueriesOfAllSets() {
		checkCoverProgram(t, q)
	}
}

func TestOutputAndNamesDoNotMatterForCovers(t *testing.T) {
	for i, q := range validQueriesOfAllSets() {
		if i%40 != 0 {
			continue
		}
		other := withSameGraph(q, i)
		checkCoverProgram(t, other)
		lists := rowsOfLength([]int{0, 3, 16}, len(q.Atoms))
		sizes := lists[i%len(lists)]
		got := []string{describeOptimum(impl.MinimumCover(other)), describeOptimum(impl.MaximumPacking(other)), fmt.Sprint(impl.BestCover(other, sizes))}
		want := []string{describeOptimum(impl.MinimumCover(q)), describeOptimum(impl.MaximumPacking(q)), fmt.Sprint(impl.BestCover(q, sizes))}
		if !slices.Equal(got, want) {
			t.Fatalf("%s has %v, but %s has %v", describeQuery(other), got, describeQuery(q), want)
		}
	}
}

func TestInvalidQueriesHaveNoCover(t *testing.T) {
	for _, q := range append(invalidQueries(), impl.Query{}) {
		if got, ok := impl.CoverProgram(q); got.A != nil || got.B != nil || got.C != nil || ok {
			t.Fatalf("CoverProgram(%s) = %s, %v", describeQuery(q), describeProgram(got), ok)
		}
		if got, weight, ok := impl.MinimumCover(q); got != nil || weight != (impl.Rational{}) || ok {
			t.Fatalf("MinimumCover(%s) = %v, %v, %v", describeQuery(q), got, weight, ok)
		}
		if got, weight, ok := impl.MaximumPacking(q); got != nil || weight != (impl.Rational{}) || ok {
			t.Fatalf("MaximumPacking(%s) = %v, %v, %v", describeQuery(q), got, weight, ok)
		}
		for _, count := range []int{len(q.Atoms), 0, 1, 2, 3, 4, 5, max(min(q.VariableCount, 1000), 0)} {
			if got, ok := impl.BestCover(q, slices.Repeat([]int{1}, count)); got != nil || ok {
				t.Fatalf("BestCover(%s, %d sizes) = %v, %v", describeQuery(q), count, got, ok)
			}
		}
	}
}

// plainSizes is the test's own result of AtomSizes.
func plainSizes(db impl.Database, q impl.Query) ([]int, bool) {
	if !plainIsQueryFor(db, q) {
		return nil, false
	}
	var sizes []int
	for _, a := range q.Atoms {
		sizes = append(sizes, len(plainAtomBindings(db, a).Rows))
	}
	return sizes, true
}

func checkSizes(t *testing.T, db impl.Database, q impl.Query) {
	t.Helper()
	want, wantOk := plainSizes(db, q)
	if got, ok := impl.AtomSizes(db, q); plainOrder(got, want) != 0 || ok != wantOk {
		t.Fatalf("AtomSizes(%s, %s) = %v, %v, want %v, %v", describeDatabase(db), describeQuery(q), got, ok, want, wantOk)
	}
}

func TestAtomSizes(t *testing.T) {
	const sixteen = "(0) (1) (2) (3) (4) (5) (6) (7) (8) (9) (10) (11) (12) (13) (14) (15)"
	for _, c := range []struct {
		db, query string
		want      []int
	}{
		{triangleDatabase, "(XYZ)=r(XY),s(YZ),t(ZX)", []int{3, 3, 3}},
		{triangleDatabase, "()=r(XX)", []int{0}},
		{triangleDatabase, "()=s(XY),s(XX),t(XX),s(YX)", []int{3, 0, 0, 3}},
		{"r=2:(0,0) (0,1) (3,3)\n", "(X)=r(XX)", []int{2}},
		{"r=2:(0,0) (0,1) (3,3)\n", "(XY)=r(XX),r(XY),r(YX),r(YY)", []int{2, 3, 3, 2}},
		{"r=3:(0,0,1) (0,1,0) (1,0,0) (2,2,2)\n", "()=r(XYX),r(XXX),r(XYZ)", []int{2, 1, 4}},
		{"r=1:" + sixteen + "\ns=1:\nt=1:(99)\n", "()=r(X),s(X),t(X)", []int{16, 0, 1}},
		{"r=1:" + sixteen + "\ns=1:\nt=1:(99)\n", "()=s(X)", []int{0}},
		{"r=1:\ns=2:\n", "()=r(X),s(XY),s(YY),r(Y)", []int{0, 0, 0, 0}},
		{"r=5:(1,1,1,1,1) (1,1,1,1,2) (2,1,1,1,1)\n", "(X)=r(XXXXX),r(XYZUV),r(XXXXY)", []int{1, 3, 2}},
	} {
		db, q := parsedDatabase(t, c.db), parsedQuery(t, c.query)
		if got, ok := impl.AtomSizes(db, q); plainOrder(got, c.want) != 0 || !ok {
			t.Errorf("AtomSizes(%q, %s) = %v, %v", c.db, c.query, got, ok)
		}
		checkSizes(t, db, q)
	}
}

func TestAtomSizesForAllDatabases(t *testing.T) {
	queries := allQueries()
	suitable := 0
	for i, db := range allDatabases() {
		candidates := queriesFor(db)
		for k := i % 97; k < len(queries); k += 97 {
			candidates = append(candidates, queries[k])
		}
		for _, q := range candidates {
			checkSizes(t, db, q)
			if plainIsQueryFor(db, q) {
				suitable++
			}
		}
	}
	if suitable < 500 {
		t.Errorf("only %d queries are suitable", suitable)
	}
	random := rand.New(rand.NewSource(52))
	for i := range 2000 {
		checkSizes(t, randomDatabase(random, 1+i%5), randomQuery(random))
	}
}

func TestUnsuitableQueriesHaveNoSizes(t *testing.T) {
	db := parsedDatabase(t, "a=1:(0)\nr=2:(0,0) (0,1) (1,1)\ns=1:(0) (1)\nt=3:(0,0,0)\nz=5:(0,0,0,0,0)\n")
	for _, q := range invalidQueries() {
		if got, ok := impl.AtomSizes(db, q); got != nil || ok {
			t.Fatalf("AtomSizes(%s) = %v, %v", describeQuery(q), got, ok)
		}
	}
	for _, s := range []string{"()=q(X)", "()=r(X)", "()=a(X),b(X)", "()=a(X),s(XY)", "()=t(XY),a(X)", "()=z(XYZU),a(X)"} {
		if got, ok := impl.AtomSizes(db, parsedQuery(t, s)); got != nil || ok {
			t.Errorf("AtomSizes(%s) = %v, %v", s, got, ok)
		}
	}
	for _, wrong := range invalidDatabases() {
		for _, s := range []string{"()=a(X)", "()=r(XY)", "()=s(X),r(XY)"} {
			if got, ok := impl.AtomSizes(wrong, parsedQuery(t, s)); got != nil || ok {
				t.Fatalf("AtomSizes(%s, %s) = %v, %v", describeDatabase(wrong), s, got, ok)
			}
		}
	}
}

// exactPower expects numbers that are not negative.
func exactPower(base, exponent int) *big.Int {
	return new(big.Int).Exp(big.NewInt(int64(base)), big.NewInt(int64(exponent)), nil)
}

// plainPowers is the test's own result of ProductOfPowers.
func plainPowers(sizes, exponents []int) (impl.BigInt, bool) {
	if len(sizes) != len(exponents) {
		return impl.BigInt{}, false
	}
	product := big.NewInt(1)
	for i, size := range sizes {
		if size < 0 || exponents[i] < 0 || exponents[i] > exponentLimit {
			return impl.BigInt{}, false
		}
		power := exactPower(size, exponents[i])
		product.Mul(product, power)
		_, powerOk := bigIntOf(power)
		if _, ok := bigIntOf(product); !ok || !powerOk {
			return impl.BigInt{}, false
		}
	}
	return bigIntOf(product)
}

func checkPowers(t *testing.T, sizes, exponents []int) bool {
	t.Helper()
	want, wantOk := plainPowers(sizes, exponents)
	got, ok := impl.ProductOfPowers(sizes, exponents)
	if !sameBigInts(got, want) || ok != wantOk {
		t.Fatalf("ProductOfPowers(%v, %v) = %v, %v, want %v, %v", short(sizes), short(exponents), got, ok, want, wantOk)
	}
	return ok
}

// billion has 10 digits.
const billion = 1000000000

// powerCases lists sizes, exponents and the product; none if there is none.
var powerCases = []struct {
	sizes, exponents []int
	want             string
}{
	{[]int{2, 3}, []int{3, 2}, "72"},
	{[]int{3, 2}, []int{2, 3}, "72"},
	{nil, nil, "1"},
	{[]int{}, nil, "1"},
	{[]int{7}, []int{0}, "1"},
	{[]int{7}, []int{1}, "7"},
	{[]int{7}, []int{2}, "49"},
	{[]int{0}, []int{0}, "1"},
	{[]int{0}, []int{1}, "0"},
	{[]int{0}, []int{exponentLimit}, "0"},
	{[]int{0, 5}, []int{1, 1}, "0"},
	{[]int{5, 0}, []int{1, 1}, "0"},
	{[]int{5, 0}, []int{1, 0}, "5"},
	{[]int{0, 5, 7}, []int{0, 1, 2}, "245"},
	{[]int{0, 0, 0}, []int{0, 0, 0}, "1"},
	{[]int{1, 1, 1, 1}, []int{100, 0, 1, 50}, "1"},
	{[]int{16, 16, 16, 16}, []int{1, 1, 1, 1}, "65536"},
	{[]int{2, 2}, []int{100, 99}, "803469022129495137770981046170581301261101496891396417650688"},
	{[]int{2, 2}, []int{100, 100}, ""},
	{[]int{2}, []int{100}, "1267650600228229401496703205376"},
	{[]int{2}, []int{101}, ""},
	{[]int{1}, []int{100}, "1"},
	{[]int{1}, []int{101}, ""},
	{[]int{0}, []int{101}, ""},
	{[]int{1}, []int{-1}, ""},
	{[]int{0}, []int{-1}, ""},
	{[]int{-1}, []int{0}, ""},
	{[]int{-1}, []int{2}, ""},
	{[]int{3, -1, 3}, []int{1, 0, 1}, ""},
	{[]int{math.MinInt}, []int{0}, ""},
	{[]int{math.MaxInt}, []int{0}, "1"},
	{[]int{math.MaxInt}, []int{1}, "9223372036854775807"},
	{[]int{math.MaxInt}, []int{4}, ""},
	{[]int{1}, []int{math.MaxInt}, ""},
	{[]int{1}, []int{math.MinInt}, ""},
	{[]int{10, 10}, []int{30, 29}, "100000000000000000000000000000000000000000000000000000000000"},
	{[]int{10, 10}, []int{30, 30}, ""},
	{[]int{10}, []int{60}, ""},
	{[]int{10, 9, 1}, []int{58, 2, 7}, "8100000000000000000000000000000000000000000000000000000000000"[:60]},
	{[]int{10, 11}, []int{58, 2}, ""},
	// The product would be 0, but a power or a product before it is too large.
	{[]int{10, 10, 0}, []int{30, 30, 1}, ""},
	{[]int{10, 0, 10}, []int{30, 1, 30}, "0"},
	{[]int{0, 10, 10}, []int{1, 30, 30}, "0"},
	{[]int{0, 10}, []int{1, 60}, ""},
	{[]int{10, 0}, []int{60, 1}, ""},
	{[]int{0, 10}, []int{1, 59}, "0"},
	{[]int{2, 3}, []int{3}, ""},
	{[]int{2}, []int{3, 2}, ""},
	{[]int{2}, []int{3, 0}, ""},
	{[]int{2}, nil, ""},
	{nil, []int{2}, ""},
	{nil, []int{0}, ""},
}

func TestProductOfPowers(t *testing.T) {
	for _, c := range powerCases {
		want := impl.BigInt{}
		if c.want != "" && c.want != "0" {
			want = bigIntFromText(c.want)
		}
		if got, ok := impl.ProductOfPowers(c.sizes, c.exponents); !sameBigInts(got, want) || ok != (c.want != "") {
			t.Errorf("ProductOfPowers(%v, %v) = %v, %v, want %s", c.sizes, c.exponents, got, ok, c.want)
		}
		checkPowers(t, c.sizes, c.exponents)
	}
}

// TestProductsOfAllPowers takes all pairs of sample numbers, and random lists.
func TestProductsOfAllPowers(t *testing.T) {
	sizes := []int{math.MinInt, -2, -1, 0, 1, 2, 3, 9, 10, 16, 17, billion, math.MaxInt}
	exponents := []int{math.MinInt, -1, 0, 1, 2, 3, 19, 20, 59, 60, 99, 100, 101, math.MaxInt}
	for _, a := range sizes {
		for _, n := range exponents {
			checkPowers(t, []int{a}, []int{n})
			for _, b := range sizes {
				for _, m := range exponents {
					checkPowers(t, []int{a, b}, []int{n, m})
				}
			}
		}
	}
	random := rand.New(rand.NewSource(53))
	products := 0
	for range 10000 {
		count := random.Intn(6)
		list, powers := []int{}, []int{}
		for range count {
			list, powers = append(list, random.Intn(18)-random.Intn(2)*random.Intn(2)), append(powers, random.Intn(50))
		}
		if checkPowers(t, list, powers) {
			products++
		}
		checkPowers(t, list, append(powers, 0))
		checkPowers(t, append(list, 1), powers)
	}
	if products < 2000 || products > 8000 {
		t.Errorf("%d of the lists have a product", products)
	}
}

func TestPowersOfLongLists(t *testing.T) {
	const count = 200000
	ones, zeros := slices.Repeat([]int{1}, count), make([]int, count)
	for _, c := range []struct {
		sizes, exponents []int
		want             impl.BigInt
		ok               bool
	}{
		{ones, ones, bigInt(1), true},
		{zeros, zeros, bigInt(1), true},
		{zeros, ones, bigInt(), true},
		{ones, slices.Repeat([]int{exponentLimit}, count), bigInt(1), true},
		{append(slices.Clone(ones), 7), append(slices.Clone(ones), 2), bigInt(9, 4), true},
		{append(slices.Clone(ones), -7), append(slices.Clone(ones), 2), bigInt(), false},
		{append(slices.Clone(zeros), 7), append(slices.Clone(ones), 101), bigInt(), false},
		{slices.Repeat([]int{2}, count), ones, bigInt(), false},
		{ones, ones[1:], bigInt(), false},
		{ones[1:], ones, bigInt(), false},
	} {
		if got, ok := impl.ProductOfPowers(c.sizes, c.exponents); !sameBigInts(got, c.want) || ok != c.ok {
			t.Errorf("ProductOfPowers of %d and %d numbers = %v, %v", len(c.sizes), len(c.exponents), got, ok)
		}
	}
}

// plainIsWithin is the test's own result of IsWithinAGMBound.
func plainIsWithin(sizes []int, cover []impl.Rational, rows int) bool {
	exponents, scale := plainScale(cover)
	bound, ok := plainPowers(sizes, exponents)
	if !ok || scale == 0 || scale > exponentLimit || rows < 0 {
		return false
	}
	power := exactPower(rows, scale)
	_, powerOk := bigIntOf(power)
	return powerOk && power.Cmp(exactBigInt(bound)) <= 0
}

func checkWithin(t *testing.T, sizes []int, cover []impl.Rational, rows int) bool {
	t.Helper()
	want := plainIsWithin(sizes, cover, rows)
	if got := impl.IsWithinAGMBound(sizes, cover, rows); got != want {
		t.Fatalf("IsWithinAGMBound(%v, %s, %d) = %v", short(sizes), describeRationals(cover), rows, got)
	}
	return want
}

// withinCases lists sizes, weights and the largest number of rows within the
// bound; -1 if there is none.
var withinCases = []struct {
	sizes   []int
	cover   string
	largest int
}{
	{[]int{4, 4, 4}, "1/2 1/2 1/2", 8},
	{[]int{3, 3, 3}, "1/2 1/2 1/2", 5},
	{[]int{16, 16, 16}, "1/2 1/2 1/2", 64},
	{[]int{16, 16, 16}, "1 1 0", 256},
	{[]int{16, 16, 16, 16}, "1 1 1 1", 65536},
	{[]int{16, 16, 16, 16}, "1/3 1/3 1/3 1/3", 40},
	{[]int{2, 3, 5, 7}, "2/3 1/3 1/3 1/3", 7},
	{[]int{2, 3, 5, 7}, "0 1 0 1", 21},
	{[]int{7}, "1", 7},
	{[]int{7}, "2", 49},
	{[]int{7}, "1/2", 2},
	{[]int{9}, "1/2", 3},
	{[]int{8}, "1/2", 2},
	{[]int{7}, "0", 1},
	{[]int{1, 1}, "1 1", 1},
	{nil, "", 1},
	// An empty relation.
	{[]int{0}, "1", 0},
	{[]int{0}, "1/2", 0},
	{[]int{0}, "0", 1},
	{[]int{0, 3, 3}, "1/2 1/2 1/2", 0},
	{[]int{3, 0, 3}, "1/2 1/2 1/2", 0},
	{[]int{3, 3, 0}, "1/2 1/2 1/2", 0},
	{[]int{0, 3, 3}, "0 1 1", 9},
	{[]int{0, 3, 3}, "1 0 1", 0},
	{[]int{0, 0, 0}, "1/2 1/2 1/2", 0},
	{[]int{0, 0, 0}, "0 0 0", 1},
	// The common denominator is 100, or a little more.
	{[]int{1}, "1/100", 1},
	{[]int{5}, "1/100", 1},
	{[]int{1}, "1/101", -1},
	{[]int{0}, "1/101", -1},
	{[]int{2, 2}, "1/100 99/100", 2},
	{[]int{3, 3}, "1/100 99/100", 3},
	{[]int{3, 1}, "1/100 99/100", 1},
	{[]int{1, 1}, "1/101 100/101", -1},
	{[]int{1, 1}, "1/200 1/2", -1},
	{[]int{1, 1, 1}, "1/3 1/4 1/8", 1},
	{[]int{1, 1, 1}, "1/3 1/4 1/16", 1},
	{[]int{1, 1, 1}, "1/3 1/4 1/9", 1},
	{[]int{1, 1, 1}, "1/5 1/4 1/7", -1},
	{[]int{1}, "1/1000", -1},
	{[]int{1}, "1/1001", -1},
	{[]int{1}, "1/1000000000", -1},
	// A scaled weight is 100, or a little more.
	{[]int{1}, "100", 1},
	{[]int{1}, "101", -1},
	{[]int{1}, "50/3", 1},
	{[]int{1}, "100/3", 1},
	{[]int{1}, "101/3", -1},
	{[]int{1, 1}, "50 1/2", 1},
	{[]int{1, 1}, "51 1/2", -1},
	{[]int{0}, "101", -1},
	{[]int{1}, "1000000000", -1},
	// The bound has 60 digits, or one more; the rows do not make it shorter.
	{[]int{10, 10}, "30 29", math.MaxInt},
	{[]int{10, 10}, "30 30", -1},
	{[]int{9999999999, 9999999999}, "1/6 5/6", 9999999999},
	{[]int{10000000000, 10000000000}, "1/6 5/6", -1},
	{[]int{10, 10, 0}, "30 30 1", -1},
	{[]int{10, 0, 10}, "30 1 30", 0},
	{[]int{math.MaxInt}, "1", math.MaxInt},
	{[]int{math.MaxInt, 0}, "1 0", math.MaxInt},
	{[]int{math.MaxInt - 1}, "1", math.MaxInt - 1},
	// The power of one more row has too many digits.
	{[]int{999, 999}, "1/20 19/20", 999},
	{[]int{4, 3}, "1/100 99/100", 3},
	// Not admissible.
	{[]int{4, 4, 4}, "1/2 1/2", -1},
	{[]int{4, 4}, "1/2 1/2 1/2", -1},
	{[]int{4, 4, 4, 1}, "1/2 1/2 1/2", -1},
	{[]int{4, 4, 4}, "1/2 1/2 1/2 0", -1},
	{[]int{4}, "", -1},
	{nil, "1", -1},
	{nil, "0", -1},
	{nil, "-1", -1},
	{[]int{-1}, "1", -1},
	{[]int{-1}, "0", -1},
	{[]int{-4, 4, 4}, "0 1 1", -1},
	{[]int{4, 4, -4}, "1 1 0", -1},
	{[]int{-4, -4}, "1 1", -1},
	{[]int{math.MinInt}, "0", -1},
	{[]int{4, 4}, "-1 2", -1},
	{[]int{1, 1}, "-1/2 1", -1},
	{[]int{0, 0}, "1 -1", -1},
}

// rowsBeside contains the number, those around it, and others.
func rowsBeside(n int) []int {
	rows := []int{math.MinInt, -billion, -2, -1, 0, 1, 2, 3, n / 2, n, math.MaxInt}
	if n > 0 {
		rows = append(rows, n-1)
	}
	if n < math.MaxInt {
		rows = append(rows, n+1)
	}
	return rows
}

func TestIsWithinAGMBound(t *testing.T) {
	for _, c := range withinCases {
		cover := parsedRationals(t, c.cover)
		for _, rows := range rowsBeside(c.largest) {
			if got := impl.IsWithinAGMBound(c.sizes, cover, rows); got != (0 <= rows && rows <= c.largest) {
				t.Errorf("IsWithinAGMBound(%v, %s, %d) = %v", c.sizes, c.cover, rows, got)
			}
			checkWithin(t, c.sizes, cover, rows)
		}
	}
}

// largestWithin returns the exact number of rows up to which the bound holds.
func largestWithin(sizes, exponents []int, scale int) int {
	low, high := 0, 1<<40
	for low < high {
		middle := (low + high + 1) / 2
		if isWithinBound(sizes, exponents, scale, middle) {
			low = middle
		} else {
			high = middle - 1
		}
	}
	return low
}

// TestBoundsAreExact looks at the numbers beside each bound.
func TestBoundsAreExact(t *testing.T) {
	random := rand.New(rand.NewSource(54))
	within := 0
	for range 4000 {
		count := 1 + random.Intn(4)
		den := 1 + random.Intn(12)
		var sizes []int
		var cover []impl.Rational
		for range count {
			sizes = append(sizes, random.Intn(tableRowLimit+1))
			w, _ := rationalOf(big.NewRat(int64(random.Intn(den+2)), int64(den)))
			cover = append(cover, w)
		}
		exponents, scale := plainScale(cover)
		largest := largestWithin(sizes, exponents, scale)
		for _, rows := range rowsBeside(largest) {
			if checkWithin(t, sizes, cover, rows) {
				within++
			}
		}
		_, ok := plainPowers(sizes, exponents)
		if ok && (!impl.IsWithinAGMBound(sizes, cover, largest) || impl.IsWithinAGMBound(sizes, cover, largest+1)) {
			t.Fatalf("the bound of %v and %v is not %d", sizes, cover, largest)
		}
	}
	if within < 10000 {
		t.Errorf("only %d numbers of rows are within their bound", within)
	}
}

// sampleSizes contains numbers on both sides of each limit of the sizes.
var sampleSizes = []int{math.MinInt, -17, -1, 0, 1, 2, 15, 16, 17, 100, billion, math.MaxInt}

// TestBoundsOfAllArguments combines numbers that are valid and invalid.
func TestBoundsOfAllArguments(t *testing.T) {
	weights := append(sampleWeights()[:260], parsedRationals(t, "1/2 1/3 1/99 1/100 1/101 99/100 100/101 100 101 -1/2")...)
	for i, w := range append(weights, invalidRationals()...) {
		for _, size := range sampleSizes {
			for _, rows := range []int{math.MinInt, -1, 0, 1, 2, 16, 17, math.MaxInt} {
				checkWithin(t, []int{size}, []impl.Rational{w}, rows)
				if i%6 == 0 {
					checkWithin(t, []int{3, size}, []impl.Rational{rational(1, 2), w}, rows)
					checkWithin(t, []int{size, 0, 2}, []impl.Rational{w, rational(0, 1), rational(1, 1)}, rows)
				}
			}
			checkCompare(t, []int{size}, []impl.Rational{w}, []impl.Rational{rational(1, 2)})
			checkCompare(t, []int{size}, []impl.Rational{rational(1, 1)}, []impl.Rational{w})
			checkCompare(t, []int{3, size}, []impl.Rational{rational(1, 3), w}, []impl.Rational{w, rational(0, 1)})
		}
		checkWithin(t, nil, []impl.Rational{w}, 0)
		checkWithin(t, nil, []impl.Rational{w}, 1)
		checkCompare(t, nil, []impl.Rational{w}, nil)
		checkCompare(t, nil, nil, []impl.Rational{w})
	}
}

func TestBoundsOfLongLists(t *testing.T) {
	const count = 100000
	ones, long := slices.Repeat([]int{1}, count), slices.Repeat([]impl.Rational{{Num: 1, Den: 2}}, count)
	wrong := append(slices.Clone(long), impl.Rational{})
	if !impl.IsWithinAGMBound(ones, long, 1) || impl.IsWithinAGMBound(ones, long, 2) || !impl.IsWithinAGMBound(make([]int, count), long, 0) {
		t.Error("the bound of many sizes of 1 is not 1")
	}
	if impl.IsWithinAGMBound(ones, long[1:], 0) || impl.IsWithinAGMBound(ones[1:], long, 0) || impl.IsWithinAGMBound(append(ones, 1), wrong, 0) {
		t.Error("wrong long lists have a bound")
	}
	if got, ok := impl.CompareAGMBounds(ones, long, long); got != 0 || !ok {
		t.Errorf("CompareAGMBounds of equal long lists = %d, %v", got, ok)
	}
	for _, c := range [][][]impl.Rational{{long, long[1:]}, {long[1:], long}, {long, wrong[1:]}, {wrong[1:], long}, {long, nil}} {
		if got, ok := impl.CompareAGMBounds(ones, c[0], c[1]); got != 0 || ok {
			t.Errorf("CompareAGMBounds(%s, %s) = %d, %v", describeRationals(c[0]), describeRationals(c[1]), got, ok)
		}
	}
	if got, ok := impl.BestCover(parsedQuery(t, "()=r(X)"), ones); got != nil || ok {
		t.Errorf("BestCover of many sizes = %v, %v", got, ok)
	}
}

// plainCompareBounds is the test's own result of CompareAGMBounds.
func plainCompareBounds(sizes []int, a, b []impl.Rational) (int, bool) {
	first, firstScale := plainScale(a)
	second, secondScale := plainScale(b)
	if firstScale == 0 || secondScale == 0 {
		return 0, false
	}
	for i := range first {
		first[i] *= secondScale
	}
	for i := range second {
		second[i] *= firstScale
	}
	x, xOk := plainPowers(sizes, first)
	y, yOk := plainPowers(sizes, second)
	if !xOk || !yOk {
		return 0, false
	}
	return exactBigInt(x).Cmp(exactBigInt(y)), true
}

// checkCompare also exchanges the covers, and compares each one with itself.
func checkCompare(t *testing.T, sizes []int, a, b []impl.Rational) {
	t.Helper()
	for _, pair := range [][2][]impl.Rational{{a, b}, {b, a}, {a, a}, {b, b}} {
		want, wantOk := plainCompareBounds(sizes, pair[0], pair[1])
		if got, ok := impl.CompareAGMBounds(sizes, pair[0], pair[1]); got != want || ok != wantOk {
			t.Fatalf("CompareAGMBounds(%v, %s, %s) = %d, %v, want %d, %v", short(sizes), describeRationals(pair[0]), describeRationals(pair[1]), got, ok, want, wantOk)
		}
	}
}

// noOrder is the result of a comparison that fails.
const noOrder = 9

// compareCases lists sizes, two lists of weights, and how their bounds compare.
var compareCases = []struct {
	sizes []int
	a, b  string
	want  int
}{
	{[]int{1, 9, 1}, "1 0 1", "1/2 1/2 1/2", -1},
	{[]int{4, 4, 4}, "1 0 1", "1/2 1/2 1/2", 1},
	{[]int{4, 2, 2}, "0 1 1", "1/2 1/2 1/2", 0},
	{[]int{5, 2, 2}, "0 1 1", "1/2 1/2 1/2", -1},
	{[]int{3, 2, 2}, "0 1 1", "1/2 1/2 1/2", 1},
	{[]int{4}, "1/2", "1/3", 1},
	{[]int{4}, "1/3", "1/2", -1},
	{[]int{4}, "2/3", "1/2", 1},
	{[]int{1}, "2/3", "1/2", 0},
	{[]int{0}, "2/3", "1/2", 0},
	{[]int{7}, "1", "1", 0},
	{[]int{7}, "0", "1", -1},
	{[]int{8, 4}, "1/3 0", "0 1/2", 0},
	{[]int{8, 4}, "1/3 0", "0 2/5", 1},
	{[]int{8, 5}, "1/3 0", "0 1/2", -1},
	{[]int{2, 3}, "1/7 0", "0 1/11", -1},
	{[]int{2, 3}, "1/11 0", "0 1/7", -1},
	{[]int{27, 9}, "1/3 0", "0 1/2", 0},
	{nil, "", "", 0},
	// An empty relation.
	{[]int{0}, "0", "1", 1},
	{[]int{0}, "1", "0", -1},
	{[]int{0, 3}, "0 1", "1 1", 1},
	{[]int{0, 3}, "1/2 1", "0 1/2", -1},
	{[]int{0, 3}, "1/2 1", "1 1", 0},
	{[]int{3, 0}, "1 0", "1/2 0", 1},
	{[]int{0, 0}, "0 0", "0 1", 1},
	{[]int{0, 0}, "1 0", "0 1", 0},
	// A common denominator may exceed 100, but no exponent may.
	{[]int{5}, "1/101", "0", 1},
	{[]int{5}, "1/1000", "0", 1},
	{[]int{5}, "0", "1/1000", -1},
	{[]int{5}, "1/1001", "0", noOrder},
	{[]int{5}, "0", "1/1001", noOrder},
	{[]int{2}, "1/100", "1", -1},
	{[]int{2}, "1/101", "1", noOrder},
	{[]int{1}, "1", "1/101", noOrder},
	{[]int{1}, "100", "0", 0},
	{[]int{1}, "101", "0", noOrder},
	{[]int{1}, "0", "101", noOrder},
	{[]int{1}, "1000000000", "1/1000", noOrder},
	{[]int{1}, "1/1000", "1000000000", noOrder},
	{[]int{1}, "10", "1/10", 0},
	{[]int{1}, "10", "1/11", noOrder},
	// The exponents are not reduced: 20 times 20 is too much, 10 times 10 is not.
	{[]int{1, 1}, "1/20 1", "1/20 1", noOrder},
	{[]int{1, 1}, "1/10 1", "1/10 1", 0},
	{[]int{2, 1}, "1/10 1", "1/5 1", -1},
	{[]int{1, 1}, "1/10 1/2", "1/20 0", 0},
	{[]int{1, 1}, "1/10 1", "1/20 0", noOrder},
	// A product has 60 digits, or one more.
	{[]int{10, 10}, "30 29", "29 30", 0},
	{[]int{10, 10}, "30 29", "30 28", 1},
	{[]int{10, 10}, "30 29", "30 30", noOrder},
	{[]int{10, 10}, "30 30", "30 29", noOrder},
	{[]int{10, 10}, "30 30", "30 30", noOrder},
	{[]int{10, 10}, "15 15", "0 0", 1},
	{[]int{10, 10}, "15 15", "1/2 0", noOrder},
	{[]int{10, 10}, "15 14", "1/2 0", 1},
	{[]int{10, 10}, "15 29/2", "59/2 0", noOrder},
	{[]int{10, 10, 0}, "30 30 1", "0 0 0", noOrder},
	{[]int{math.MaxInt}, "1", "3", -1},
	{[]int{math.MaxInt}, "1", "4", noOrder},
	{[]int{math.MaxInt, math.MaxInt - 1}, "1 0", "0 1", 1},
	{[]int{math.MaxInt, math.MaxInt - 1}, "1/3 0", "0 1/3", 1},
	// Not admissible.
	{[]int{4, 4}, "1 1", "1", noOrder},
	{[]int{4, 4}, "1", "1 1", noOrder},
	{[]int{4, 4}, "1", "1", noOrder},
	{[]int{4}, "1 1", "1 1", noOrder},
	{[]int{4}, "1 0", "1", noOrder},
	{[]int{4}, "1", "1 0", noOrder},
	{[]int{4}, "", "1", noOrder},
	{[]int{4}, "1", "", noOrder},
	{nil, "1", "1", noOrder},
	{nil, "", "0", noOrder},
	{nil, "", "-1", noOrder},
	{nil, "-1", "", noOrder},
	{[]int{4}, "-1", "1", noOrder},
	{[]int{4}, "1", "-1", noOrder},
	{[]int{4}, "-1/2", "-1/2", noOrder},
	{[]int{-4}, "1", "1", noOrder},
	{[]int{-4}, "0", "0", noOrder},
	{[]int{4, -1}, "1 0", "1 0", noOrder},
	{[]int{math.MinInt}, "2", "0", noOrder},
}

func TestCompareAGMBounds(t *testing.T) {
	for _, c := range compareCases {
		a, b := parsedRationals(t, c.a), parsedRationals(t, c.b)
		want, wantOk := c.want, true
		if c.want == noOrder {
			want, wantOk = 0, false
		}
		if got, ok := impl.CompareAGMBounds(c.sizes, a, b); got != want || ok != wantOk {
			t.Errorf("CompareAGMBounds(%v, %s, %s) = %d, %v", c.sizes, c.a, c.b, got, ok)
		}
		checkCompare(t, c.sizes, a, b)
	}
}

// randomCover has weights with one common denominator.
func randomCover(random *rand.Rand, count int) []impl.Rational {
	den := 1 + random.Intn(7)
	list := []impl.Rational{}
	for range count {
		w, _ := rationalOf(big.NewRat(int64(random.Intn(den+2)), int64(den)))
		list = append(list, w)
	}
	return list
}

// TestComparisonsOfRandomCovers compares also with numbers of any size.
func TestComparisonsOfRandomCovers(t *testing.T) {
	random := rand.New(rand.NewSource(55))
	counts := map[int]int{}
	for range 8000 {
		count := random.Intn(5)
		sizes := []int{}
		for range count {
			sizes = append(sizes, random.Intn(tableRowLimit+1))
		}
		a, b := randomCover(random, count), randomCover(random, count)
		checkCompare(t, sizes, a, b)
		got, ok := impl.CompareAGMBounds(sizes, a, b)
		if want := sharedPower(sizes, a).Cmp(sharedPower(sizes, b)); ok && got != want {
			t.Fatalf("CompareAGMBounds(%v, %v, %v) = %d, want %d", sizes, a, b, got, want)
		}
		if !ok {
			got = noOrder
		}
		counts[got]++
	}
	for _, order := range []int{-1, 0, 1, noOrder} {
		if counts[order] < 100 {
			t.Errorf("the results of the comparisons are %v", counts)
		}
	}
}

// sharedPower returns the bound to the power of 420, which all denominators up
// to 7 divide, and so those of the vertices.
func sharedPower(sizes []int, cover []impl.Rational) *big.Int {
	bound := big.NewInt(1)
	for i, w := range cover {
		bound.Mul(bound, exactPower(sizes[i], w.Num*420/w.Den))
	}
	return bound
}

// plainBestCover is the test's own result of BestCover for a query with these
// vertices.
func plainBestCover(q impl.Query, vertices [][]impl.Rational, sizes []int) ([]impl.Rational, bool) {
	isWrong := func(size int) bool { return size < 0 || size > tableRowLimit }
	if len(vertices) == 0 || len(sizes) != len(q.Atoms) || slices.ContainsFunc(sizes, isWrong) {
		return nil, false
	}
	best, least := vertices[0], sharedPower(sizes, vertices[0])
	for _, vertex := range vertices {
		if bound := sharedPower(sizes, vertex); bound.Cmp(least) < 0 {
			best, least = vertex, bound
		}
	}
	return best, true
}

func checkBestCover(t *testing.T, q impl.Query, sizes []int) {
	t.Helper()
	p, _ := plainCoverProgram(q)
	checkBestVertex(t, q, plainVertices(p, atLeast), sizes)
}

func checkBestVertex(t *testing.T, q impl.Query, vertices [][]impl.Rational, sizes []int) {
	t.Helper()
	want, wantOk := plainBestCover(q, vertices, sizes)
	if got, ok := impl.BestCover(q, sizes); !sameRationals(got, want) || ok != wantOk {
		t.Fatalf("BestCover(%s, %v) = %v, %v, want %v, %v", describeQuery(q), short(sizes), got, ok, want, wantOk)
	}
}

// bestCases lists queries, sizes and the best cover.
var bestCases = []struct {
	query string
	sizes []int
	want  string
}{
	{"(XYZ)=r(XY),s(YZ),t(ZX)", []int{1, 9, 1}, "1 0 1"},
	{"(XYZ)=r(XY),s(YZ),t(ZX)", []int{4, 4, 4}, "1/2 1/2 1/2"},
	{"(XYZ)=r(XY),s(YZ),t(ZX)", []int{9, 1, 1}, "0 1 1"},
	{"(XYZ)=r(XY),s(YZ),t(ZX)", []int{1, 1, 9}, "1 1 0"},
	{"(XYZ)=r(XY),s(YZ),t(ZX)", []int{16, 16, 16}, "1/2 1/2 1/2"},
	{"(XYZ)=r(XY),s(YZ),t(ZX)", []int{16, 16, 1}, "1/2 1/2 1/2"},
	{"(XYZ)=r(XY),s(YZ),t(ZX)", []int{4, 2, 3}, "1/2 1/2 1/2"},
	{"(XYZ)=r(XY),s(YZ),t(ZX)", []int{8, 2, 2}, "0 1 1"},
	// Of several covers with the smallest bound, the first one counts.
	{"(XYZ)=r(XY),s(YZ),t(ZX)", []int{4, 2, 2}, "1/2 1/2 1/2"},
	{"(XYZ)=r(XY),s(YZ),t(ZX)", []int{1, 1, 1}, "1/2 1/2 1/2"},
	{"()=r(X),s(X)", []int{5, 5}, "0 1"},
	{"()=r(X),s(X)", []int{5, 6}, "1 0"},
	{"()=r(X),s(X)", []int{6, 5}, "0 1"},
	{"()=r(X),r(X),r(X),r(X)", []int{7, 3, 3, 7}, "0 0 1 0"},
	{"()=r(X),r(X),r(X),r(X)", []int{3, 3, 7, 7}, "0 1 0 0"},
	{"()=r(XY),s(YZ),t(ZU),u(UX)", []int{2, 8, 8, 2}, "0 1 0 1"},
	{"()=r(XY),s(YZ),t(ZU),u(UX)", []int{2, 8, 2, 8}, "1 0 1 0"},
	// An empty relation.
	{"(XYZ)=r(XY),s(YZ),t(ZX)", []int{0, 3, 3}, "1/2 1/2 1/2"},
	{"(XYZ)=r(XY),s(YZ),t(ZX)", []int{0, 0, 0}, "1/2 1/2 1/2"},
	{"()=r(X)", []int{0}, "1"},
	{"()=r(X),s(X)", []int{0, 5}, "1 0"},
	{"()=r(X),s(X)", []int{5, 0}, "0 1"},
	{"()=r(X),s(X)", []int{0, 0}, "0 1"},
	{"()=r(X),s(XY)", []int{0, 5}, "0 1"},
	{"()=r(X),s(XY)", []int{5, 0}, "0 1"},
	{"()=r(XY),s(YZ),t(ZU)", []int{5, 0, 5}, "1 0 1"},
	{"()=r(XY),s(YZ),t(ZU),u(UX)", []int{0, 8, 8, 8}, "1 0 1 0"},
	{"()=r(XYZ),s(YZU),t(ZUX),u(UXY)", []int{16, 16, 16, 16}, "1/3 1/3 1/3 1/3"},
	{"()=r(XYZ),s(YZU),t(ZUX),u(UXY)", []int{1, 16, 16, 1}, "1 0 0 1"},
	{"()=r(XYZ),s(XU),t(YU),u(ZU)", []int{16, 16, 16, 16}, "2/3 1/3 1/3 1/3"},
	{"()=r(XYZ),s(XU),t(YU),u(ZU)", []int{16, 1, 1, 1}, "0 1 1 1"},
	{"()=r(XYZUV)", []int{16}, "1"},
	{"()=r(XYZUV)", []int{17}, "none"},
	{"()=r(XYZUV)", []int{-1}, "none"},
	{"(XYZ)=r(XY),s(YZ),t(ZX)", []int{16, 17, 16}, "none"},
	{"(XYZ)=r(XY),s(YZ),t(ZX)", []int{0, 0, -1}, "none"},
	{"(XYZ)=r(XY),s(YZ),t(ZX)", []int{4, 4}, "none"},
	{"(XYZ)=r(XY),s(YZ),t(ZX)", []int{4, 4, 4, 4}, "none"},
	{"(XYZ)=r(XY),s(YZ),t(ZX)", nil, "none"},
}

func TestBestCover(t *testing.T) {
	for _, c := range bestCases {
		q := parsedQuery(t, c.query)
		got, ok := impl.BestCover(q, c.sizes)
		text := "none"
		if ok {
			text = plainFormatRationals(got)
		} else if got != nil {
			t.Errorf("BestCover(%s, %v) = %v, %v", c.query, c.sizes, got, ok)
		}
		if text != c.want {
			t.Errorf("BestCover(%s, %v) = %s, want %s", c.query, c.sizes, text, c.want)
		}
		checkBestCover(t, q, c.sizes)
	}
}

func TestSizesOfBestCovers(t *testing.T) {
	for _, s := range []string{"()=r(X)", "()=r(X),s(XY)", "(XYZ)=r(XY),s(YZ),t(ZX)", "()=r(XYZ),s(YZU),t(ZUX),u(UXY)"} {
		q := parsedQuery(t, s)
		for count := range 7 {
			checkBestCover(t, q, slices.Repeat([]int{1}, count))
			checkBestCover(t, q, make([]int, count))
		}
		for i := range q.Atoms {
			for _, size := range append(slices.Clone(sampleSizes), 1<<32, -1<<32) {
				sizes := slices.Repeat([]int{tableRowLimit}, len(q.Atoms))
				sizes[i] = size
				checkBestCover(t, q, sizes)
				if _, ok := impl.BestCover(q, sizes); ok != (0 <= size && size <= tableRowLimit) {
					t.Errorf("BestCover(%s, %v) is %v", s, sizes, ok)
				}
			}
		}
	}
	if impl.MaxTableRows != tableRowLimit {
		t.Errorf("MaxTableRows = %d", impl.MaxTableRows)
	}
}

// TestBestCoversOfAllQueries also checks that every comparison of two vertices
// succeeds, up to the largest sizes.
func TestBestCoversOfAllQueries(t *testing.T) {
	random := rand.New(rand.NewSource(56))
	found := map[string]int{}
	for i, q := range validQueriesOfAllSets() {
		if i%45 != 0 {
			continue
		}
		p, _ := plainCoverProgram(q)
		vertices := plainVertices(p, atLeast)
		largest := slices.Repeat([]int{tableRowLimit}, len(q.Atoms))
		for _, a := range vertices {
			for _, b := range vertices {
				if _, ok := impl.CompareAGMBounds(largest, a, b); !ok {
					t.Fatalf("CompareAGMBounds(%v, %v, %v) fails", largest, a, b)
				}
			}
		}
		checkBestVertex(t, q, vertices, largest)
		checkBestVertex(t, q, vertices, make([]int, len(q.Atoms)))
		for range 4 {
			sizes := []int{}
			for range q.Atoms {
				sizes = append(sizes, []int{0, 1, 2, 3, 4, 5, 9, 15, 16}[random.Intn(9)])
			}
			checkBestVertex(t, q, vertices, sizes)
			best, _ := impl.BestCover(q, sizes)
			found[plainFormatRationals(best)]++
		}
	}
	for _, s := range []string{"1/2 1/2 1/2 1", "2/3 1/3 1/3 1/3", "1 0 1 0", "0 1 1 1"} {
		if found[s] == 0 {
			t.Errorf("%s is never the best cover: %v", s, found)
		}
	}
}

func programOfCovers(t *testing.T, q impl.Query) impl.LinearProgram {
	t.Helper()
	p, ok := impl.CoverProgram(q)
	if !ok {
		t.Fatalf("%s has no program", describeQuery(q))
	}
	return p
}

// TestNoCoverHasASmallerBound compares the best cover with all covers of some
// simple weights, for sizes of at least 1.
func TestNoCoverHasASmallerBound(t *testing.T) {
	random := rand.New(rand.NewSource(57))
	for i, q := range coverQueries(t) {
		if i%3 != 0 {
			continue
		}
		covers, _ := coversAndPackings(q)
		for range 5 {
			sizes := []int{}
			for range q.Atoms {
				sizes = append(sizes, 1+random.Intn(tableRowLimit))
			}
			best, _ := impl.BestCover(q, sizes)
			bound := sharedPower(sizes, best)
			for _, nums := range covers {
				if sharedPower(sizes, sixthsAsWeights(nums)).Cmp(bound) < 0 {
					t.Fatalf("BestCover(%s, %v) = %v, but %v/6 has a smaller bound", describeQuery(q), sizes, best, nums)
				}
			}
		}
	}
}

// checkBound expects that the bindings are within the bounds of these covers.
// It returns the number of covers whose bound has no number that is too large.
func checkBound(t *testing.T, db impl.Database, q impl.Query, bindings int, covers [][]impl.Rational) int {
	t.Helper()
	sizes, ok := impl.AtomSizes(db, q)
	if !ok {
		t.Fatalf("AtomSizes(%s, %s) fails", describeDatabase(db), describeQuery(q))
	}
	checked := 0
	for _, cover := range covers {
		exponents, scale := plainScale(cover)
		if _, ok := plainPowers(sizes, exponents); !ok || scale == 0 || scale > exponentLimit {
			continue
		}
		checked++
		if !impl.IsFractionalCover(q, cover) || !impl.IsWithinAGMBound(sizes, cover, bindings) {
			t.Fatalf("%s has %d bindings in %s, more than the bound of %v", describeQuery(q), bindings, describeDatabase(db), cover)
		}
	}
	return checked
}

// coversOf returns all vertices, the minimum cover, the best cover, and some
// other covers.
func coversOf(t *testing.T, random *rand.Rand, db impl.Database, q impl.Query) [][]impl.Rational {
	t.Helper()
	covers := impl.FeasibleVertices(programOfCovers(t, q))
	sizes, _ := impl.AtomSizes(db, q)
	best, bestOk := impl.BestCover(q, sizes)
	minimum, _, minimumOk := impl.MinimumCover(q)
	if !bestOk || !minimumOk {
		t.Fatalf("%s has no best or minimum cover", describeQuery(q))
	}
	covers = append(covers, best, minimum, slices.Repeat(wholeNumbers(1), len(q.Atoms)), slices.Repeat(wholeNumbers(2), len(q.Atoms)))
	for range 10 {
		if weights := randomWeights(random, len(q.Atoms)); impl.IsFractionalCover(q, weights) {
			covers = append(covers, weights)
		}
	}
	return covers
}

// TestBindingsAreWithinTheBounds takes random databases, with empty relations
// among them.
func TestBindingsAreWithinTheBounds(t *testing.T) {
	random := rand.New(rand.NewSource(58))
	checked, empty, withBindings := 0, 0, 0
	for i := range 1500 {
		db, q := randomDatabase(random, 1+i%6), randomQuery(random)
		if i%5 == 0 {
			db.Tables[random.Intn(len(db.Tables))].Relation.Rows = nil
		}
		bindings := impl.AllBindings(db, q)
		if bindings.Arity == 0 {
			continue
		}
		checked += checkBound(t, db, q, len(bindings.Rows), coversOf(t, random, db, q))
		if sizes, _ := impl.AtomSizes(db, q); slices.Contains(sizes, 0) {
			empty++
		}
		if len(bindings.Rows) > 0 {
			withBindings++
		}
	}
	if checked < 5000 || empty < 100 || withBindings < 500 {
		t.Errorf("%d covers are checked, of %d databases with bindings and %d with an empty relation", checked, withBindings, empty)
	}
}

// TestBindingsOfAllSmallRelations takes all relations of two columns and two
// values.
func TestBindingsOfAllSmallRelations(t *testing.T) {
	random := rand.New(rand.NewSource(59))
	relations := subsets(2, rowsOfLength([]int{0, 7}, 2))
	queries := append(queriesOfPairs(), parsedQuery(t, "(XYZ)=r(XY),s(YZ),r(ZX)"), parsedQuery(t, "()=r(XY),r(YZ),s(ZU),s(UX)"))
	for i, r := range relations {
		for k, s := range relations {
			db := database(table("r", r), table("s", s))
			for n, q := range queries {
				if (i+k+n)%16 == 0 || n >= len(queries)-2 {
					checkSizes(t, db, q)
					checkBound(t, db, q, len(plainBindings(db, q)), coversOf(t, random, db, q))
				}
			}
		}
	}
}

// squareRelation has all pairs of values below the number.
func squareRelation(number int) impl.Relation {
	return relation(2, rowsOfLength([]int{0, 1, 2, 3}[:number], 2)...)
}

// TestBoundsAreReached has databases with as many bindings as the bound of the
// best cover, so that no smaller bound is right.
func TestBoundsAreReached(t *testing.T) {
	random := rand.New(rand.NewSource(60))
	for _, c := range []struct {
		db       impl.Database
		query    string
		bindings int
	}{
		{database(table("r", squareRelation(4))), "()=r(XY),r(YZ),r(ZX)", 64},
		{database(table("r", squareRelation(3))), "()=r(XY),r(YZ),r(ZX)", 27},
		{database(table("r", squareRelation(2))), "()=r(XY),r(YZ),r(ZX)", 8},
		{database(table("r", squareRelation(1))), "()=r(XY),r(YZ),r(ZX)", 1},
		{database(table("r", squareRelation(0))), "()=r(XY),r(YZ),r(ZX)", 0},
		{database(table("r", squareRelation(4))), "()=r(XY),r(YZ),r(ZU),r(UX)", 256},
		{database(table("r", squareRelation(4))), "()=r(XY),r(ZU)", 256},
		{database(rangeTable("a", 16)), "()=a(X),a(Y),a(Z)", 4096},
		{database(rangeTable("a", 16)), "()=a(X),a(Y),a(Z),a(U)", 65536},
		{database(rangeTable("a", 16), rangeTable("b", 5)), "()=a(X),b(Y),b(Y),a(X)", 80},
		{database(table("r", relation(3, rowsOfLength([]int{4, 5}, 3)...))), "()=r(XYZ),r(YZU),r(ZUX),r(UXY)", 16},
		{database(table("r", relation(2, rowsOfLength([]int{4, 5}, 2)...)), table("s", relation(3, rowsOfLength([]int{4, 5}, 3)...))), "()=s(XYZ),r(XU),r(YU),r(ZU)", 16},
	} {
		q := parsedQuery(t, c.query)
		bindings := len(plainBindings(c.db, q))
		sizes, _ := impl.AtomSizes(c.db, q)
		best, _ := impl.BestCover(q, sizes)
		if bindings != c.bindings || !impl.IsWithinAGMBound(sizes, best, bindings) || impl.IsWithinAGMBound(sizes, best, bindings+1) {
			t.Errorf("%s has %d bindings in %s, which is not the bound of %v", c.query, bindings, describeDatabase(c.db), best)
		}
		checkBound(t, c.db, q, bindings, coversOf(t, random, c.db, q))
	}
}

// TestEmptyRelations empties each relation of a query, and all of them: there
// are no bindings, and the bound is 0 for each cover that uses the relation.
func TestEmptyRelations(t *testing.T) {
	for _, q := range coverQueries(t) {
		db := databaseOfVariable(q, q.VariableCount-1)
		vertices := impl.FeasibleVertices(programOfCovers(t, q))
		for set := 1; set < 1<<len(q.Atoms); set++ {
			emptied := cloneOfDatabase(db)
			for i := range q.Atoms {
				if set>>i&1 == 1 {
					index := slices.IndexFunc(db.Tables, func(x impl.Table) bool { return x.Name == q.Atoms[i].Relation })
					emptied.Tables[index].Relation.Rows = nil
				}
			}
			sizes, ok := impl.AtomSizes(emptied, q)
			if bindings := impl.AllBindings(emptied, q); !ok || bindings.Arity != q.VariableCount || len(bindings.Rows) != 0 {
				t.Fatalf("%s has %s in %s", describeQuery(q), describe(bindings), describeDatabase(emptied))
			}
			for i, size := range sizes {
				if (size == 0) != (set>>i&1 == 1) {
					t.Fatalf("AtomSizes(%s, %s) = %v", describeDatabase(emptied), describeQuery(q), sizes)
				}
			}
			for _, cover := range vertices {
				isUsed := false
				for i, w := range cover {
					isUsed = isUsed || sizes[i] == 0 && w.Num > 0
				}
				if !impl.IsWithinAGMBound(sizes, cover, 0) || impl.IsWithinAGMBound(sizes, cover, 1) == isUsed {
					t.Fatalf("the bound of %v and %v is 0, but should it be: %v", sizes, cover, isUsed)
				}
			}
			checkBestVertex(t, q, vertices, sizes)
		}
	}
}

type coverCall struct {
	name string
	call func(q impl.Query, sizes []int) ([][]impl.Rational, impl.Rational, bool)
}

// coverCalls returns each list of numbers of a result as one row.
func coverCalls() []coverCall {
	return []coverCall{
		{"CoverProgram", func(q impl.Query, sizes []int) ([][]impl.Rational, impl.Rational, bool) {
			p, ok := impl.CoverProgram(q)
			return append(slices.Clone(p.A), p.B, p.C), impl.Rational{}, ok
		}},
		{"A of CoverProgram", func(q impl.Query, sizes []int) ([][]impl.Rational, impl.Rational, bool) {
			p, ok := impl.CoverProgram(q)
			return p.A, impl.Rational{}, ok
		}},
		{"MinimumCover", func(q impl.Query, sizes []int) ([][]impl.Rational, impl.Rational, bool) {
			cover, weight, ok := impl.MinimumCover(q)
			return [][]impl.Rational{cover}, weight, ok
		}},
		{"MaximumPacking", func(q impl.Query, sizes []int) ([][]impl.Rational, impl.Rational, bool) {
			packing, weight, ok := impl.MaximumPacking(q)
			return [][]impl.Rational{packing}, weight, ok
		}},
		{"BestCover", func(q impl.Query, sizes []int) ([][]impl.Rational, impl.Rational, bool) {
			cover, ok := impl.BestCover(q, sizes)
			return [][]impl.Rational{cover}, impl.Rational{}, ok
		}},
	}
}

func TestCoverMemory(t *testing.T) {
	queries := coverQueries(t)
	for i, q := range allQueries() {
		if i%150 == 0 {
			queries = append(queries, q)
		}
	}
	for i, original := range queries {
		for _, sizes := range [][]int{slices.Repeat([]int{2 + i%3}, len(original.Atoms)), make([]int, len(original.Atoms)), {1, 17}, nil} {
			q, isQueryAsBefore := guardedQuery(original)
			list, array := guardedInts(sizes)
			saved := slices.Clone(array)
			areAsBefore := func() bool { return isQueryAsBefore() && slices.Equal(array, saved) }
			for _, c := range coverCalls() {
				call := func() ([][]impl.Rational, impl.Rational, bool) { return c.call(q, list) }
				if problem := matrixMemoryProblem(call, areAsBefore); problem != "" {
					t.Fatalf("%s(%s, %v): %s", c.name, describeQuery(original), short(sizes), problem)
				}
			}
		}
	}
}

func TestAtomSizesMemory(t *testing.T) {
	random := rand.New(rand.NewSource(61))
	check := func(first impl.Database, second impl.Query) {
		t.Helper()
		db, isDatabaseAsBefore := guardedDatabase(first)
		q, isQueryAsBefore := guardedQuery(second)
		call := func() (impl.Relation, bool) {
			sizes, ok := impl.AtomSizes(db, q)
			return relation(0, sizes), ok
		}
		if problem := memoryProblem(call, func() bool { return isDatabaseAsBefore() && isQueryAsBefore() }); problem != "" {
			t.Fatalf("AtomSizes(%s, %s): %s", describeDatabase(first), describeQuery(second), problem)
		}
	}
	for i := range 300 {
		check(randomDatabase(random, 2+i%4), randomQuery(random))
	}
	for i, db := range allDatabases() {
		for k, q := range queriesFor(db) {
			if (i+k)%15 == 0 {
				check(db, q)
			}
		}
	}
	for i, q := range allQueries() {
		if i%20 == 0 {
			check(parsedDatabase(t, "a=1:(0)\nr=2:(0,0) (0,1) (1,1)\ns=1:(0) (1)\n"), q)
		}
	}
}

func TestProductOfPowersMemory(t *testing.T) {
	for _, c := range powerCases {
		sizes, sizeArray := guardedInts(c.sizes)
		exponents, exponentArray := guardedInts(c.exponents)
		savedSizes, savedExponents := slices.Clone(sizeArray), slices.Clone(exponentArray)
		areAsBefore := func() bool {
			return slices.Equal(sizeArray, savedSizes) && slices.Equal(exponentArray, savedExponents)
		}
		call := func() (impl.Relation, bool) {
			product, ok := impl.ProductOfPowers(sizes, exponents)
			return relation(0, product.Digits), ok
		}
		if problem := memoryProblem(call, areAsBefore); problem != "" {
			t.Fatalf("ProductOfPowers(%v, %v): %s", c.sizes, c.exponents, problem)
		}
	}
}

func TestBoundArgumentsAreNotModified(t *testing.T) {
	check := func(original []int, first, second []impl.Rational) {
		t.Helper()
		sizes, sizeArray := guardedInts(original)
		a, arrayOfA := guardedRationals(first)
		b, arrayOfB := guardedRationals(second)
		savedSizes, savedA, savedB := slices.Clone(sizeArray), slices.Clone(arrayOfA), slices.Clone(arrayOfB)
		impl.IsWithinAGMBound(sizes, a, 3)
		impl.IsWithinAGMBound(sizes, b, -3)
		impl.CompareAGMBounds(sizes, a, b)
		impl.CompareAGMBounds(sizes, b, a)
		impl.CompareAGMBounds(sizes, a, a)
		if !slices.Equal(sizeArray, savedSizes) || !sameRationals(arrayOfA, savedA) || !sameRationals(arrayOfB, savedB) {
			t.Fatalf("%v, %v or %v is modified", original, first, second)
		}
	}
	for _, c := range compareCases {
		check(c.sizes, parsedRationals(t, c.a), parsedRationals(t, c.b))
	}
	for _, c := range withinCases {
		check(c.sizes, parsedRationals(t, c.cover), invalidRationals())
	}
}

// TestBoundPartsMayOverlap takes the sizes and exponents, and both covers, from
// one array each.
func TestBoundPartsMayOverlap(t *testing.T) {
	numbers := []int{2, 0, 3, 1, 4, 2, 1}
	weights := parsedRationals(t, "1/2 0 1 1/3 1/2 2/3 1")
	savedNumbers, savedWeights := slices.Clone(numbers), slices.Clone(weights)
	for i := range numbers {
		for k := range numbers {
			for count := 0; count <= len(numbers)-max(i, k); count++ {
				checkPowers(t, numbers[i:i+count], numbers[k:k+count])
				checkCompare(t, numbers[i:i+count], weights[i:i+count], weights[k:k+count])
				checkWithin(t, numbers[i:i+count], weights[k:k+count], count)
			}
		}
	}
	variables := []int{1, 0, 2, 1, 0}
	savedVariables := slices.Clone(variables)
	for start := range 3 {
		q := query(3, variables[1:3], atom("r", variables[:2]...), atom("s", variables[start:start+3]...), atom("r", variables[start:start+2]...))
		checkCoverProgram(t, q)
		checkOptima(t, q)
		checkBestCover(t, q, numbers[start:start+3])
		checkBestCover(t, q, variables[start:start+3])
		checkSizes(t, parsedDatabase(t, "r=2:(0,1) (1,1)\ns=3:(0,1,2)\n"), q)
	}
	if !slices.Equal(numbers, savedNumbers) || !sameRationals(weights, savedWeights) || !slices.Equal(variables, savedVariables) {
		t.Errorf("the arrays are now %v, %v and %v", numbers, weights, variables)
	}
}
