package tests

import (
	"math"
	"slices"
	"strings"
	"testing"

	"loop.example/g01917/impl"
)

const valueLimit = 99

// allRows returns every row of at most maxLength of these values.
func allRows(values []int, maxLength int) [][]int {
	all := [][]int{{}}
	last := all
	for range maxLength {
		var longer [][]int
		for _, row := range last {
			for _, v := range values {
				longer = append(longer, append(slices.Clone(row), v))
			}
		}
		all = append(all, longer...)
		last = longer
	}
	return all
}

// validRow returns a row of that length in which the values differ.
func validRow(length int) []int {
	row := make([]int, length)
	for i := range row {
		row[i] = (37*i + 5) % (valueLimit + 1)
	}
	return row
}

// validRows contains all short rows of a few values, among them the limits, and
// longer rows, some of them longer than any row of a relation.
func validRows() [][]int {
	rows := append(allRows([]int{0, 1, 2, 50, valueLimit - 1, valueLimit}, 3), nil)
	for _, length := range []int{4, 5, 6, 7, 8, 63, 64, 65, 100, 101, 256, 5000} {
		rows = append(rows, validRow(length), make([]int, length), slices.Repeat([]int{valueLimit}, length))
	}
	return rows
}

var invalidValues = []int{
	-1, -2, -99, -100, -128, -255, -256, valueLimit + 1, valueLimit + 2, 127, 128, 254, 255, 256, 257, 300, 511,
	1 << 16, 1<<32 - 1, 1 << 32, 1<<32 + 5, -1 << 32, 1<<62 + 7, math.MaxInt - 1, math.MaxInt, math.MinInt, math.MinInt + 1,
}

// invalidRows contains each invalid value alone and at every position among
// valid values.
func invalidRows() [][]int {
	var rows [][]int
	for _, v := range invalidValues {
		for length := 1; length <= 7; length++ {
			for position := range length {
				row := validRow(length)
				row[position] = v
				rows = append(rows, row)
			}
		}
		rows = append(rows, []int{v, v}, append(validRow(3000), v), append([]int{v}, validRow(3000)...))
	}
	return rows
}

// plainEncoding is the test's own encoding of one value.
func plainEncoding(v int) string {
	for b := 1; b <= 100; b++ {
		if v == b-1 {
			return string([]byte{byte(b)})
		}
	}
	return ""
}

// plainValue is the test's own value of one byte, -1 if it encodes none.
func plainValue(b byte) int {
	for v := range valueLimit + 1 {
		if int(b) == v+1 {
			return v
		}
	}
	return -1
}

// plainOrder is the test's own comparison of any rows.
func plainOrder(a, b []int) int {
	for i := 0; ; i++ {
		switch {
		case i == len(a) && i == len(b):
			return 0
		case i == len(a):
			return -1
		case i == len(b):
			return 1
		case a[i] < b[i]:
			return -1
		case a[i] > b[i]:
			return 1
		}
	}
}

// short keeps messages about long rows readable.
func short(row []int) []int {
	return row[:min(len(row), 12)]
}

func TestMaxValue(t *testing.T) {
	if impl.MaxValue != valueLimit {
		t.Errorf("MaxValue = %d", impl.MaxValue)
	}
}

func TestEncodeValue(t *testing.T) {
	for _, c := range []struct {
		v    int
		want string
	}{
		{0, "\x01"},
		{1, "\x02"},
		{9, "\n"},
		{98, "c"},
		{99, "d"},
		{100, ""},
		{-1, ""},
		{math.MaxInt, ""},
		{math.MinInt, ""},
	} {
		if got := impl.EncodeValue(c.v); got != c.want {
			t.Errorf("EncodeValue(%d) = %q, want %q", c.v, got, c.want)
		}
	}
	for v := -1000; v <= 1000; v++ {
		if got, want := impl.EncodeValue(v), plainEncoding(v); got != want {
			t.Errorf("EncodeValue(%d) = %q, want %q", v, got, want)
		}
	}
	for _, v := range invalidValues {
		if got := impl.EncodeValue(v); got != "" {
			t.Errorf("EncodeValue(%d) = %q", v, got)
		}
	}
}

func checkDecodeValue(t *testing.T, s string, offset int) {
	t.Helper()
	want := -1
	if 0 <= offset && offset < len(s) {
		want = plainValue(s[offset])
	}
	v, ok := impl.DecodeValue(s, offset)
	if v != max(want, 0) || ok != (want >= 0) {
		t.Errorf("DecodeValue(%q, %d) = %d, %v", s, offset, v, ok)
	}
	if ok && impl.EncodeValue(v) != s[offset:offset+1] {
		t.Errorf("EncodeValue(%d) is not the byte %d", v, s[offset])
	}
}

func TestDecodeValue(t *testing.T) {
	for _, c := range []struct {
		s      string
		offset int
		v      int
		ok     bool
	}{
		{"\x01", 0, 0, true},
		{"d", 0, 99, true},
		{"\x03\x01", 0, 2, true},
		{"\x03\x01", 1, 0, true},
		{"\x00\xff\x32", 2, 49, true},
		{"\x32\x00\xff", 0, 49, true},
		{"\x03\x01", 2, 0, false},
		{"\x03\x01", -1, 0, false},
		{"", 0, 0, false},
		{"\x00", 0, 0, false},
		{"e", 0, 0, false},
		{"\x7f", 0, 0, false},
		{"\x80", 0, 0, false},
		{"\xff", 0, 0, false},
	} {
		if v, ok := impl.DecodeValue(c.s, c.offset); v != c.v || ok != c.ok {
			t.Errorf("DecodeValue(%q, %d) = %d, %v", c.s, c.offset, v, ok)
		}
	}
	for v := range valueLimit + 1 {
		if got, ok := impl.DecodeValue(impl.EncodeValue(v), 0); got != v || !ok {
			t.Errorf("DecodeValue(EncodeValue(%d), 0) = %d, %v", v, got, ok)
		}
	}
}

// TestDecodeValueAtEveryOffset decodes every byte, alone and among others, and
// at offsets where there is none.
func TestDecodeValueAtEveryOffset(t *testing.T) {
	offsets := []int{math.MinInt, math.MinInt + 1, -1 << 32, -256, -3, 5, 256, 257, 1 << 31, 1 << 32, 1<<32 + 1, math.MaxInt - 1, math.MaxInt}
	for offset := -2; offset <= 4; offset++ {
		offsets = append(offsets, offset)
	}
	for i := range 256 {
		one := allBytes()[i : i+1]
		for _, s := range []string{one, one + "\x01", "\x64" + one, "\x00" + one + "\xff"} {
			for _, offset := range offsets {
				checkDecodeValue(t, s, offset)
			}
		}
		checkDecodeValue(t, allBytes(), i)
	}
	checkDecodeValue(t, allBytes(), 256)
	for _, offset := range offsets {
		checkDecodeValue(t, "", offset)
	}
}

func TestEncodeRow(t *testing.T) {
	for _, c := range []struct {
		row  []int
		want string
	}{
		{nil, ""},
		{[]int{}, ""},
		{[]int{0}, "\x01"},
		{[]int{2, 0}, "\x03\x01"},
		{[]int{99, 98, 1}, "dc\x02"},
		{[]int{0, 0, 0, 0, 0, 0, 0}, "\x01\x01\x01\x01\x01\x01\x01"},
		{[]int{1, -1}, ""},
		{[]int{-1, 1}, ""},
		{[]int{100}, ""},
		{[]int{1, 2, 100, 3}, ""},
	} {
		if got := impl.EncodeRow(c.row); got != c.want {
			t.Errorf("EncodeRow(%v) = %q, want %q", c.row, got, c.want)
		}
	}
	for _, row := range validRows() {
		var want strings.Builder
		for _, v := range row {
			want.WriteString(plainEncoding(v))
		}
		if got := impl.EncodeRow(row); got != want.String() {
			t.Errorf("EncodeRow(%v) = %q", short(row), got)
		}
	}
	for _, row := range invalidRows() {
		if got := impl.EncodeRow(row); got != "" {
			t.Errorf("EncodeRow(%v) = %q", short(row), got)
		}
	}
}

func TestEncodeRowForAllPairs(t *testing.T) {
	for first := -3; first <= valueLimit+3; first++ {
		for second := -3; second <= valueLimit+3; second++ {
			want := plainEncoding(first) + plainEncoding(second)
			if len(want) != 2 {
				want = ""
			}
			if got := impl.EncodeRow([]int{first, second}); got != want {
				t.Fatalf("EncodeRow([%d %d]) = %q, want %q", first, second, got, want)
			}
		}
	}
}

// checkDecodeRow compares DecodeRow with the test's own decoding.
func checkDecodeRow(t *testing.T, s string, arity int) {
	t.Helper()
	var want []int
	wantOk := len(s) == arity
	for i := range len(s) {
		want = append(want, plainValue(s[i]))
	}
	if !wantOk || slices.Contains(want, -1) {
		want, wantOk = nil, false
	}
	row, ok := impl.DecodeRow(s, arity)
	if !slices.Equal(row, want) || ok != wantOk {
		t.Fatalf("DecodeRow(%q, %d) = %v, %v, want %v, %v", s, arity, row, ok, want, wantOk)
	}
	if ok && impl.EncodeRow(row) != s {
		t.Fatalf("EncodeRow(%v) is not %q", row, s)
	}
}

func TestDecodeRow(t *testing.T) {
	for _, c := range []struct {
		s     string
		arity int
		row   []int
		ok    bool
	}{
		{"", 0, nil, true},
		{"\x01", 1, []int{0}, true},
		{"\x03\x01", 2, []int{2, 0}, true},
		{"dc\x02", 3, []int{99, 98, 1}, true},
		{"\x01\x01\x01\x01\x01\x01\x01", 7, []int{0, 0, 0, 0, 0, 0, 0}, true},
		{"\x03", 2, nil, false},
		{"\x03\x01", 1, nil, false},
		{"\x03\x01", 0, nil, false},
		{"\x03\x01", -2, nil, false},
		{"", 1, nil, false},
		{"", -1, nil, false},
		{"", math.MinInt, nil, false},
		{"\x00", 1, nil, false},
		{"\x03\x00", 2, nil, false},
		{"e\x03", 2, nil, false},
		{"\x03\xff", 2, nil, false},
	} {
		if row, ok := impl.DecodeRow(c.s, c.arity); !slices.Equal(row, c.row) || ok != c.ok {
			t.Errorf("DecodeRow(%q, %d) = %v, %v", c.s, c.arity, row, ok)
		}
	}
	for _, row := range validRows() {
		if got, ok := impl.DecodeRow(impl.EncodeRow(row), len(row)); !slices.Equal(got, row) || !ok {
			t.Errorf("DecodeRow(EncodeRow(%v), %d) = %v, %v", short(row), len(row), short(got), ok)
		}
	}
}

func TestDecodeRowAcceptsNothingElse(t *testing.T) {
	for _, s := range allStrings(allBytes(), 2) {
		for arity := -2; arity <= 3; arity++ {
			checkDecodeRow(t, s, arity)
		}
	}
	for _, s := range allStrings("\x00\x01\x02\x64\x65\xff", 5) {
		for arity := -1; arity <= 6; arity++ {
			checkDecodeRow(t, s, arity)
		}
	}
	valid := strings.Repeat("\x01\x64", 2000)
	for _, s := range []string{"", "\x01", "\x01\x64", allBytes(), allBytes()[1:101], allBytes()[1:102], allBytes()[:101], valid, valid + "\x00", "\x65" + valid} {
		for _, arity := range []int{
			math.MinInt, -1 << 32, -len(s), -1, 0, len(s) - 1, len(s), len(s) + 1, len(s) + 256, len(s) + 1<<32,
			1 << 31, 1 << 40, math.MaxInt,
		} {
			checkDecodeRow(t, s, arity)
		}
	}
}

func TestCompareRows(t *testing.T) {
	for _, c := range []struct {
		a, b []int
		want int
	}{
		{nil, nil, 0},
		{nil, []int{}, 0},
		{[]int{}, []int{0}, -1},
		{[]int{1, 2}, []int{1, 2}, 0},
		{[]int{1, 2}, []int{1, 3}, -1},
		{[]int{1, 9}, []int{2, 3}, -1},
		{[]int{2}, []int{10}, -1},
		{[]int{2}, []int{1, 3}, 1},
		{[]int{1}, []int{1, 0}, -1},
		{[]int{1}, []int{1, -5}, -1},
		{nil, []int{math.MinInt}, -1},
		{[]int{100}, []int{99}, 1},
		{[]int{-1}, []int{0}, -1},
		{[]int{math.MinInt}, []int{math.MaxInt}, -1},
		{[]int{-2}, []int{math.MaxInt}, -1},
		{[]int{1, 256}, []int{1, 255}, 1},
		{[]int{1 << 32}, []int{0}, 1},
		{[]int{0, 0, 0, 0, 0, 0, 0}, []int{0, 0, 0, 0, 0, 0, 1}, -1},
	} {
		if got := impl.CompareRows(c.a, c.b); got != c.want {
			t.Errorf("CompareRows(%v, %v) = %d, want %d", c.a, c.b, got, c.want)
		}
		if got := impl.CompareRows(c.b, c.a); got != -c.want {
			t.Errorf("CompareRows(%v, %v) = %d, want %d", c.b, c.a, got, -c.want)
		}
	}
}

func TestCompareRowsAcceptsAnyRows(t *testing.T) {
	rows := allRows([]int{math.MinInt, -1, 0, 1, valueLimit, valueLimit + 1, 1 << 32, math.MaxInt}, 3)
	for _, a := range rows {
		for _, b := range rows {
			if got, want := impl.CompareRows(a, b), plainOrder(a, b); got != want {
				t.Fatalf("CompareRows(%v, %v) = %d, want %d", a, b, got, want)
			}
		}
	}
	for _, a := range invalidRows() {
		for _, b := range [][]int{nil, a, validRow(3), validRow(3000), append(slices.Clone(a), -1), a[:len(a)-1]} {
			if got, want := impl.CompareRows(a, b), plainOrder(a, b); got != want {
				t.Fatalf("CompareRows(%v, %v) = %d, want %d", short(a), short(b), got, want)
			}
		}
	}
}

// TestCompareRowsAtEveryPosition compares rows that differ at one position and
// have the opposite order behind it.
func TestCompareRowsAtEveryPosition(t *testing.T) {
	const length = 70
	for position := range length {
		a, b := validRow(length), validRow(length)
		a[position], b[position] = 10, 11
		for i := position + 1; i < length; i++ {
			a[i], b[i] = valueLimit, 0
		}
		if impl.CompareRows(a, b) != -1 || impl.CompareRows(b, a) != 1 {
			t.Errorf("rows that differ first at position %d", position)
		}
		if impl.CompareRows(a, b[:position+1]) != -1 || impl.CompareRows(b, a[:position+1]) != 1 {
			t.Errorf("rows of different lengths that differ first at position %d", position)
		}
	}
}

// TestEncodedRowsAreOrderedLikeRows compares the encodings of all pairs of
// valid rows, also of different lengths, as strings of bytes.
func TestEncodedRowsAreOrderedLikeRows(t *testing.T) {
	rows := validRows()
	encoded := make([]string, len(rows))
	for i, row := range rows {
		encoded[i] = impl.EncodeRow(row)
	}
	for i, a := range rows {
		for k, b := range rows {
			order := impl.CompareRows(a, b)
			if order != strings.Compare(encoded[i], encoded[k]) || order != plainOrder(a, b) {
				t.Fatalf("CompareRows(%v, %v) = %d", short(a), short(b), order)
			}
		}
	}
	for a := range valueLimit + 1 {
		for b := range valueLimit + 1 {
			order := strings.Compare(impl.EncodeValue(a), impl.EncodeValue(b))
			if order != plainOrder([]int{a}, []int{b}) {
				t.Fatalf("the encodings of %d and %d have the order %d", a, b, order)
			}
		}
	}
}

// TestPrefixesAreLess compares each row with all of its proper prefixes, which
// lie in the same memory, and with longer rows.
func TestPrefixesAreLess(t *testing.T) {
	for _, row := range append(validRows(), invalidRows()...) {
		for count := range min(len(row), 100) {
			if impl.CompareRows(row[:count], row) != -1 || impl.CompareRows(row, row[:count]) != 1 {
				t.Errorf("the first %d values of %v", count, short(row))
			}
		}
		for _, v := range []int{math.MinInt, -1, 0, valueLimit, valueLimit + 1, math.MaxInt} {
			longer := append(slices.Clone(row), v)
			if impl.CompareRows(row, longer) != -1 || impl.CompareRows(longer, row) != 1 {
				t.Errorf("%v and the same row with %d behind it", short(row), v)
			}
		}
		if impl.CompareRows(row, row) != 0 || impl.CompareRows(row, slices.Clone(row)) != 0 {
			t.Errorf("%v and itself", short(row))
		}
	}
	for _, row := range validRows() {
		for v := range valueLimit + 1 {
			prefix, encoded := impl.EncodeRow(row), impl.EncodeRow(append(slices.Clone(row), v))
			if !strings.HasPrefix(encoded, prefix) || prefix >= encoded {
				t.Errorf("the encodings of %v and of the same row with %d behind it", short(row), v)
			}
		}
	}
}

func TestAreValidValues(t *testing.T) {
	for _, row := range validRows() {
		if !impl.AreValidValues(row) {
			t.Errorf("AreValidValues(%v) = false", short(row))
		}
	}
	for _, row := range invalidRows() {
		if impl.AreValidValues(row) {
			t.Errorf("AreValidValues(%v) = true", short(row))
		}
	}
	for v := -1000; v <= 1000; v++ {
		if got := impl.AreValidValues([]int{v}); got != (0 <= v && v <= valueLimit) {
			t.Errorf("AreValidValues([%d]) = %v", v, got)
		}
	}
}

func TestRowArgumentsAreNotModified(t *testing.T) {
	rows := append(validRows(), invalidRows()...)
	for i, values := range rows {
		row, array := guardedInts(values)
		saved := slices.Clone(array)
		other, otherArray := guardedInts(rows[len(rows)-1-i])
		savedOther := slices.Clone(otherArray)
		impl.AreValidValues(row)
		impl.CompareRows(row, other)
		impl.CompareRows(other, row)
		encoded := impl.EncodeRow(row)
		if !slices.Equal(array, saved) || !slices.Equal(otherArray, savedOther) {
			t.Fatalf("memory of %v or %v was modified", short(values), short(other))
		}
		want := strings.Clone(encoded)
		overwriteInts(row)
		if encoded != want {
			t.Fatalf("the encoding of %v changes with the row", short(values))
		}
	}
}

// TestDecodedRowsShareNoMemory writes to all of a decoded row, to its unused
// capacity too, and looks for the change in the argument and other results.
func TestDecodedRowsShareNoMemory(t *testing.T) {
	for _, row := range validRows() {
		encoded := impl.EncodeRow(row)
		saved := strings.Clone(encoded)
		first, _ := impl.DecodeRow(encoded, len(row))
		again, _ := impl.DecodeRow(encoded, len(row))
		overwriteInts(first)
		// The next call might restore the values that were overwritten.
		kept := slices.Clone(again)
		later, _ := impl.DecodeRow(encoded, len(row))
		if !slices.Equal(kept, row) || !slices.Equal(later, row) {
			t.Errorf("DecodeRow(%q, %d) changes with its previous result", saved, len(row))
		}
		if encoded != saved || impl.EncodeRow(row) != saved {
			t.Errorf("the encoding of %v changes with the decoded row", short(row))
		}
	}
}
