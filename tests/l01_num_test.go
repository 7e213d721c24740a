package tests

import (
	"math"
	"strings"
	"testing"

	"loop.example/g01917/impl"
)

// allStrings returns every string of at most maxLength bytes of the alphabet.
func allStrings(alphabet string, maxLength int) []string {
	all := []string{""}
	last := all
	for range maxLength {
		var longer []string
		for _, s := range last {
			for i := range len(alphabet) {
				longer = append(longer, s+alphabet[i:i+1])
			}
		}
		all = append(all, longer...)
		last = longer
	}
	return all
}

func allBytes() string {
	b := make([]byte, 256)
	for i := range b {
		b[i] = byte(i)
	}
	return string(b)
}

// sampleNumbers returns the numbers around each power of two, from 0 to max.
func sampleNumbers(max int) []int {
	var numbers []int
	for shift := range 62 {
		for d := -2; d <= 2; d++ {
			if n := 1<<shift + d; 0 <= n && n <= max {
				numbers = append(numbers, n)
			}
		}
	}
	return append(numbers, max)
}

var invalidWidths = []int{math.MinInt, -8, -1, 0, 8, 9, 64, math.MaxInt}

func TestEncodeFixed(t *testing.T) {
	for _, c := range []struct {
		n, width int
		want     string
	}{
		{258, 2, "\x01\x02"},
		{0, 1, "\x00"},
		{0, 7, "\x00\x00\x00\x00\x00\x00\x00"},
		{255, 1, "\xff"},
		{255, 3, "\x00\x00\xff"},
		{256, 2, "\x01\x00"},
		{0x01020304050607, 7, "\x01\x02\x03\x04\x05\x06\x07"},
		{1<<56 - 1, 7, "\xff\xff\xff\xff\xff\xff\xff"},
		{256, 1, ""},
		{1 << 56, 7, ""},
		{math.MaxInt, 7, ""},
		{-1, 1, ""},
		{-1, 7, ""},
		{math.MinInt, 7, ""},
		{1, 8, ""},
	} {
		if got := impl.EncodeFixed(c.n, c.width); got != c.want {
			t.Errorf("EncodeFixed(%d, %d) = %q, want %q", c.n, c.width, got, c.want)
		}
	}
	for _, width := range invalidWidths {
		for _, n := range []int{math.MinInt, -1, 0, 1, 255, math.MaxInt} {
			if got := impl.EncodeFixed(n, width); got != "" {
				t.Errorf("EncodeFixed(%d, %d) = %q", n, width, got)
			}
		}
	}
}

func TestFixedRange(t *testing.T) {
	for width := 1; width <= 7; width++ {
		limit := 1 << (8 * width)
		if got, want := impl.EncodeFixed(limit-1, width), strings.Repeat("\xff", width); got != want {
			t.Errorf("EncodeFixed(%d, %d) = %q", limit-1, width, got)
		}
		for _, n := range []int{limit, limit + 1, math.MaxInt, -1, -limit, math.MinInt} {
			if got := impl.EncodeFixed(n, width); got != "" {
				t.Errorf("EncodeFixed(%d, %d) = %q", n, width, got)
			}
		}
		for _, n := range sampleNumbers(limit - 1) {
			s := impl.EncodeFixed(n, width)
			if len(s) != width {
				t.Errorf("EncodeFixed(%d, %d) has %d bytes", n, width, len(s))
			}
			for _, behind := range []string{"", "\x00", "\xff", "more bytes"} {
				if got, ok := impl.DecodeFixed(s+behind, width); got != n || !ok {
					t.Errorf("DecodeFixed(%q, %d) = %d, %v, want %d", s+behind, width, got, ok, n)
				}
			}
			if got, ok := impl.DecodeFixed(s[:width-1], width); got != 0 || ok {
				t.Errorf("DecodeFixed(%q, %d) = %d, %v", s[:width-1], width, got, ok)
			}
		}
	}
}

func TestDecodeFixed(t *testing.T) {
	for _, c := range []struct {
		s     string
		width int
		n     int
		ok    bool
	}{
		{"\x01\x02", 2, 258, true},
		{"\x01\x02\x03", 2, 258, true},
		{"\x01\x02\x03", 1, 1, true},
		{"\x00", 1, 0, true},
		{"\xff\xff\xff\xff\xff\xff\xff\xff", 7, 1<<56 - 1, true},
		{"", 1, 0, false},
		{"\x01", 2, 0, false},
		{"\x01\x02\x03\x04\x05\x06", 7, 0, false},
	} {
		if n, ok := impl.DecodeFixed(c.s, c.width); n != c.n || ok != c.ok {
			t.Errorf("DecodeFixed(%q, %d) = %d, %v", c.s, c.width, n, ok)
		}
	}
	for _, width := range invalidWidths {
		for _, s := range []string{"", "\x01", "\x00\x00\x00\x00\x00\x00\x00\x01", strings.Repeat("\x01", 100)} {
			if n, ok := impl.DecodeFixed(s, width); n != 0 || ok {
				t.Errorf("DecodeFixed(%q, %d) = %d, %v", s, width, n, ok)
			}
		}
	}
	for _, s := range allStrings(allBytes(), 2)[1:] {
		if n, ok := impl.DecodeFixed(s, len(s)); !ok || impl.EncodeFixed(n, len(s)) != s {
			t.Fatalf("DecodeFixed(%q, %d) = %d, %v", s, len(s), n, ok)
		}
	}
}

func TestEncodeVarint(t *testing.T) {
	if impl.MaxVarint != 562949953421311 {
		t.Errorf("MaxVarint = %d", impl.MaxVarint)
	}
	for _, c := range []struct {
		n    int
		want string
	}{
		{0, "\x00"},
		{1, "\x01"},
		{127, "\x7f"},
		{128, "\x80\x01"},
		{300, "\xac\x02"},
		{16383, "\xff\x7f"},
		{16384, "\x80\x80\x01"},
		{impl.MaxVarint - 1, "\xfe\xff\xff\xff\xff\xff\x7f"},
		{impl.MaxVarint, "\xff\xff\xff\xff\xff\xff\x7f"},
		{impl.MaxVarint + 1, ""},
		{math.MaxInt, ""},
		{-1, ""},
		{-300, ""},
		{math.MinInt, ""},
	} {
		if got := impl.EncodeVarint(c.n); got != c.want {
			t.Errorf("EncodeVarint(%d) = %q, want %q", c.n, got, c.want)
		}
	}
}

func TestVarintRoundTrip(t *testing.T) {
	for _, n := range sampleNumbers(impl.MaxVarint) {
		s := impl.EncodeVarint(n)
		for _, behind := range []string{"", "\x00", "\x80", "\xff\xff", "z", s} {
			if got, k := impl.DecodeVarint(s + behind); got != n || k != len(s) {
				t.Errorf("DecodeVarint(%q) = %d, %d, want %d", s+behind, got, k, n)
			}
		}
		for k := range len(s) {
			if got, length := impl.DecodeVarint(s[:k]); got != 0 || length != 0 {
				t.Errorf("DecodeVarint(%q) = %d, %d", s[:k], got, length)
			}
		}
	}
}

func TestDecodeVarintRejects(t *testing.T) {
	for _, s := range []string{
		"",
		"\x80",
		"\xff",
		"\xac",
		"\x80\x00",
		"\x80\x00\x01",
		"\xac\x80\x00",
		"\xff\xff\xff\xff\xff\xff\x00",
		"\xff\xff\xff\xff\xff\xff",
		"\xff\xff\xff\xff\xff\xff\xff",
		"\x80\x80\x80\x80\x80\x80\x80\x01",
		"\x80\x80\x80\x80\x80\x80\x80\x00",
		"\xff\xff\xff\xff\xff\xff\xff\xff\x7f",
		"\x80\x80\x80\x80\x80\x80\x80\x80\x80\x01",
		strings.Repeat("\x80", 1000) + "\x01",
		strings.Repeat("\xff", 1000),
	} {
		if n, k := impl.DecodeVarint(s); n != 0 || k != 0 {
			t.Errorf("DecodeVarint(%q) = %d, %d", s, n, k)
		}
	}
}

// TestDecodeVarintAcceptsNothingElse compares DecodeVarint, on all short
// strings, with a search among the varints of at most two bytes.
func TestDecodeVarintAcceptsNothingElse(t *testing.T) {
	numbers := map[string]int{}
	for n := range 1 << 14 {
		numbers[impl.EncodeVarint(n)] = n
	}
	if len(numbers) != 1<<14 {
		t.Fatalf("%d varints of at most two bytes", len(numbers))
	}
	for _, s := range allStrings(allBytes(), 2) {
		wantNumber, wantLength := 0, 0
		for k := 1; k <= len(s); k++ {
			if n, ok := numbers[s[:k]]; ok {
				wantNumber, wantLength = n, k
			}
		}
		if n, k := impl.DecodeVarint(s); n != wantNumber || k != wantLength {
			t.Fatalf("DecodeVarint(%q) = %d, %d, want %d, %d", s, n, k, wantNumber, wantLength)
		}
	}
	for _, s := range allStrings("\x00\x01\x7f\x80\x81\xff", 7) {
		n, k := impl.DecodeVarint(s)
		if k == 0 && n != 0 || k > 0 && impl.EncodeVarint(n) != s[:k] {
			t.Fatalf("DecodeVarint(%q) = %d, %d", s, n, k)
		}
	}
}

func TestEncodeHex(t *testing.T) {
	for _, c := range []struct{ s, want string }{
		{"", ""},
		{"\x00", "00"},
		{"a\xff", "61ff"},
		{"\x0f\xf0", "0ff0"},
		{"\x01\x23\x45\x67\x89\xab\xcd\xef", "0123456789abcdef"},
		{"\u00e9", "c3a9"},
	} {
		if got := impl.EncodeHex(c.s); got != c.want {
			t.Errorf("EncodeHex(%q) = %q, want %q", c.s, got, c.want)
		}
		if got, ok := impl.DecodeHex(c.want); got != c.s || !ok {
			t.Errorf("DecodeHex(%q) = %q, %v", c.want, got, ok)
		}
	}
	for _, s := range allStrings(allBytes(), 2) {
		if got, ok := impl.DecodeHex(impl.EncodeHex(s)); got != s || !ok {
			t.Fatalf("DecodeHex(EncodeHex(%q)) = %q, %v", s, got, ok)
		}
	}
	long := strings.Repeat(allBytes(), 5)
	if got, ok := impl.DecodeHex(impl.EncodeHex(long)); got != long || !ok {
		t.Error("long string")
	}
}

func TestDecodeHexAcceptsNothingElse(t *testing.T) {
	accepted := 0
	for _, s := range allStrings(allBytes(), 2)[1:] {
		got, ok := impl.DecodeHex(s)
		if ok {
			accepted++
		}
		if ok && impl.EncodeHex(got) != s || !ok && got != "" {
			t.Fatalf("DecodeHex(%q) = %q, %v", s, got, ok)
		}
	}
	if accepted != 256 {
		t.Errorf("DecodeHex accepts %d strings of one or two bytes", accepted)
	}
	for _, s := range []string{"6", "61f", "6F", "6f7", "61FF", "6g", "g6", "/0", "0:", "`0", "0x", "61 ", " 61", "6161g1", "61\x00"} {
		if got, ok := impl.DecodeHex(s); got != "" || ok {
			t.Errorf("DecodeHex(%q) = %q, %v", s, got, ok)
		}
	}
}

func TestFormatInt(t *testing.T) {
	for _, c := range []struct {
		n    int
		want string
	}{
		{0, "0"},
		{7, "7"},
		{-7, "-7"},
		{10, "10"},
		{-120, "-120"},
		{999999999, "999999999"},
		{1000000000, "1000000000"},
		{math.MaxInt, "9223372036854775807"},
		{math.MinInt, "-9223372036854775808"},
	} {
		if got := impl.FormatInt(c.n); got != c.want {
			t.Errorf("FormatInt(%d) = %q, want %q", c.n, got, c.want)
		}
	}
}

func TestParseInt(t *testing.T) {
	const largest = 999999999
	numbers := []int{0, 7, 9, 10, 99, 100, 99999999, 100000000, largest - 1, largest}
	for n := range 2000 {
		numbers = append(numbers, n)
	}
	for _, n := range append(numbers, sampleNumbers(largest)...) {
		for _, signed := range []int{n, -n} {
			if got, ok := impl.ParseInt(impl.FormatInt(signed)); got != signed || !ok {
				t.Fatalf("ParseInt(%q) = %d, %v", impl.FormatInt(signed), got, ok)
			}
		}
	}
	for _, n := range []int{largest + 1, -largest - 1, 9999999999, -9999999999, math.MaxInt, math.MinInt} {
		if got, ok := impl.ParseInt(impl.FormatInt(n)); got != 0 || ok {
			t.Errorf("ParseInt(%q) = %d, %v", impl.FormatInt(n), got, ok)
		}
	}
}

func TestParseIntRejects(t *testing.T) {
	for _, s := range []string{
		"", "-", "+", "--1", "-0", "00", "07", "-07", "+1", "+0", " 1", "1 ", "1\n", "\x001", "1\x00",
		"1_000", "0x10", "0b1", "1e3", "1.0", "a", "1a", "a1", "1-", "1-1", "\u0661", "\uff11", "\u22121",
		"0000000001", "-000000001", "1000000000", "-1000000000", "9223372036854775807",
		"9223372036854775808", "18446744073709551617", "-18446744073709551617", strings.Repeat("9", 1000),
		strings.Repeat("0", 1000),
	} {
		if n, ok := impl.ParseInt(s); n != 0 || ok {
			t.Errorf("ParseInt(%q) = %d, %v", s, n, ok)
		}
	}
}

func TestParseIntAcceptsNothingElse(t *testing.T) {
	formats := map[string]int{}
	for n := -999; n <= 9999; n++ {
		formats[impl.FormatInt(n)] = n
	}
	for _, s := range allStrings("019-+ _.xa/:\x00\xff", 4) {
		want, wantOk := formats[s]
		if n, ok := impl.ParseInt(s); n != want || ok != wantOk {
			t.Fatalf("ParseInt(%q) = %d, %v", s, n, ok)
		}
	}
}
