package impl

import "strconv"

const MaxVarint = 562949953421311

const maxFixedWidth = 7
const maxVarintLength = 7
const maxParsedInt = 999999999
const hexDigits = "0123456789abcdef"

func EncodeFixed(n int, width int) string {
	if !isFixedWidth(width) || n < 0 || n>>(8*width) != 0 {
		return ""
	}
	encoded := make([]byte, width)
	for i := width - 1; i >= 0; i-- {
		encoded[i] = byte(n)
		n >>= 8
	}
	return string(encoded)
}

func DecodeFixed(s string, width int) (int, bool) {
	if !isFixedWidth(width) || len(s) < width {
		return 0, false
	}
	n := 0
	for i := range width {
		n = n<<8 | int(s[i])
	}
	return n, true
}

func isFixedWidth(width int) bool {
	return 1 <= width && width <= maxFixedWidth
}

func EncodeVarint(n int) string {
	if n < 0 || n > MaxVarint {
		return ""
	}
	encoded := make([]byte, 0, maxVarintLength)
	for n >= 128 {
		encoded = append(encoded, byte(n%128+128))
		n /= 128
	}
	return string(append(encoded, byte(n)))
}

// DecodeVarint needs no comparison with MaxVarint, because seven groups of
// seven bits cannot exceed it.
func DecodeVarint(s string) (int, int) {
	n := 0
	for i := 0; i < len(s) && i < maxVarintLength; i++ {
		group := int(s[i] % 128)
		n |= group << (7 * i)
		if s[i] >= 128 {
			continue
		}
		if group == 0 && i > 0 {
			return 0, 0
		}
		return n, i + 1
	}
	return 0, 0
}

func EncodeHex(s string) string {
	encoded := make([]byte, 0, 2*len(s))
	for i := range len(s) {
		encoded = append(encoded, hexDigits[s[i]/16], hexDigits[s[i]%16])
	}
	return string(encoded)
}

func DecodeHex(s string) (string, bool) {
	if len(s)%2 != 0 {
		return "", false
	}
	decoded := make([]byte, 0, len(s)/2)
	for i := 0; i < len(s); i += 2 {
		high, highOk := hexDigitValue(s[i])
		low, lowOk := hexDigitValue(s[i+1])
		if !highOk || !lowOk {
			return "", false
		}
		decoded = append(decoded, 16*high+low)
	}
	return string(decoded), true
}

func hexDigitValue(digit byte) (byte, bool) {
	switch {
	case '0' <= digit && digit <= '9':
		return digit - '0', true
	case 'a' <= digit && digit <= 'f':
		return digit - 'a' + 10, true
	}
	return 0, false
}

func FormatInt(n int) string {
	return strconv.Itoa(n)
}

// ParseInt formats the number again, because Atoi also accepts a plus sign,
// leading zeros and -0.
func ParseInt(s string) (int, bool) {
	n, err := strconv.Atoi(s)
	if err != nil || n < -maxParsedInt || n > maxParsedInt || FormatInt(n) != s {
		return 0, false
	}
	return n, true
}
