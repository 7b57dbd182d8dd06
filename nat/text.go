package nat

import (
	"strconv"
	"strings"

	"codewright/api"
)

// A chunk is a group of decimal digits that fits into a limb.
const (
	chunkDigits = 9
	chunkSize   = 1_000_000_000
)

// Text returns the decimal digits of a.
func Text(a api.Nat) string {
	chunks := decimal(a)
	if len(chunks) == 0 {
		return "0"
	}
	var text strings.Builder
	for i := len(chunks) - 1; i >= 0; i-- {
		digits := strconv.FormatUint(uint64(chunks[i]), 10)
		if i < len(chunks)-1 {
			text.WriteString(strings.Repeat("0", chunkDigits-len(digits)))
		}
		text.WriteString(digits)
	}
	return text.String()
}

// decimal returns the digits of a in base chunkSize, the least significant one first.
func decimal(a api.Nat) []uint32 {
	var chunks []uint32
	rest := Trim(a)
	for len(rest) > 0 {
		chunks = append(chunks, shortDivide(rest, chunkSize))
		rest = significant(rest)
	}
	return chunks
}

// Parse returns the number with the decimal digits s. Errors: ErrBig if s has more than MaxDigits bytes, ErrSyntax if it is not the text of a number.
func Parse(s string) (api.Nat, api.Errno) {
	if len(s) > api.MaxDigits {
		return nil, api.ErrBig
	}
	if !isText(s) {
		return nil, api.ErrSyntax
	}
	var value api.Nat
	for len(s) > 0 {
		// The chunk that is shorter than the others, if there is one, is the first one.
		end := (len(s)-1)%chunkDigits + 1
		value = shortMultiply(value, chunkSize, chunkValue(s[:end]))
		s = s[end:]
	}
	return value, api.OK
}

// isText reports whether s consists of digits, without a superfluous 0 at its beginning.
func isText(s string) bool {
	if s == "" || len(s) > 1 && s[0] == '0' {
		return false
	}
	for i := range len(s) {
		if s[i] < '0' || s[i] > '9' {
			return false
		}
	}
	return true
}

// chunkValue returns the value of at most chunkDigits digits.
func chunkValue(digits string) uint32 {
	value := uint32(0)
	for i := range len(digits) {
		value = 10*value + uint32(digits[i]-'0')
	}
	return value
}
