// Package num is layer 1: numbers, as text. See shared/doc/01-num.md.
package num

import (
	"strconv"
	"strings"

	"sash/api"
)

const hexDigits = "0123456789abcdef"

// Digits are the digits of each of these numbers, with a comma between one and the next.
// A number that has no digits leaves its place between the commas empty.
func Digits(l ...int) string {
	texts := make([]string, len(l))
	for i, n := range l {
		texts[i] = digitsOf(n)
	}
	return strings.Join(texts, ",")
}

// Head is the number with which a text begins, and how many digits it has.
func Head(s string) (int, int, api.Errno) {
	k := countDigits(s)
	if k == 0 || k > 1 && s[0] == '0' {
		return 0, 0, api.ErrForm
	}
	n, ok := valueOf(s[:k])
	if !ok {
		return 0, 0, api.ErrLong
	}
	return n, k, api.OK
}

// Read is the number of a text.
func Read(s string) (int, api.Errno) {
	// Asked ahead of Head: a wrong byte behind a number that is too great is ErrForm, not ErrLong.
	if countDigits(s) != len(s) {
		return 0, api.ErrForm
	}
	n, _, e := Head(s)
	return n, e
}

// Hex are the four digits of a number, the highest first.
func Hex(n uint16) string {
	return string([]byte{
		hexDigits[n>>12],
		hexDigits[n>>8&15],
		hexDigits[n>>4&15],
		hexDigits[n&15],
	})
}

// ReadHex is the number of four digits.
func ReadHex(s string) (uint16, api.Errno) {
	if len(s) != 4 {
		return 0, api.ErrForm
	}
	n := uint16(0)
	for _, sign := range s {
		v, ok := hexValue(sign)
		if !ok {
			return 0, api.ErrForm
		}
		n = n<<4 | v
	}
	return n, api.OK
}

func digitsOf(n int) string {
	if n < 0 || n > api.MaxNum {
		return ""
	}
	return strconv.Itoa(n)
}

// countDigits is how many digits a text begins with.
func countDigits(s string) int {
	for i, sign := range s {
		if !isDigit(sign) {
			return i
		}
	}
	return len(s)
}

// valueOf is the number that digits tell, and whether it is at most MaxNum.
func valueOf(digits string) (int, bool) {
	n := 0
	for _, sign := range digits {
		d := int(sign - '0')
		// Asked ahead of the sum, so that no text is long enough to wrap it round.
		if n > (api.MaxNum-d)/10 {
			return 0, false
		}
		n = n*10 + d
	}
	return n, true
}

func isDigit(sign rune) bool {
	return '0' <= sign && sign <= '9'
}

// hexValue is what a hexadecimal digit tells; capitals are none, for there is one text of each number.
func hexValue(sign rune) (uint16, bool) {
	switch {
	case isDigit(sign):
		return uint16(sign - '0'), true
	case 'a' <= sign && sign <= 'f':
		return uint16(sign-'a') + 10, true
	}
	return 0, false
}
