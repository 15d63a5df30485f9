// Package digit is layer 1: decimal numbers, and kinds of bytes. See shared/doc/01-digit.md.
package digit

import (
	"strconv"
	"strings"

	"palinode/api"
)

// Is tells whether c is in the class of that name, and whether there is such a class.
func Is(class string, c byte) (in, ok bool) {
	switch class {
	case "upper":
		return isUpper(c), true
	case "lower":
		return isLower(c), true
	case "digit":
		return isDigit(c), true
	case "alpha":
		return isAlpha(c), true
	case "alnum":
		return isAlnum(c), true
	case "blank":
		return isBlank(c), true
	case "space":
		return isBlank(c) || within(c, '\n', '\r'), true
	case "cntrl":
		return c < 32 || c == 127, true
	case "graph":
		return isGraph(c), true
	case "print":
		return isGraph(c) || c == ' ', true
	case "punct":
		return isGraph(c) && !isAlnum(c), true
	case "xdigit":
		return isDigit(c) || within(c, 'A', 'F') || within(c, 'a', 'f'), true
	}
	return false, false
}

func within(c, first, last byte) bool { return first <= c && c <= last }

func isUpper(c byte) bool { return within(c, 'A', 'Z') }

func isLower(c byte) bool { return within(c, 'a', 'z') }

func isDigit(c byte) bool { return within(c, '0', '9') }

func isAlpha(c byte) bool { return isUpper(c) || isLower(c) }

func isAlnum(c byte) bool { return isAlpha(c) || isDigit(c) }

func isBlank(c byte) bool { return c == ' ' || c == '\t' }

func isGraph(c byte) bool { return within(c, 33, 126) }

// Num reads the number that the digits of b from the place at on make, and tells the place behind them.
func Num(b []byte, at, most int) (n, next int, e api.Errno) {
	if at < 0 || at > len(b) {
		return 0, 0, api.ErrArg
	}
	end := digitsEnd(b, at)
	if end == at {
		return 0, 0, api.ErrForm
	}
	n, ok := value(b[at:end], most)
	if !ok {
		return 0, 0, api.ErrRange
	}
	return n, end, api.OK
}

func digitsEnd(b []byte, at int) int {
	for at < len(b) && isDigit(b[at]) {
		at++
	}
	return at
}

// value gives up as soon as the number is above most: a row of digits may be longer than any int holds, and an int would go round.
func value(digits []byte, most int) (int, bool) {
	n := 0
	for _, c := range digits {
		d := int(c - '0')
		if d > most || n > (most-d)/10 {
			return 0, false
		}
		n = 10*n + d
	}
	return n, true
}

// Text writes n's digits, behind a - if n is below 0.
func Text(n int) string { return strconv.Itoa(n) }

// Join writes the texts of all numbers, with sep between two.
func Join(sep string, l ...int) string {
	texts := make([]string, 0, len(l))
	for _, n := range l {
		texts = append(texts, Text(n))
	}
	return strings.Join(texts, sep)
}
