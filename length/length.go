// Package length implements layer 1: fixed-point lengths. See shared/doc/01-length.md.
package length

import (
	"strconv"
	"strings"

	"vinculum/api"
)

const (
	perPoint   = 1000
	maxPercent = 10000
)

// Valid reports whether a number is a length.
func Valid(n int) bool { return -api.MaxLength <= n && n <= api.MaxLength }

// Scale returns a percentage of a length, rounded.
func Scale(n, percent int) int {
	if !Valid(n) || percent < 0 || percent > maxPercent {
		return 0
	}
	return round(n*percent, 100)
}

// Half returns half a length, rounded.
func Half(n int) int {
	if !Valid(n) {
		return 0
	}
	return round(n, 2)
}

// MulDiv returns a length times a quotient, rounded.
func MulDiv(n, a, b int) int {
	if !Valid(n) || !Valid(a) || !Valid(b) || b == 0 {
		return 0
	}
	return round(n*a, b)
}

// round returns p / q, rounded to the nearest integer, halves away from zero.
func round(p, q int) int {
	quotient, rest := p/q, p%q
	if 2*abs(rest) < abs(q) {
		return quotient
	}
	// The quotient may be cut down to 0, so its sign comes from p and q.
	if (p < 0) != (q < 0) {
		return quotient - 1
	}
	return quotient + 1
}

func abs(n int) int {
	if n < 0 {
		return -n
	}
	return n
}

// Add returns the sum of two lengths.
func Add(a, b int) (int, api.Errno) { return Sum([]int{a, b}) }

// Sum returns the sum of a list.
func Sum(l []int) (int, api.Errno) {
	// An invalid element counts even behind a beginning whose sum is out of range.
	for _, n := range l {
		if !Valid(n) {
			return 0, api.ErrArg
		}
	}
	sum := 0
	for _, n := range l {
		sum += n
		if !Valid(sum) {
			return 0, api.ErrRange
		}
	}
	return sum, api.OK
}

// Text returns the text of a length.
func Text(n int) string {
	if !Valid(n) {
		return ""
	}
	text := strconv.Itoa(abs(n) / perPoint)
	if rest := abs(n) % perPoint; rest != 0 {
		// Adding a point keeps the zeros at the beginning of the rest.
		digits := strconv.Itoa(perPoint + rest)[1:]
		text += "." + strings.TrimRight(digits, "0")
	}
	if n < 0 {
		text = "-" + text
	}
	return text + "pt"
}

// Parse returns the length with a text.
func Parse(s string) (int, api.Errno) {
	number, hasUnit := strings.CutSuffix(s, "pt")
	number, negative := strings.CutPrefix(number, "-")
	whole, rest, hasRest := strings.Cut(number, ".")
	if !hasUnit || !isWhole(whole) || hasRest && !isRest(rest) {
		return 0, api.ErrSyntax
	}
	if negative && number == "0" {
		return 0, api.ErrSyntax
	}
	n, err := strconv.Atoi(whole + (rest + "000")[:3])
	// Only digits are left, so the error says that there are too many.
	if err != nil || !Valid(n) {
		return 0, api.ErrRange
	}
	if negative {
		n = -n
	}
	return n, api.OK
}

// isWhole reports whether a string is a decimal number without leading zeros.
func isWhole(s string) bool {
	return isDigits(s) && (s == "0" || s[0] != '0')
}

// isRest reports whether a string can stand behind the point.
func isRest(s string) bool {
	return isDigits(s) && len(s) <= 3 && s[len(s)-1] != '0'
}

// isDigits reports whether a string consists of one or more digits.
func isDigits(s string) bool {
	for i := range len(s) {
		if s[i] < '0' || s[i] > '9' {
			return false
		}
	}
	return s != ""
}
