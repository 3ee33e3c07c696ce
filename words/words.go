// Package words is layer 2: whole numbers of 64 bits that wrap round, and their texts. See shared/doc/02-words.md.
package words

import (
	"math/bits"
	"strconv"

	"trestle/api"
)

const (
	mostPlain = 1<<63 - 1 // the greatest decimal numeral without a sign
	mostMinus = 1 << 63   // the greatest one behind a minus sign
	mostCeil  = 1 << 30   // the greatest number that Ceil2 takes
)

// Add, Sub, Mul, Neg: wrapped round.
func Add(a, b int) int { return a + b }

// Sub: a - b.
func Sub(a, b int) int { return a - b }

// Mul: a * b.
func Mul(a, b int) int { return a * b }

// Neg: -a.
func Neg(a int) int { return -a }

// apart: the language rounds towards nought, so its remainder has the dividend's sign: does it lie on the other side of nought than b?
func apart(rest, b int) bool { return rest != 0 && (rest < 0) != (b < 0) }

// Div: the quotient, rounded down.
func Div(a, b int) (int, api.Errno) {
	if b == 0 {
		return 0, api.ErrZero
	}
	quotient := a / b
	if apart(a%b, b) {
		quotient--
	}
	return quotient, api.OK
}

// Mod: what Div leaves.
func Mod(a, b int) (int, api.Errno) {
	if b == 0 {
		return 0, api.ErrZero
	}
	rest := a % b
	if apart(rest, b) {
		rest += b
	}
	return rest, api.OK
}

// digit: what a digit is worth; false: it is none, decimal or hexadecimal.
func digit(c byte) (uint64, bool) {
	switch {
	case c >= '0' && c <= '9':
		return uint64(c - '0'), true
	case c >= 'a' && c <= 'f':
		return uint64(c-'a') + 10, true
	case c >= 'A' && c <= 'F':
		return uint64(c-'A') + 10, true
	}
	return 0, false
}

// hexadecimal: the number of one or more hexadecimal digits, modulo 2^64.
func hexadecimal(s string) (uint64, api.Errno) {
	if s == "" {
		return 0, api.ErrText
	}
	n := uint64(0)
	for i := range len(s) {
		d, ok := digit(s[i])
		if !ok {
			return 0, api.ErrText
		}
		n = n*16 + d
	}
	return n, api.OK
}

// decimal: the number of one or more decimal digits, which may not be above most.
func decimal(s string, most uint64) (uint64, api.Errno) {
	if s == "" {
		return 0, api.ErrText
	}
	n, big := uint64(0), false
	for i := range len(s) {
		d, ok := digit(s[i])
		if !ok || d > 9 {
			return 0, api.ErrText
		}
		// A text may be too great here and still turn out to be no numeral: ErrText goes first.
		big = big || n > (most-d)/10
		n = n*10 + d
	}
	if big {
		return 0, api.ErrBig
	}
	return n, api.OK
}

// numeral: the number of a numeral; a decimal one may not be above most.
func numeral(s string, most uint64) (uint64, api.Errno) {
	if len(s) >= 2 && s[0] == '0' && (s[1] == 'x' || s[1] == 'X') {
		return hexadecimal(s[2:])
	}
	return decimal(s, most)
}

// Parse: the number of a numeral.
func Parse(s string) (int, api.Errno) {
	n, err := numeral(s, mostPlain)
	return int(n), err
}

// Read: the number of a numeral, with a minus sign or without.
func Read(s string) (int, api.Errno) {
	if s == "" || s[0] != '-' {
		return Parse(s)
	}
	n, err := numeral(s[1:], mostMinus)
	return Neg(int(n)), err
}

// Format: its decimal text.
func Format(n int) string { return strconv.Itoa(n) }

// Log2: the least k with n at most 2^k.
func Log2(n int) int {
	if n < 1 {
		return -1
	}
	return bits.Len64(uint64(n - 1))
}

// Ceil2: the least power of two that is at least n.
func Ceil2(n int) (int, api.Errno) {
	switch {
	case n < 0:
		return 0, api.ErrArg
	case n > mostCeil:
		return 0, api.ErrBig
	case n == 0:
		return 0, api.OK
	}
	return 1 << Log2(n), api.OK
}

// Turns: how often a loop from first to last by step goes round, less one.
func Turns(first, last, step int) (uint64, bool, api.Errno) {
	if step == 0 {
		return 0, false, api.ErrArg
	}
	// Ways of up to 2^64 - 1 fit no int: the difference is taken without a sign.
	if step > 0 {
		if first > last {
			return 0, false, api.OK
		}
		return (uint64(last) - uint64(first)) / uint64(step), true, api.OK
	}
	if first < last {
		return 0, false, api.OK
	}
	return (uint64(first) - uint64(last)) / -uint64(step), true, api.OK
}
