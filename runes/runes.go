// Package runes is layer 1: texts rune by rune. See shared/doc/01-runes.md.
package runes

import (
	"strings"

	"trestle/api"
)

// The code point that stands for an invalid byte, and the bytes that are its own valid encoding.
const (
	stand      = 0xFFFD
	standBytes = "\xef\xbf\xbd"
)

// Rune is a rune of a text: where it begins, how many bytes it has, its code point.
type Rune struct {
	At, Size, R int
}

// bad: the range tells an invalid byte and a true 0xFFFD by the same code point; only their sizes differ.
func (r Rune) bad() bool { return r.R == stand && r.Size == 1 }

// each tells the runes of the text, in their order, as long as tell answers true.
func each(s string, tell func(Rune) bool) {
	for at, r := range s {
		if !tell(Rune{At: at, Size: size(s[at:], r), R: int(r)}) {
			return
		}
	}
}

// size: how many bytes the rune r has, with which the rest begins. (A range tells where a rune begins, not where it ends.)
func size(rest string, r rune) int {
	switch {
	case r < 0x80:
		return 1
	case r < 0x800:
		return 2
	case r == stand && !strings.HasPrefix(rest, standBytes):
		return 1
	case r < 0x10000:
		return 3
	}
	return 4
}

// List: all runes of the text.
func List(s string) []Rune {
	var all []Rune
	each(s, func(r Rune) bool {
		all = append(all, r)
		return true
	})
	return all
}

// Count: how many.
func Count(s string) int {
	n := 0
	each(s, func(Rune) bool {
		n++
		return true
	})
	return n
}

// Bad: where the first invalid byte stands; -1: nowhere.
func Bad(s string) int {
	at := -1
	each(s, func(r Rune) bool {
		if r.bad() {
			at = r.At
		}
		return at < 0
	})
	return at
}

// encodes: is r a code point that has an encoding?
func encodes(r int) bool {
	return r >= 0 && r <= 0x10FFFF && (r < 0xD800 || r > 0xDFFF)
}

// Encode: the bytes of a code point.
func Encode(r int) (string, api.Errno) {
	if !encodes(r) {
		return "", api.ErrRune
	}
	return string(rune(r)), api.OK
}

// Decode: the rune at a byte.
func Decode(s string, at int) (Rune, api.Errno) {
	if at < 0 || at >= len(s) {
		return Rune{}, api.ErrArg
	}
	var first Rune
	each(s[at:], func(r Rune) bool {
		first = Rune{At: at, Size: r.Size, R: r.R}
		return false
	})
	return first, api.OK
}

// Place: the line and the column of a byte, from 1 on.
func Place(s string, at int) (int, int, api.Errno) {
	if at < 0 || at > len(s) {
		return 0, 0, api.ErrArg
	}
	line, column := 1, 1
	// The whole text is gone through, not s[:at]: a rune that at cuts counts once, not once for each of its bytes.
	each(s, func(r Rune) bool {
		if r.At >= at {
			return false
		}
		column++
		if r.R == '\n' {
			line, column = line+1, 1
		}
		return true
	})
	return line, column, api.OK
}

// Part: the bytes of the runes from number i on, up to j.
func Part(s string, i, j int) string {
	var part []byte
	n := 0
	each(s, func(r Rune) bool {
		if i <= n && n < j {
			part = append(part, s[r.At:r.At+r.Size]...)
		}
		n++
		return n < j
	})
	return string(part)
}

// Letter: may a name begin with it?
func Letter(r int) bool {
	if r >= 0x80 {
		return r != stand && encodes(r)
	}
	return r >= 'a' && r <= 'z' || r >= 'A' && r <= 'Z' || r == '_'
}

// Digit: is it a decimal digit?
func Digit(r int) bool { return r >= '0' && r <= '9' }

// Turned: the runes from the last one to the first, each with its own bytes.
func Turned(s string) string {
	turned := make([]byte, len(s))
	end := len(s)
	each(s, func(r Rune) bool {
		end -= r.Size
		copy(turned[end:], s[r.At:r.At+r.Size])
		return true
	})
	return string(turned)
}
