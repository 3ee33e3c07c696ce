package runes_test

import (
	"math"
	"slices"
	"strings"
	"testing"

	"trestle/api"
	"trestle/runes"
)

const stand = 0xFFFD

// byHand: the encoding of v by the bit patterns of UTF-8, with no help of the library.
func byHand(v int) string {
	tail := func(shift int) byte { return byte(0x80 | v>>shift&0x3F) }
	switch {
	case v < 0x80:
		return string([]byte{byte(v)})
	case v < 0x800:
		return string([]byte{byte(0xC0 | v>>6), tail(0)})
	case v < 0x10000:
		return string([]byte{byte(0xE0 | v>>12), tail(6), tail(0)})
	}
	return string([]byte{byte(0xF0 | v>>18), tail(12), tail(6), tail(0)})
}

func isCode(v int) bool { return v >= 0 && v <= 0x10FFFF && !(v >= 0xD800 && v <= 0xDFFF) }

// firstByHand: the first rune of s, which isn't empty, as the chapter says it.
func firstByHand(s string) (size, r int) {
	for n := 1; n <= 4 && n <= len(s); n++ {
		v := int(s[0])
		if n > 1 {
			v &= 0x7F >> n
		}
		for i := 1; i < n; i++ {
			v = v<<6 | int(s[i]&0x3F)
		}
		if isCode(v) && byHand(v) == s[:n] {
			return n, v
		}
	}
	return 1, stand
}

func listByHand(s string) []runes.Rune {
	var all []runes.Rune
	for at := 0; at < len(s); {
		size, r := firstByHand(s[at:])
		all = append(all, runes.Rune{At: at, Size: size, R: r})
		at += size
	}
	return all
}

func placeByHand(s string, all []runes.Rune, at int) (line, column int) {
	ahead := s[:at]
	line, column = 1+strings.Count(ahead, "\n"), 1
	for _, r := range all {
		if r.At < at && r.At > strings.LastIndex(ahead, "\n") {
			column++
		}
	}
	return line, column
}

// edgeTexts: bytes at the edges of what may lead, follow and be forbidden, in all rows of up to 3; every text of up to 2 bytes; named edges; long mixed texts.
func edgeTexts() []string {
	texts := []string{
		"", "aé", "ab\né", "aéb", "\xffa", "\xc3", "é\xff", "\xef\xbf\xbd", "\xef\xbf\xbd\xff\xef\xbf\xbd", "\xef\xbf", "\xef\xbf\xbda",
		"\xc0\x80", "\xc1\xbf", "\xe0\x80\x80", "\xe0\x9f\xbf", "\xe0\xa0\x80", "\xf0\x80\x80\x80", "\xf0\x8f\xbf\xbf", "\xf0\x90\x80\x80",
		"\xed\x9f\xbf", "\xed\xa0\x80", "\xed\xbf\xbf", "\xee\x80\x80", "\xf4\x8f\xbf\xbf", "\xf4\x90\x80\x80", "\xf5\x80\x80\x80", "\xf8\x88\x80\x80\x80",
		"\xf0\x9f\x98", "\xf0\x9f\x98\x80", "\n", "\n\n", "\né\n€\n", "\xe2\n\x82\xac", "\r\n", "日本語", strings.Repeat("é\n\xff", 20),
	}
	for a := range 256 {
		texts = append(texts, string([]byte{byte(a)}))
		for b := range 256 {
			texts = append(texts, string([]byte{byte(a), byte(b)}))
		}
	}
	edges := []byte("\x00\nA\x7f\x80\x8f\x90\x9f\xa0\xbd\xbf\xc1\xc2\xdf\xe0\xe2\xed\xef\xf0\xf4\xf5\xff")
	for _, a := range edges {
		for _, b := range edges {
			for _, c := range edges {
				texts = append(texts, string([]byte{a, b, c}), string([]byte{0xF0, a, b, c}), string([]byte{0xF4, a, b, c}))
			}
		}
	}
	seed := uint32(1)
	for range 300 {
		text := []byte{}
		for range 30 {
			seed = seed*1664525 + 1013904223
			text = append(text, edges[int(seed>>16)%len(edges)])
		}
		texts = append(texts, string(text))
	}
	return texts
}

func TestListCountBad_P1_1(t *testing.T) {
	for _, s := range edgeTexts() {
		want := listByHand(s)
		bad := -1
		for _, r := range want {
			if bad < 0 && r.Size == 1 && r.R == stand {
				bad = r.At
			}
		}
		if got := runes.List(s); !slices.Equal(got, want) {
			t.Fatalf("List(%q) = %v, want %v", s, got, want)
		}
		if got := runes.Count(s); got != len(want) {
			t.Fatalf("Count(%q) = %d, want %d", s, got, len(want))
		}
		if got := runes.Bad(s); got != bad {
			t.Fatalf("Bad(%q) = %d, want %d", s, got, bad)
		}
	}
}

func TestListExamples_P1_1(t *testing.T) {
	for _, c := range []struct {
		s    string
		want []runes.Rune
		bad  int
	}{
		{"aé", []runes.Rune{{At: 0, Size: 1, R: 0x61}, {At: 1, Size: 2, R: 0xE9}}, -1},
		{"\xffa", []runes.Rune{{At: 0, Size: 1, R: stand}, {At: 1, Size: 1, R: 0x61}}, 0},
		{"\xc3", []runes.Rune{{At: 0, Size: 1, R: stand}}, 0},
		{"é\xff", []runes.Rune{{At: 0, Size: 2, R: 0xE9}, {At: 2, Size: 1, R: stand}}, 2},
		{"\xef\xbf\xbd", []runes.Rune{{At: 0, Size: 3, R: stand}}, -1},
		{"\xef\xbf\xbd\xef\xbf", []runes.Rune{{At: 0, Size: 3, R: stand}, {At: 3, Size: 1, R: stand}, {At: 4, Size: 1, R: stand}}, 3},
		{"\xed\xa0\x80", []runes.Rune{{At: 0, Size: 1, R: stand}, {At: 1, Size: 1, R: stand}, {At: 2, Size: 1, R: stand}}, 0},
		{"\xc0\xaf", []runes.Rune{{At: 0, Size: 1, R: stand}, {At: 1, Size: 1, R: stand}}, 0},
		{"\xf0\x9f\x98\x80", []runes.Rune{{At: 0, Size: 4, R: 0x1F600}}, -1},
		{"", nil, -1},
	} {
		if got := runes.List(c.s); !slices.Equal(got, c.want) || runes.Bad(c.s) != c.bad {
			t.Errorf("List(%q) = %v, Bad %d; want %v, %d", c.s, got, runes.Bad(c.s), c.want, c.bad)
		}
	}
}

func TestDecode_P1_1(t *testing.T) {
	for _, s := range edgeTexts() {
		for at := range len(s) {
			size, r := firstByHand(s[at:])
			want := runes.Rune{At: at, Size: size, R: r}
			if got, err := runes.Decode(s, at); got != want || err != api.OK {
				t.Fatalf("Decode(%q, %d) = %v, %d, want %v", s, at, got, err, want)
			}
		}
		for _, at := range []int{math.MinInt, -1, len(s), len(s) + 1, math.MaxInt} {
			if got, err := runes.Decode(s, at); got != (runes.Rune{}) || err != api.ErrArg {
				t.Fatalf("Decode(%q, %d) = %v, %d, want ErrArg", s, at, got, err)
			}
		}
	}
}

func TestPlace_P1_1(t *testing.T) {
	for _, s := range edgeTexts() {
		all := listByHand(s)
		for at := range len(s) + 1 {
			line, column := placeByHand(s, all, at)
			if l, c, err := runes.Place(s, at); l != line || c != column || err != api.OK {
				t.Fatalf("Place(%q, %d) = %d, %d, %d, want %d, %d", s, at, l, c, err, line, column)
			}
		}
		for _, at := range []int{math.MinInt, -1, len(s) + 1, math.MaxInt} {
			if l, c, err := runes.Place(s, at); l != 0 || c != 0 || err != api.ErrArg {
				t.Fatalf("Place(%q, %d) = %d, %d, %d, want ErrArg", s, at, l, c, err)
			}
		}
	}
}

func TestPlaceExamples_P1_1(t *testing.T) {
	for _, c := range []struct {
		s                string
		at, line, column int
	}{
		{"ab\né", 5, 2, 2}, {"ab\né", 4, 2, 2}, {"ab\né", 3, 2, 1}, {"ab\né", 2, 1, 3}, {"", 0, 1, 1},
		{"€", 1, 1, 2}, {"€", 2, 1, 2}, {"€", 3, 1, 2}, {"\xe2\x82", 2, 1, 3}, {"\n\n", 1, 2, 1}, {"\n\n", 2, 3, 1},
	} {
		if l, k, err := runes.Place(c.s, c.at); l != c.line || k != c.column || err != api.OK {
			t.Errorf("Place(%q, %d) = %d, %d, %d, want %d, %d", c.s, c.at, l, k, err, c.line, c.column)
		}
	}
}

func partByHand(s string, i, j int) string {
	all := listByHand(s)
	i, j = max(i, 0), min(j, len(all))
	part := ""
	for n := i; n < j; n++ {
		part += s[all[n].At : all[n].At+all[n].Size]
	}
	return part
}

func TestPart_P1_1(t *testing.T) {
	places := []int{math.MinInt, -1, 0, 1, 2, 3, 4, 29, 30, 31, math.MaxInt}
	for n, s := range edgeTexts() {
		if n%7 != 0 && n > 40 {
			continue // every seventh of the many short ones is enough here
		}
		for _, i := range places {
			for _, j := range places {
				if got, want := runes.Part(s, i, j), partByHand(s, i, j); got != want {
					t.Fatalf("Part(%q, %d, %d) = %q, want %q", s, i, j, got, want)
				}
			}
		}
	}
}

func TestPartExamples_P1_1(t *testing.T) {
	for _, c := range []struct {
		s    string
		i, j int
		want string
	}{
		{"aéb", 1, 2, "é"}, {"aéb", -5, 99, "aéb"}, {"aéb", 2, 1, ""}, {"aéb", 1, 1, ""}, {"aéb", 3, 9, ""}, {"aéb", -9, -1, ""}, {"aéb", -9, 1, "a"},
		{"a\xff\xef\xbf\xbdb", 1, 3, "\xff\xef\xbf\xbd"}, {"", 0, 1, ""},
	} {
		if got := runes.Part(c.s, c.i, c.j); got != c.want {
			t.Errorf("Part(%q, %d, %d) = %q, want %q", c.s, c.i, c.j, got, c.want)
		}
	}
}

func TestLetterDigit_P1_1(t *testing.T) {
	for r := -300; r <= 0x110100; r++ {
		letter := r > 0 && r < 0x80 && strings.IndexByte("abcdefghijklmnopqrstuvwxyzABCDEFGHIJKLMNOPQRSTUVWXYZ_", byte(r)) >= 0
		letter = letter || r >= 0x80 && isCode(r) && r != stand
		if runes.Letter(r) != letter {
			t.Fatalf("Letter(%#x) = %v", r, !letter)
		}
		digit := r > 0 && r < 0x80 && strings.IndexByte("0123456789", byte(r)) >= 0
		if runes.Digit(r) != digit {
			t.Fatalf("Digit(%#x) = %v", r, !digit)
		}
	}
	// Numbers whose low bits alone would be a letter or a digit.
	for _, r := range []int{math.MinInt, math.MaxInt, 1<<32 + 'a', 1<<32 + '7', 1<<32 + 0xE9, math.MinInt + 'a', math.MinInt + '7', -1 << 32} {
		if runes.Letter(r) || runes.Digit(r) {
			t.Errorf("%#x is taken for a letter or a digit", r)
		}
	}
}

func TestTurned_P1_1(t *testing.T) {
	for _, s := range edgeTexts() {
		want := ""
		for _, r := range listByHand(s) {
			want = s[r.At:r.At+r.Size] + want
		}
		if got := runes.Turned(s); got != want {
			t.Fatalf("Turned(%q) = %q, want %q", s, got, want)
		}
	}
	if got := runes.Turned("aé"); got != "éa" {
		t.Errorf("Turned(aé) = %q", got)
	}
}

func TestEncode_P1_2(t *testing.T) {
	for r := -300; r <= 0x110100; r++ {
		s, err := runes.Encode(r)
		if !isCode(r) {
			if s != "" || err != api.ErrRune {
				t.Fatalf("Encode(%#x) = %q, %d, want ErrRune", r, s, err)
			}
			continue
		}
		if s != byHand(r) || err != api.OK {
			t.Fatalf("Encode(%#x) = %q, %d, want %q", r, s, err, byHand(r))
		}
		if got, err := runes.Decode(s, 0); got != (runes.Rune{At: 0, Size: len(s), R: r}) || err != api.OK {
			t.Fatalf("Decode(Encode(%#x), 0) = %v, %d", r, got, err)
		}
	}
	if s, err := runes.Encode(0x20AC); s != "\xe2\x82\xac" || err != api.OK {
		t.Errorf("Encode(0x20AC) = %q, %d", s, err)
	}
	for _, r := range []int{math.MinInt, math.MinInt + 'a', -1, 0xD800, 0xDFFF, 0x110000, 1 << 32, 1<<32 + 'a', math.MaxInt} {
		if s, err := runes.Encode(r); s != "" || err != api.ErrRune {
			t.Errorf("Encode(%#x) = %q, %d, want ErrRune", r, s, err)
		}
	}
}

func TestTogether_P1_3(t *testing.T) {
	for _, s := range edgeTexts() {
		whole, n := "", runes.Count(s)
		for k, r := range runes.List(s) {
			whole += s[r.At : r.At+r.Size]
			if got, err := runes.Decode(s, r.At); got != r || err != api.OK {
				t.Fatalf("Decode(%q, %d) = %v, %d, want %v", s, r.At, got, err, r)
			}
			if got := runes.Part(s, k, k+1); got != s[r.At:r.At+r.Size] {
				t.Fatalf("Part(%q, %d, %d) = %q", s, k, k+1, got)
			}
		}
		if whole != s {
			t.Fatalf("the runes of %q give %q", s, whole)
		}
		for k := range n + 1 {
			if got := runes.Part(s, 0, k) + runes.Part(s, k, n); got != s {
				t.Fatalf("%q parted at %d gives %q", s, k, got)
			}
		}
		if runes.Bad(s) == -1 && runes.Turned(runes.Turned(s)) != s {
			t.Fatalf("%q, turned twice, is %q", s, runes.Turned(runes.Turned(s)))
		}
	}
}

// What is answered is new memory (R3), and hangs on the arguments alone (R5).
func TestAnswersAreNew_P1(t *testing.T) {
	s := "aé\xff"
	first := runes.List(s)
	second := runes.List(s)
	for i := range first {
		first[i] = runes.Rune{At: 7, Size: 7, R: 7}
	}
	_ = append(first[:1], runes.Rune{})
	if want := listByHand(s); !slices.Equal(second, want) || !slices.Equal(runes.List(s), want) {
		t.Errorf("changing one answer changed another: %v", second)
	}
}

// Every call ends without a panic at texts and numbers of all kinds.
func TestNoPanic_P1(t *testing.T) {
	numbers := []int{math.MinInt, math.MinInt + 1, -1 << 32, -2, -1, 0, 1, 2, 3, 4, 5, 0x7F, 0x80, 0xD7FF, 0xD800, 0xDFFF, 0xE000, stand, 0x10FFFF, 0x110000, 1 << 32, math.MaxInt - 1, math.MaxInt}
	texts := []string{"", "\x00", "\n", "é", "\xff", "\xf0\x9f\x98", "\xef\xbf\xbd", strings.Repeat("\xf0", 5000), strings.Repeat("€\n", 5000)}
	for _, a := range numbers {
		runes.Encode(a)
		runes.Letter(a)
		runes.Digit(a)
		for _, s := range texts {
			runes.Decode(s, a)
			runes.Place(s, a)
			for _, b := range numbers {
				runes.Part(s, a, b)
			}
		}
	}
	for _, s := range texts {
		if len(runes.List(s)) != runes.Count(s) || len(runes.Turned(s)) != len(s) || runes.Bad(s) >= len(s) && s != "" {
			t.Errorf("%q: the answers contradict each other", s)
		}
	}
}
