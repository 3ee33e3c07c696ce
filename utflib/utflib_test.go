package utflib_test

import (
	"math"
	"math/rand"
	"slices"
	"strings"
	"testing"
	"unicode/utf8"

	"trestle/api"
	"trestle/runes"
	"trestle/utflib"
)

// mean: the place that i means in a text of n bytes.
func mean(i, n int) int {
	switch {
	case i >= 0:
		return i
	case i <= -1 && i >= -n:
		return n + 1 + i
	}
	return 0
}

// found is a rune of a text as the library's decoder tells it: its place, its code point; bad: an invalid byte.
type found struct {
	place, r int
	bad      bool
}

// from: the runes from place a on that begin at b or ahead.
func from(s string, a, b int) []found {
	var all []found
	for place := a; place <= b && place <= len(s); {
		r, size := utf8.DecodeRuneInString(s[place-1:])
		all = append(all, found{place, int(r), r == utf8.RuneError && size == 1})
		place += size
	}
	return all
}

// bookLen: Len, by the chapter's words.
func bookLen(s string, i, j int) (int, int, api.Errno) {
	n := len(s)
	a, b := mean(i, n), mean(j, n)
	if !(a >= 1 && a <= n+1) || b > n {
		return 0, 0, api.ErrArg
	}
	all := from(s, a, b)
	for _, f := range all {
		if f.bad {
			return 0, f.place, api.OK
		}
	}
	return len(all), 0, api.OK
}

func bookCodes(s string, i, j int) ([]int, api.Errno) {
	a, b := mean(i, len(s)), mean(j, len(s))
	if a < 1 || b > len(s) {
		return nil, api.ErrArg
	}
	var codes []int
	for n, f := range from(s, a, b) {
		switch {
		case f.bad:
			return nil, api.ErrRune
		case n == 200:
			return nil, api.ErrBig
		}
		codes = append(codes, f.r)
	}
	return codes, api.OK
}

// bookOffset: the places that can be counted, up or down, in a row.
func bookOffset(s string, n, i int) (int, bool, api.Errno) {
	a := mean(i, len(s))
	if a < 1 || a > len(s)+1 {
		return 0, false, api.ErrArg
	}
	inner := func(place int) bool {
		return place <= len(s) && s[place-1] >= 128 && s[place-1] <= 191
	}
	var row []int
	switch {
	case n == 0:
		for place := a; place >= 1; place-- {
			if place == 1 || !inner(place) {
				return place, true, api.OK
			}
		}
	case inner(a):
		return 0, false, api.ErrArg
	case n > 0:
		for place := a; place <= len(s)+1; place++ {
			if !inner(place) {
				row = append(row, place)
			}
		}
		if n <= len(row) {
			return row[n-1], true, api.OK
		}
	default:
		for place := a - 1; place >= 1; place-- {
			if place == 1 || !inner(place) {
				row = append(row, place)
			}
		}
		if n >= -len(row) {
			return row[-n-1], true, api.OK
		}
	}
	return 0, false, api.OK
}

func bookStep(s string, at int) (int, int, bool, api.Errno) {
	if at < 0 || at > len(s) {
		return 0, 0, false, api.ErrArg
	}
	next := 1
	if at > 0 {
		_, size := utf8.DecodeRuneInString(s[at-1:])
		next = at + size
	}
	all := from(s, next, next)
	switch {
	case len(all) == 0:
		return 0, 0, false, api.OK
	case all[0].bad:
		return 0, 0, false, api.ErrRune
	}
	return next, all[0].r, true, api.OK
}

// edges: numbers at both ends.
func edges() []int {
	return []int{math.MinInt64, math.MinInt64 + 1, -1 << 40, 1 << 40, math.MaxInt64 - 1, math.MaxInt64}
}

// hold holds all calls with a text against the book, with all places at it and beside it.
func hold(t *testing.T, s string) {
	t.Helper()
	places := edges()
	for i := -len(s) - 2; i <= len(s)+3; i++ {
		places = append(places, i)
	}
	for _, i := range places {
		for _, j := range places {
			n, bad, e := utflib.Len(s, i, j)
			if wantN, wantBad, want := bookLen(s, i, j); n != wantN || bad != wantBad || e != want {
				t.Fatalf("Len(%q, %d, %d) = %d, %d, %d, want %d, %d, %d", s, i, j, n, bad, e, wantN, wantBad, want)
			}
			codes, e := utflib.Codes(s, i, j)
			if wantCodes, want := bookCodes(s, i, j); !slices.Equal(codes, wantCodes) || e != want {
				t.Fatalf("Codes(%q, %d, %d) = %v, %d, want %v, %d", s, i, j, codes, e, wantCodes, want)
			}
			place, is, e := utflib.Offset(s, j, i)
			if wantPlace, wantIs, want := bookOffset(s, j, i); place != wantPlace || is != wantIs || e != want {
				t.Fatalf("Offset(%q, %d, %d) = %d, %v, %d, want %d, %v, %d", s, j, i, place, is, e, wantPlace, wantIs, want)
			}
		}
		place, r, more, e := utflib.Step(s, i)
		if wantPlace, wantR, wantMore, want := bookStep(s, i); place != wantPlace || r != wantR || more != wantMore || e != want {
			t.Fatalf("Step(%q, %d) = %d, %d, %v, %d, want %d, %d, %v, %d", s, i, place, r, more, e, wantPlace, wantR, wantMore, want)
		}
	}
}

// All texts of up to four of these parts: plain bytes, runes of all sizes, their beginnings and ends, what is never valid.
func TestTexts_P17_1(t *testing.T) {
	parts := []string{"a", "\x00", "\x7f", "é", "€", "\U0001F600", "\uFFFD", "\x80", "\xbf", "\xc0", "\xc3", "\xe2\x82", "\xef\xbf", "\xed\xa0\x80", "\xf0\x9f", "\xf4\x90\x80\x80", "\xff"}
	hold(t, "")
	for _, a := range parts {
		hold(t, a)
		for _, b := range parts {
			hold(t, a+b)
			for _, c := range parts {
				hold(t, a+b+c)
			}
		}
	}
	r := rand.New(rand.NewSource(17))
	for range 400 {
		s := ""
		for range r.Intn(12) {
			s += parts[r.Intn(len(parts))]
		}
		hold(t, s)
	}
}

// Texts of any bytes.
func TestBytes_P17_1(t *testing.T) {
	for b := range 256 {
		hold(t, string([]byte{byte(b)}))
		hold(t, string([]byte{byte(b), 0x80, 'a'}))
	}
	r := rand.New(rand.NewSource(18))
	for range 1500 {
		s := make([]byte, r.Intn(14))
		for i := range s {
			s[i] = byte(r.Intn(256))
			if r.Intn(3) > 0 {
				s[i] = byte(0x70 + r.Intn(0x90))
			}
		}
		hold(t, string(s))
	}
}

func TestLenExamples_P17_1(t *testing.T) {
	for _, c := range []struct {
		s      string
		i, j   int
		n, bad int
		e      api.Errno
	}{{"aé", 1, -1, 2, 0, api.OK}, {"a\xffb", 1, -1, 0, 2, api.OK}, {"aé", 3, 3, 0, 3, api.OK}, {"", 1, 0, 0, 0, api.OK}, {"", 2, 0, 0, 0, api.ErrArg}, {"a", 1, 2, 0, 0, api.ErrArg}, {"abc", -2, -1, 2, 0, api.OK}, {"\uFFFD", 1, -1, 1, 0, api.OK}, {"\xef\xbf", 1, 1, 0, 1, api.OK}, {"a\xff", 1, 1, 1, 0, api.OK}, {"aé", 1, 2, 2, 0, api.OK}} {
		if n, bad, e := utflib.Len(c.s, c.i, c.j); n != c.n || bad != c.bad || e != c.e {
			t.Errorf("Len(%q, %d, %d) = %d, %d, %d", c.s, c.i, c.j, n, bad, e)
		}
	}
}

func TestOffsetExamples_P17_1(t *testing.T) {
	for _, c := range []struct {
		n, i, place int
		is          bool
		e           api.Errno
	}{{3, 1, 4, true, api.OK}, {-1, 5, 4, true, api.OK}, {0, 3, 2, true, api.OK}, {1, 3, 0, false, api.ErrArg}, {5, 1, 0, false, api.OK}, {4, 1, 5, true, api.OK}} {
		if place, is, e := utflib.Offset("aéb", c.n, c.i); place != c.place || is != c.is || e != c.e {
			t.Errorf("Offset(aéb, %d, %d) = %d, %v, %d", c.n, c.i, place, is, e)
		}
	}
	// Place 1 ends the way down, though its byte is inner.
	for _, c := range []struct{ n, i, place int }{{0, 3, 1}, {-1, 4, 1}} {
		if place, is, e := utflib.Offset("\x80\x80\x80", c.n, c.i); place != c.place || !is || e != api.OK {
			t.Errorf("Offset of inner bytes, %d, %d: %d, %v, %d", c.n, c.i, place, is, e)
		}
	}
}

func TestStepExamples_P17_1(t *testing.T) {
	for _, c := range []struct {
		at, place, r int
		more         bool
		e            api.Errno
	}{{0, 1, 0x61, true, api.OK}, {1, 2, 0xE9, true, api.OK}, {2, 0, 0, false, api.OK}, {3, 0, 0, false, api.OK}, {4, 0, 0, false, api.ErrArg}, {-1, 0, 0, false, api.ErrArg}} {
		if place, r, more, e := utflib.Step("aé", c.at); place != c.place || r != c.r || more != c.more || e != c.e {
			t.Errorf("Step(aé, %d) = %d, %d, %v, %d", c.at, place, r, more, e)
		}
	}
}

// Char: each code point that there is, what is none, and how long a text may be.
func TestChar_P17_1(t *testing.T) {
	if s, e := utflib.Char([]int{0x61, 0x20AC}); s != "a\xe2\x82\xac" || e != api.OK {
		t.Errorf("Char = %q, %d", s, e)
	}
	for _, none := range [][]int{nil, {}} {
		if s, e := utflib.Char(none); s != "" || e != api.OK {
			t.Errorf("Char of none = %q, %d", s, e)
		}
	}
	for code := -3; code < 0x110003; code++ {
		s, e := utflib.Char([]int{code})
		if code < 0 || code > 0x10FFFF || code >= 0xD800 && code <= 0xDFFF {
			if s != "" || e != api.ErrRune {
				t.Fatalf("Char(%#x) = %q, %d", code, s, e)
			}
		} else if r, size := utf8.DecodeRuneInString(s); int(r) != code || size != len(s) || e != api.OK {
			t.Fatalf("Char(%#x) = %q, %d", code, s, e)
		}
	}
	for _, code := range append(edges(), 0x61-1<<32, 0x61+1<<32) {
		if s, e := utflib.Char([]int{0x61, code}); s != "" || e != api.ErrRune {
			t.Errorf("Char(%#x) = %q, %d", code, s, e)
		}
	}
	many := func(n int, more ...int) []int { return append(slices.Repeat([]int{'a'}, n), more...) }
	for i, c := range []struct {
		codes []int
		n     int
		e     api.Errno
	}{{many(10000), 10000, api.OK}, {many(10001), 0, api.ErrBig}, {many(9998, 0xE9), 10000, api.OK}, {many(9999, 0xE9), 0, api.ErrBig}, {many(10000, -1), 0, api.ErrRune}, {many(10001, -1), 0, api.ErrBig}, {many(9999, -1, 0xE9), 0, api.ErrRune}, {many(9996, 0x1F600), 10000, api.OK}, {many(9997, 0x1F600), 0, api.ErrBig}} {
		if s, e := utflib.Char(c.codes); len(s) != c.n || e != c.e {
			t.Errorf("%d: %d bytes, %d", i, len(s), e)
		}
	}
}

// Codes: 200 at most, and which error is met first.
func TestCodes_P17_1(t *testing.T) {
	many := func(n int) string { return strings.Repeat("é", n) }
	for i, c := range []struct {
		s    string
		i, j int
		n    int
		e    api.Errno
	}{
		{many(200), 1, -1, 200, api.OK},
		{many(201), 1, -1, 0, api.ErrBig},
		{many(201), 1, 401, 0, api.ErrBig}, // the last one begins at 401
		{many(201), 1, 400, 200, api.OK},
		{many(201), 3, -1, 200, api.OK},
		{many(200) + "\xff", 1, -1, 0, api.ErrRune},
		{many(200) + "\xff", 1, 400, 200, api.OK},
		{many(201) + "\xff", 1, -1, 0, api.ErrBig},
		{many(199) + "\xff" + many(9), 1, -1, 0, api.ErrRune},
		{many(300), 2, -1, 0, api.ErrRune},
		{"aé", 1, 2, 2, api.OK},
		{"a", 0, 1, 0, api.ErrArg},
		{"a", 1, 2, 0, api.ErrArg},
		{"a", 5, 1, 0, api.OK},
		{"a", math.MaxInt64, 1, 0, api.OK},
		{"a", -2, 1, 0, api.ErrArg},
		{"a", 1, -2, 0, api.OK},
		{"", 1, 0, 0, api.OK},
		{"", 1, -1, 0, api.OK},
	} {
		if codes, e := utflib.Codes(c.s, c.i, c.j); len(codes) != c.n || e != c.e {
			t.Errorf("%d: %d codes, %d", i, len(codes), e)
		}
	}
	if codes, e := utflib.Codes("aé", 1, 2); !slices.Equal(codes, []int{0x61, 0xE9}) || e != api.OK {
		t.Errorf("Codes = %v, %d", codes, e)
	}
}

// valid: a text made by chance, and its runes.
func valid(r *rand.Rand, n int) (string, []int) {
	sizes := []int{0x80, 0x800, 0x10000, 0x110000}
	s, codes := "", []int{}
	for len(codes) < n {
		code := r.Intn(sizes[r.Intn(4)])
		if r.Intn(10) == 0 {
			code = 0xFFFD
		}
		if code < 0xD800 || code > 0xDFFF {
			s, codes = s+string(rune(code)), append(codes, code)
		}
	}
	return s, codes
}

// In a valid text Len, Codes, Char and Step go through the same runes.
func TestWhole_P17_2(t *testing.T) {
	r := rand.New(rand.NewSource(19))
	for n := range 201 {
		s, codes := valid(r, n)
		if count, bad, e := utflib.Len(s, 1, -1); count != n || count != runes.Count(s) || bad != 0 || e != api.OK {
			t.Fatalf("Len(%q) = %d, %d, %d", s, count, bad, e)
		}
		got, e := utflib.Codes(s, 1, -1)
		if !slices.Equal(got, codes) || e != api.OK {
			t.Fatalf("Codes(%q) = %v, %d", s, got, e)
		}
		if back, e := utflib.Char(got); back != s || e != api.OK {
			t.Fatalf("Char(%v) = %q, %d", got, back, e)
		}
		at := 0
		for i, want := range runes.List(s) {
			place, code, more, e := utflib.Step(s, at)
			if place != want.At+1 || code != want.R || code != codes[i] || !more || e != api.OK {
				t.Fatalf("Step(%q, %d) = %d, %d, %v, %d", s, at, place, code, more, e)
			}
			at = place
		}
		if place, code, more, e := utflib.Step(s, at); place != 0 || code != 0 || more || e != api.OK {
			t.Fatalf("Step(%q, %d) = %d, %d, %v, %d", s, at, place, code, more, e)
		}
	}
	long, _ := valid(r, 5000)
	if n, _, e := utflib.Len(long, 1, -1); n != 5000 || e != api.OK {
		t.Errorf("a long text: %d, %d", n, e)
	}
}

// In a valid text Offset from 1 tells the place of each rune, and that behind the last one; from the end back too.
func TestPlaces_P17_3(t *testing.T) {
	r := rand.New(rand.NewSource(20))
	for m := range 80 {
		s, _ := valid(r, m)
		for k, want := range runes.List(s) {
			if place, is, e := utflib.Offset(s, k+1, 1); place != want.At+1 || !is || e != api.OK {
				t.Fatalf("Offset(%q, %d, 1) = %d, %v, %d", s, k+1, place, is, e)
			}
			if place, is, e := utflib.Offset(s, k-m, len(s)+1); place != want.At+1 || !is || e != api.OK {
				t.Fatalf("Offset(%q, %d, %d) = %d, %v, %d", s, k-m, len(s)+1, place, is, e)
			}
			for i := range want.Size {
				if place, is, e := utflib.Offset(s, 0, want.At+1+i); place != want.At+1 || !is || e != api.OK {
					t.Fatalf("Offset(%q, 0, %d) = %d, %v, %d", s, want.At+1+i, place, is, e)
				}
			}
		}
		if place, is, e := utflib.Offset(s, m+1, 1); place != len(s)+1 || !is || e != api.OK {
			t.Fatalf("Offset(%q, %d, 1) = %d, %v, %d", s, m+1, place, is, e)
		}
		if place, is, e := utflib.Offset(s, m+2, 1); place != 0 || is || e != api.OK {
			t.Fatalf("Offset(%q, %d, 1) = %d, %v, %d", s, m+2, place, is, e)
		}
	}
}

// No call panics and each ends, with long texts and at the ends of all numbers.
func TestNoPanic_P1(t *testing.T) {
	for _, s := range []string{"", "a", "\x80", strings.Repeat("\x80", 3000), strings.Repeat("é", 3000), strings.Repeat("\xff", 3000)} {
		for _, i := range append(edges(), -len(s)-1, -len(s), -1, 0, 1, len(s), len(s)+1, len(s)+2) {
			utflib.Step(s, i)
			for _, j := range append(edges(), -len(s)-1, -len(s), -1, 0, 1, len(s), len(s)+1, len(s)+2) {
				utflib.Len(s, i, j)
				utflib.Codes(s, i, j)
				utflib.Offset(s, i, j)
			}
		}
	}
	utflib.Char(slices.Repeat([]int{math.MinInt64}, 20000))
}

// The list that Char is handed stays as it is, its spare room too; what Codes answers is new each time.
func TestMemory_R3(t *testing.T) {
	room := []int{0x61, 0xE9, 1, 2, 3}
	s, _ := utflib.Char(room[:2])
	if !slices.Equal(room, []int{0x61, 0xE9, 1, 2, 3}) {
		t.Errorf("%v", room)
	}
	room[0] = 0x62
	first, _ := utflib.Codes(s, 1, -1)
	second, _ := utflib.Codes(s, 1, -1)
	first[0] = 0
	_ = append(first[:1], 7, 8)
	third, _ := utflib.Codes(s, 1, -1)
	if s != "aé" || !slices.Equal(second, []int{0x61, 0xE9}) || !slices.Equal(third, []int{0x61, 0xE9}) {
		t.Errorf("%q, %v, %v", s, second, third)
	}
}
