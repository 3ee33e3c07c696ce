package words_test

import (
	"math"
	"math/big"
	"regexp"
	"strings"
	"testing"

	"trestle/api"
	"trestle/words"
)

const (
	least = math.MinInt64
	most  = math.MaxInt64
)

// edges: the bounds and what lies beside them, powers of two and what lies beside them, small numbers, mixed ones.
func edges() []int {
	all := []int{0, 3, 5, 7, 10, 100, -3, -5, -7, -10, 6148914691236517205, -6148914691236517206, 1234567890123456789, -987654321987654321}
	for k := range 64 {
		p := 1 << k // 1 << 63 is the least number
		all = append(all, p, p-1, p+1, -p, -p-1, -p+1)
	}
	return all
}

// wrapped: the number modulo 2^64, from -2^63 to 2^63 - 1.
func wrapped(n *big.Int) int {
	low := new(big.Int).And(n, new(big.Int).SetUint64(math.MaxUint64))
	return int(low.Uint64())
}

func bigOf(n int) *big.Int { return big.NewInt(int64(n)) }

func TestSums_P2_1(t *testing.T) {
	for _, a := range edges() {
		if got, want := words.Neg(a), wrapped(new(big.Int).Neg(bigOf(a))); got != want {
			t.Errorf("Neg(%d) = %d, want %d", a, got, want)
		}
		for _, b := range edges() {
			x, y := bigOf(a), bigOf(b)
			if got, want := words.Add(a, b), wrapped(new(big.Int).Add(x, y)); got != want {
				t.Errorf("Add(%d, %d) = %d, want %d", a, b, got, want)
			}
			if got, want := words.Sub(a, b), wrapped(new(big.Int).Sub(x, y)); got != want {
				t.Errorf("Sub(%d, %d) = %d, want %d", a, b, got, want)
			}
			if got, want := words.Mul(a, b), wrapped(new(big.Int).Mul(x, y)); got != want {
				t.Errorf("Mul(%d, %d) = %d, want %d", a, b, got, want)
			}
		}
	}
}

// floor: the greatest whole number that isn't above a / b.
func floor(a, b *big.Int) *big.Int {
	q, m := new(big.Int).QuoRem(a, b, new(big.Int))
	if m.Sign() != 0 && m.Sign() != b.Sign() {
		q.Sub(q, big.NewInt(1))
	}
	return q
}

func TestDivMod_P2_1(t *testing.T) {
	for _, a := range edges() {
		for _, b := range edges() {
			q, e := words.Div(a, b)
			m, f := words.Mod(a, b)
			if b == 0 {
				if q != 0 || m != 0 || e != api.ErrZero || f != api.ErrZero {
					t.Errorf("%d by 0: %d, %d; %d, %d, want ErrZero", a, q, e, m, f)
				}
				continue
			}
			whole := floor(bigOf(a), bigOf(b))
			rest := new(big.Int).Sub(bigOf(a), new(big.Int).Mul(bigOf(b), whole))
			if q != wrapped(whole) || m != wrapped(rest) || e != api.OK || f != api.OK {
				t.Errorf("%d by %d: %d, %d; %d, %d, want %v, %v", a, b, q, e, m, f, whole, rest)
			}
			if m != 0 && (m < 0) != (b < 0) {
				t.Errorf("Mod(%d, %d) = %d has not the sign of %d", a, b, m, b)
			}
		}
	}
}

func TestExamples_P2_1(t *testing.T) {
	if words.Add(most, 1) != least || words.Mul(1<<62, 4) != 0 || words.Neg(least) != least || words.Sub(least, 1) != most || words.Mul(least, -1) != least {
		t.Error("what doesn't fit isn't wrapped round")
	}
	for _, c := range []struct{ a, b, q, m int }{{-7, 2, -4, 1}, {7, -2, -4, -1}, {7, 2, 3, 1}, {-7, -2, 3, -1}, {least, -1, least, 0}, {least, 1, least, 0}, {least, most, -2, most - 1}, {most, least, -1, -1}, {-8, 2, -4, 0}, {0, -3, 0, 0}, {1, most, 0, 1}, {-1, most, -1, most - 1}} {
		q, e := words.Div(c.a, c.b)
		m, f := words.Mod(c.a, c.b)
		if q != c.q || m != c.m || e != api.OK || f != api.OK {
			t.Errorf("%d by %d: %d, %d; %d, %d, want %d, %d", c.a, c.b, q, e, m, f, c.q, c.m)
		}
	}
}

// parseByHand: the chapter's words as a pattern and a number without bounds.
func parseByHand(s string, bound *big.Int) (*big.Int, api.Errno) {
	n := new(big.Int)
	if regexp.MustCompile(`\A0[xX][0-9a-fA-F]+\z`).MatchString(s) {
		n.SetString(s[2:], 16)
		return n, api.OK
	}
	if !regexp.MustCompile(`\A[0-9]+\z`).MatchString(s) {
		return n, api.ErrText
	}
	n.SetString(s, 10)
	if n.Cmp(bound) > 0 {
		return new(big.Int), api.ErrBig
	}
	return n, api.OK
}

func checkNumeral(t *testing.T, s string) {
	t.Helper()
	n, want := parseByHand(s, bigOf(most))
	if got, err := words.Parse(s); got != wrapped(n) || err != want {
		t.Errorf("Parse(%q) = %d, %d, want %v, %d", s, got, err, n, want)
	}
	if strings.HasPrefix(s, "-") {
		n, want = parseByHand(s[1:], new(big.Int).Neg(bigOf(least)))
		n.Neg(n)
	}
	if got, err := words.Read(s); got != wrapped(n) || err != want {
		t.Errorf("Read(%q) = %d, %d, want %v, %d", s, got, err, n, want)
	}
}

// Every row of up to 4 of the bytes that stand in numerals, or beside them.
func TestShortNumerals_P2_2(t *testing.T) {
	rows := []string{""}
	for range 4 {
		var longer []string
		for _, s := range rows {
			checkNumeral(t, s)
			for _, c := range []byte("019afgAFGxX-+_ ") {
				longer = append(longer, s+string([]byte{c}))
			}
		}
		rows = longer
	}
	for c := range 256 {
		s := string([]byte{byte(c)})
		checkNumeral(t, s)
		checkNumeral(t, "1"+s)
		checkNumeral(t, s+"1")
		checkNumeral(t, "0x"+s)
		checkNumeral(t, "0x1"+s)
		checkNumeral(t, "0"+s+"1")
	}
}

func TestNumeralsAtTheBounds_P2_2(t *testing.T) {
	for _, d := range []string{
		"9223372036854775806", "9223372036854775807", "9223372036854775808", "9223372036854775809", "9223372036854775810", "9223372036854775817", "9300000000000000000",
		"18446744073709551615", "18446744073709551616", "18446744073709551617", "99999999999999999999", "184467440737095516160", "1000000000000000000000000000000",
		"0x7fffffffffffffff", "0x8000000000000000", "0x8000000000000001", "0xFFFFFFFFFFFFFFFF", "0x10000000000000000", "0X10000000000000001", "0xfedcba98765432100123456789ABCDEF",
		strings.Repeat("0", 3000) + "9223372036854775807", strings.Repeat("0", 3000) + "9223372036854775808", strings.Repeat("0", 3000), strings.Repeat("9", 3000),
		"0x" + strings.Repeat("0", 3000) + "12", "0x" + strings.Repeat("f", 3000), "0x8" + strings.Repeat("0", 16),
	} {
		for _, s := range []string{d, "0" + d, d + "x", d + " ", " " + d, "+" + d, d + "\n", d + "٣"} {
			checkNumeral(t, s)
			checkNumeral(t, "-"+s)
			checkNumeral(t, "--"+s)
			checkNumeral(t, "- "+s)
		}
	}
}

func TestExamples_P2_2(t *testing.T) {
	for _, c := range []struct {
		s        string
		n        int
		err      api.Errno
		read     int
		readsErr api.Errno
	}{
		{"0x10", 16, 0, 16, 0}, {"0xffffffffffffffff", -1, 0, -1, 0}, {"0x10000000000000000", 0, 0, 0, 0}, {"007", 7, 0, 7, 0},
		{"9223372036854775807", most, 0, most, 0}, {"9223372036854775808", 0, api.ErrBig, 0, api.ErrBig},
		{"-9223372036854775808", 0, api.ErrText, least, 0}, {"-9223372036854775809", 0, api.ErrText, 0, api.ErrBig},
		{"", 0, api.ErrText, 0, api.ErrText}, {"-", 0, api.ErrText, 0, api.ErrText}, {"0x", 0, api.ErrText, 0, api.ErrText}, {"-0x", 0, api.ErrText, 0, api.ErrText},
		{"1a", 0, api.ErrText, 0, api.ErrText}, {"-1", 0, api.ErrText, -1, 0}, {"--1", 0, api.ErrText, 0, api.ErrText}, {"-0x1", 0, api.ErrText, -1, 0},
		{"-0x8000000000000000", 0, api.ErrText, least, 0}, {"-0", 0, api.ErrText, 0, 0}, {"99999999999999999999x", 0, api.ErrText, 0, api.ErrText},
	} {
		if n, err := words.Parse(c.s); n != c.n || err != c.err {
			t.Errorf("Parse(%q) = %d, %d, want %d, %d", c.s, n, err, c.n, c.err)
		}
		if n, err := words.Read(c.s); n != c.read || err != c.readsErr {
			t.Errorf("Read(%q) = %d, %d, want %d, %d", c.s, n, err, c.read, c.readsErr)
		}
	}
}

func TestFormat_P2_2(t *testing.T) {
	numbers := edges()
	for n := -1100; n <= 1100; n++ {
		numbers = append(numbers, n)
	}
	for _, n := range numbers {
		s := words.Format(n)
		if s != bigOf(n).String() {
			t.Errorf("Format(%d) = %q", n, s)
		}
		if back, err := words.Read(s); back != n || err != api.OK {
			t.Errorf("Read(Format(%d)) = %d, %d", n, back, err)
		}
	}
	if words.Format(least) != "-9223372036854775808" || words.Format(most) != "9223372036854775807" || words.Format(0) != "0" {
		t.Error("Format at the bounds")
	}
}

func logByHand(n int) int {
	if n < 1 {
		return -1
	}
	k, power := 0, big.NewInt(1)
	for power.Cmp(bigOf(n)) < 0 {
		k++
		power.Lsh(power, 1)
	}
	return k
}

func TestLog2Ceil2_P2_3(t *testing.T) {
	numbers := edges()
	for n := -5; n <= 5000; n++ {
		numbers = append(numbers, n)
	}
	for _, n := range numbers {
		if got, want := words.Log2(n), logByHand(n); got != want {
			t.Errorf("Log2(%d) = %d, want %d", n, got, want)
		}
		want, wantErr := 0, api.OK
		switch {
		case n < 0:
			wantErr = api.ErrArg
		case n > 1<<30:
			wantErr = api.ErrBig
		case n > 0:
			for want = 1; want < n; want *= 2 {
			}
		}
		if got, err := words.Ceil2(n); got != want || err != wantErr {
			t.Errorf("Ceil2(%d) = %d, %d, want %d, %d", n, got, err, want, wantErr)
		}
	}
	for n, want := range map[int]int{least: -1, -1: -1, 0: -1, 1: 0, 2: 1, 3: 2, 4: 2, 1 << 62: 62, 1<<62 + 1: 63, most: 63} {
		if got := words.Log2(n); got != want {
			t.Errorf("Log2(%d) = %d, want %d", n, got, want)
		}
	}
	if n, err := words.Ceil2(1<<29 + 1); n != 1<<30 || err != api.OK {
		t.Errorf("Ceil2(2^29 + 1) = %d, %d", n, err)
	}
	if n, err := words.Ceil2(1<<30 + 1); n != 0 || err != api.ErrBig {
		t.Errorf("Ceil2(2^30 + 1) = %d, %d", n, err)
	}
}

func TestTurns_P2_3(t *testing.T) {
	bounds := []int{least, least + 1, least + 2, -1 << 62, -1 << 32, -7, -2, -1, 0, 1, 2, 7, 10, 1 << 32, 1 << 62, most - 2, most - 1, most}
	for _, first := range bounds {
		for _, last := range bounds {
			for _, step := range bounds {
				n, ok, err := words.Turns(first, last, step)
				if step == 0 {
					if n != 0 || ok || err != api.ErrArg {
						t.Errorf("Turns(%d, %d, 0) = %d, %v, %d, want ErrArg", first, last, n, ok, err)
					}
					continue
				}
				want, goes := uint64(0), step > 0 && first <= last || step < 0 && first >= last
				if goes {
					way := new(big.Int).Sub(bigOf(last), bigOf(first))
					want = way.Quo(way, bigOf(step)).Uint64()
				}
				if n != want || ok != goes || err != api.OK {
					t.Errorf("Turns(%d, %d, %d) = %d, %v, %d, want %d, %v", first, last, step, n, ok, err, want, goes)
				}
			}
		}
	}
}

// The loop itself, gone round by hand.
func TestShortTurns_P2_3(t *testing.T) {
	for first := -12; first <= 12; first++ {
		for last := -12; last <= 12; last++ {
			for step := -5; step <= 5; step++ {
				rounds := 0
				for i := first; step > 0 && i <= last || step < 0 && i >= last; i += step {
					rounds++
				}
				n, ok, _ := words.Turns(first, last, step)
				if ok != (rounds > 0) || ok && n != uint64(rounds-1) || !ok && n != 0 {
					t.Errorf("Turns(%d, %d, %d) = %d, %v, but it goes round %d times", first, last, step, n, ok, rounds)
				}
			}
		}
	}
}

func TestExamples_P2_3(t *testing.T) {
	for _, c := range []struct {
		first, last, step int
		n                 uint64
		ok                bool
		err               api.Errno
	}{
		{1, 3, 1, 2, true, 0}, {3, 1, 1, 0, false, 0}, {5, 1, -2, 2, true, 0}, {1, 5, -2, 0, false, 0}, {1, 1, 0, 0, false, api.ErrArg}, {3, 1, 0, 0, false, api.ErrArg},
		{least, most, 1, math.MaxUint64, true, 0}, {most, least, -1, math.MaxUint64, true, 0}, {least, most, most, 2, true, 0}, {most, least, least, 1, true, 0},
		{least, most, 2, 1<<63 - 1, true, 0}, {0, least, least, 1, true, 0}, {1, 1, least, 0, true, 0}, {1, 1, most, 0, true, 0},
	} {
		if n, ok, err := words.Turns(c.first, c.last, c.step); n != c.n || ok != c.ok || err != c.err {
			t.Errorf("Turns(%d, %d, %d) = %d, %v, %d, want %d, %v, %d", c.first, c.last, c.step, n, ok, err, c.n, c.ok, c.err)
		}
	}
}

// Every call ends without a panic, and answers the same at each asking (R5).
func TestNoPanic_P1(t *testing.T) {
	type answers struct {
		sums       [4]int
		q, m, c, l int
		turns      uint64
		ok         bool
		errs       [4]api.Errno
		text       string
	}
	ask := func(a, b int) answers {
		var x answers
		x.sums = [4]int{words.Add(a, b), words.Sub(a, b), words.Mul(a, b), words.Neg(a)}
		x.q, x.errs[0] = words.Div(a, b)
		x.m, x.errs[1] = words.Mod(a, b)
		x.c, x.errs[2] = words.Ceil2(a)
		x.l = words.Log2(a)
		x.turns, x.ok, x.errs[3] = words.Turns(b, a, b)
		x.text = words.Format(a)
		return x
	}
	for _, a := range edges() {
		for _, b := range edges() {
			if first, second := ask(a, b), ask(a, b); first != second {
				t.Errorf("%d and %d: %v, and then %v", a, b, first, second)
			}
		}
	}
	for _, s := range []string{"", "\x00", "-", "0", "0x", "-0x", "0X", "x", "é", "\xff", "0\xff", "0x\xff", strings.Repeat("-", 5000), strings.Repeat("9", 100000), "0x" + strings.Repeat("f", 100000)} {
		n, e := words.Parse(s)
		m, f := words.Read(s)
		if e != api.OK && n != 0 || f != api.OK && m != 0 {
			t.Errorf("%.20q: a number beside an error: %d, %d; %d, %d", s, n, e, m, f)
		}
	}
}
