package hash_test

import (
	"hash/fnv"
	"math"
	"math/big"
	"slices"
	"strings"
	"testing"

	"trestle/api"
	"trestle/hash"
)

func number(n int) api.Val   { return api.Val{Kind: api.Int, N: n} }
func text(s string) api.Val  { return api.Val{Kind: api.Str, S: s} }
func of(kind, n int) api.Val { return api.Val{Kind: kind, N: n} }

// sizes: all that a hash part may have.
func sizes() []int {
	var all []int
	for k := range 17 {
		all = append(all, 1<<k)
	}
	return all
}

// wrongSizes: beside the powers of two, and beyond the bounds.
func wrongSizes() []int {
	return []int{math.MinInt64, -65536, -4, -2, -1, 0, 3, 5, 6, 7, 9, 12, 65535, 65537, 131072, 1 << 31, 1 << 32, 1 << 62, math.MaxInt64}
}

func numbers() []int {
	all := []int{0, 5, 7, -5, -7, 100, 123456789012345678, -123456789012345678, math.MaxInt64, math.MaxInt64 - 1, math.MinInt64, math.MinInt64 + 1}
	for k := range 63 {
		all = append(all, 1<<k, 1<<k-1, 1<<k+1, -(1 << k), -(1<<k)-1)
	}
	return all
}

func texts() []string {
	return []string{"", "a", "b", "ab", "ba", "abc", "\x00", "\x00\x00", "\xff", "\x80a", "é", "x1", "x2", "a long key of a table", strings.Repeat("x", 10000)}
}

func fnvOf(s string) int {
	h := fnv.New32a()
	h.Write([]byte(s))
	return int(h.Sum32())
}

// rest: n modulo 2^64, then modulo m.
func rest(n *big.Int, m int) int {
	whole := new(big.Int).Lsh(big.NewInt(1), 64)
	low := new(big.Int).Mod(n, whole)
	return int(low.Mod(low, big.NewInt(int64(m))).Int64())
}

// mainByHand: the chapter's words, for a key in form and a size.
func mainByHand(k api.Val, size int) int {
	m := size - 1
	if size == 1 {
		m = 1
	}
	n := big.NewInt(int64(k.N))
	switch k.Kind {
	case api.Int:
		return rest(n, m)
	case api.Str:
		return fnvOf(k.S) % size
	case api.Bool:
		return k.N % size
	}
	n.Mul(n, big.NewInt(4))
	return rest(n.Add(n, big.NewInt(int64(k.Kind))), m)
}

func keys() []api.Val {
	all := []api.Val{of(api.Bool, 0), of(api.Bool, 1)}
	for _, s := range texts() {
		all = append(all, text(s))
	}
	for _, n := range numbers() {
		all = append(all, number(n))
		if n >= 1 {
			all = append(all, of(api.Tab, n), of(api.Fun, n), of(api.Lib, n))
		}
	}
	return all
}

func wrongKeys() []api.Val {
	return []api.Val{of(api.Nil, 1), {Kind: api.Nil, S: "x"}, of(api.Bool, 2), of(api.Bool, -1), {Kind: api.Int, N: 1, S: "x"}, {Kind: api.Str, N: 1, S: "x"}, text(strings.Repeat("x", 10001)), of(api.Tab, 0), of(api.Fun, -1), of(api.Lib, 0), of(7, 1), of(-1, 1), of(math.MinInt64, 0)}
}

func TestOf_P4_1(t *testing.T) {
	if hash.Of("") != 2166136261 || hash.Of("a") != 3826002220 {
		t.Errorf("Of: %d, %d", hash.Of(""), hash.Of("a"))
	}
	for _, s := range append(texts(), strings.Repeat("\xff", 100000)) {
		if got, want := hash.Of(s), fnvOf(s); got != want || got < 0 || got > math.MaxUint32 {
			t.Errorf("Of(%.20q) = %d, want %d", s, got, want)
		}
	}
	for b := range 256 {
		s := string([]byte{byte(b)})
		if got, want := hash.Of(s), fnvOf(s); got != want {
			t.Errorf("Of(%q) = %d, want %d", s, got, want)
		}
	}
}

func TestMain_P4_1(t *testing.T) {
	for _, size := range sizes() {
		for _, k := range keys() {
			if got, e := hash.Main(k, size); got != mainByHand(k, size) || e != api.OK || got < 0 || got >= size {
				t.Errorf("Main(%.40v, %d) = %d, %d, want %d", k, size, got, e, mainByHand(k, size))
			}
		}
	}
}

func TestMainRefuses_P4_1(t *testing.T) {
	for _, size := range append(sizes(), wrongSizes()...) {
		for _, k := range wrongKeys() {
			if got, e := hash.Main(k, size); got != 0 || e != api.ErrForm {
				t.Errorf("Main(%.40v, %d) = %d, %d, want ErrForm", k, size, got, e)
			}
		}
	}
	for _, size := range wrongSizes() {
		for _, k := range append(keys(), api.Val{}) {
			if got, e := hash.Main(k, size); got != 0 || e != api.ErrArg {
				t.Errorf("Main(%.40v, %d) = %d, %d, want ErrArg", k, size, got, e)
			}
		}
		if row, e := hash.Row(1, 3, size); len(row) != 0 || e != api.ErrArg {
			t.Errorf("Row(1, 3, %d) = %v, %d, want ErrArg", size, row, e)
		}
		if row, e := hash.Row(1, 0, size); len(row) != 0 || e != api.ErrArg {
			t.Errorf("Row(1, 0, %d) = %v, %d, want ErrArg", size, row, e)
		}
	}
	for _, size := range sizes() {
		if got, e := hash.Main(api.Val{}, size); got != 0 || e != api.ErrKey {
			t.Errorf("Main(nil, %d) = %d, %d, want ErrKey", size, got, e)
		}
	}
}

func TestRow_P4_1(t *testing.T) {
	for _, size := range sizes() {
		for _, first := range numbers() {
			for _, n := range []int{0, 1, 2, 17} {
				row, e := hash.Row(first, n, size)
				if len(row) != n || e != api.OK {
					t.Fatalf("Row(%d, %d, %d): %d of them, %d", first, n, size, len(row), e)
				}
				for i, got := range row {
					if want := mainByHand(number(first+i), size); got != want {
						t.Errorf("Row(%d, %d, %d)[%d] = %d, want %d", first, n, size, i, got, want)
					}
				}
			}
		}
	}
	for _, n := range []int{math.MinInt64, -1, 1001, math.MaxInt64} {
		if row, e := hash.Row(0, n, 4); len(row) != 0 || e != api.ErrArg {
			t.Errorf("Row(0, %d, 4) = %v, %d, want ErrArg", n, row, e)
		}
	}
	if row, e := hash.Row(0, 1000, 4); len(row) != 1000 || e != api.OK {
		t.Errorf("Row(0, 1000, 4): %d of them, %d", len(row), e)
	}
}

func TestExamples_P4_1(t *testing.T) {
	for _, c := range []struct {
		k          api.Val
		size, want int
		err        api.Errno
	}{
		{number(7), 4, 1, 0}, {number(-1), 4, 0, 0}, {number(5), 1, 0, 0}, {text("a"), 8, 4, 0}, {of(api.Bool, 1), 1, 0, 0}, {of(api.Bool, 1), 2, 1, 0}, {of(api.Tab, 2), 8, 5, 0},
		{number(-7), 2, 0, 0}, {of(api.Tab, 9), 2, 0, 0}, {of(api.Fun, 9), 1, 0, 0}, {of(api.Lib, 9), 2, 0, 0},
		{api.Val{}, 4, 0, api.ErrKey}, {api.Val{}, 3, 0, api.ErrArg}, {api.Val{Kind: api.Int, N: 1, S: "x"}, 3, 0, api.ErrForm},
	} {
		if got, e := hash.Main(c.k, c.size); got != c.want || e != c.err {
			t.Errorf("Main(%v, %d) = %d, %d, want %d, %d", c.k, c.size, got, e, c.want, c.err)
		}
	}
	if row, e := hash.Row(1, 4, 4); !slices.Equal(row, []int{1, 2, 0, 1}) || e != api.OK {
		t.Errorf("Row(1, 4, 4) = %v, %d", row, e)
	}
	// Behind the greatest number comes the least one: 2^63 - 1 and 2^63 modulo 3.
	if row, e := hash.Row(math.MaxInt64, 2, 4); !slices.Equal(row, []int{1, 2}) || e != api.OK {
		t.Errorf("Row across the greatest number = %v, %d", row, e)
	}
	if row, e := hash.Row(0, -1, 4); len(row) != 0 || e != api.ErrArg {
		t.Errorf("Row(0, -1, 4) = %v, %d", row, e)
	}
}

// Runs of each size, at both ends of the numbers that are 0 or more and of those below 0, and between.
func TestSpread_P4_2(t *testing.T) {
	for _, size := range sizes()[1:] {
		for _, first := range []int{0, 1, 2, size - 1, size, 1000003, 1 << 40, math.MaxInt64 - size + 1, math.MinInt64, math.MinInt64 + 1, -1 << 40, -1000003 - size, -size - 1, -size} {
			hit, different := make([]bool, size), 0
			for i := range size {
				at, e := hash.Main(number(first+i), size)
				if e != api.OK {
					t.Fatalf("Main(%d, %d): %d", first+i, size, e)
				}
				if !hit[at] {
					hit[at] = true
					different++
				}
			}
			if different < size-1 {
				t.Errorf("%d numbers from %d on: %d positions", size, first, different)
			}
		}
	}
}

// Every call ends without a panic, answers the same at each asking (R5), and no two answers share memory (R3).
func TestNoPanic_P1(t *testing.T) {
	for _, size := range append(sizes(), wrongSizes()...) {
		for _, k := range append(keys(), wrongKeys()...) {
			first, e := hash.Main(k, size)
			second, f := hash.Main(k, size)
			if first != second || e != f {
				t.Errorf("Main(%.40v, %d): %d, %d, and then %d, %d", k, size, first, e, second, f)
			}
		}
		for _, n := range numbers() {
			first, e := hash.Row(n, 5, size)
			kept := slices.Clone(first)
			clear(first)
			second, f := hash.Row(n, 5, size)
			if !slices.Equal(kept, second) || e != f {
				t.Errorf("Row(%d, 5, %d): %v, %d, and then %v, %d", n, size, kept, e, second, f)
			}
			hash.Row(n, n, size)
		}
	}
}
