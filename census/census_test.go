package census_test

import (
	"math"
	"math/rand"
	"slices"
	"testing"

	"trestle/api"
	"trestle/census"
)

// counts: 17 numbers, with noughts behind those that are given.
func counts(l ...int) []int { return append(l, make([]int, 17-len(l))...) }

// run: the numbers from first to last.
func run(first, last int) []int {
	var all []int
	for n := first; n <= last; n++ {
		all = append(all, n)
	}
	return all
}

// sliceByHand: the least i with n at most 2^i, by doubling; beyond 2^62 there is one slice more.
func sliceByHand(n int) int {
	if n < 1 {
		return -1
	}
	for i := range 63 {
		if n <= 1<<i {
			return i
		}
	}
	return 63
}

// within: how many of the keys are from 1 to most.
func within(keys []int, most int) int {
	n := 0
	for _, k := range keys {
		if k >= 1 && k <= most {
			n++
		}
	}
	return n
}

// chooseByHand: the chapter's words, from the greatest power of two downwards.
func chooseByHand(l []int) (int, int) {
	for i := 16; i >= 0; i-- {
		sum := 0
		for _, n := range l[:i+1] {
			sum += n
		}
		if 2*sum > 1<<i {
			return 1 << i, sum
		}
	}
	return 0, 0
}

// sizesByHand: by what is dense among the keys themselves, for keys of which none stands twice.
func sizesByHand(keys []int, others int) (int, int) {
	array := 0
	for i := range 17 {
		if 2*within(keys, 1<<i) > 1<<i {
			array = 1 << i
		}
	}
	rest, hash := others+len(keys)-within(keys, array), 0
	if rest > 0 {
		for hash = 1; hash < rest; hash *= 2 {
		}
	}
	return array, hash
}

// lists: keys of which none stands twice: runs at and beside the powers of two, with holes, far away.
func lists() [][]int {
	all := [][]int{nil, {}, {0}, {-1}, {1}, {2}, {3}, {5}, {1, 2}, {2, 1}, {1, 3}, {2, 3}, {2, 4, 3}, {1, 2, 4, 100}, {65536}, {65537}, {math.MaxInt64, math.MinInt64, 1, 2, 3}, {0, -1, -2, 1}}
	for i := range 17 {
		for _, n := range []int{1<<i - 1, 1 << i, 1<<i + 1, 1<<i/2 + 1, 1 << i / 2} {
			all = append(all, run(1, n), run(2, n), run(1<<i/2, 1<<i), append(run(1, n), 1<<40, -7))
		}
	}
	r := rand.New(rand.NewSource(5))
	for range 200 {
		most := 1 << r.Intn(15)
		l := r.Perm(2*most + 3)[:most+r.Intn(2)]
		all = append(all, l)
	}
	return all
}

// tables: as many counts as keys could come to, and more.
func tables() [][]int {
	r := rand.New(rand.NewSource(6))
	all := [][]int{counts(), counts(1), counts(0, 1), counts(0, 2), counts(1, 1), counts(1<<32, 1<<32)}
	for i := range 17 {
		for _, n := range []int{1<<i/2 - 1, 1 << i / 2, 1<<i/2 + 1, 1 << i, 1 << 32} {
			l := counts()
			l[i] = max(n, 0)
			all = append(all, l)
		}
	}
	for range 2000 {
		l := counts()
		for i := range l {
			l[i] = r.Intn(1<<i/2+2) * r.Intn(2)
		}
		all = append(all, l)
	}
	full := counts()
	for i := range full {
		full[i] = 1 << 32
	}
	return append(all, full)
}

func TestSlice_P5_1(t *testing.T) {
	numbers := append(run(-70, 70000), math.MinInt64, math.MinInt64+1, math.MaxInt64, math.MaxInt64-1)
	for i := range 63 {
		numbers = append(numbers, 1<<i, 1<<i-1, 1<<i+1, -(1 << i))
	}
	for _, n := range numbers {
		if got, want := census.Slice(n), sliceByHand(n); got != want {
			t.Errorf("Slice(%d) = %d, want %d", n, got, want)
		}
	}
}

func TestCount_P5_1(t *testing.T) {
	for _, keys := range append(lists(), []int{1, 1, 1}, []int{4, 3, 4}, []int{65536, 65536, 65537, 32768, 32769}, run(-5, 70000)) {
		want := counts()
		for _, k := range keys {
			if k >= 1 && k <= 65536 {
				want[sliceByHand(k)]++
			}
		}
		if got := census.Count(keys); !slices.Equal(got, want) {
			t.Errorf("Count(%.20v) = %v, want %v", keys, got, want)
		}
	}
}

func TestChoose_P5_1(t *testing.T) {
	for _, l := range tables() {
		size, n := chooseByHand(l)
		if a, s, e := census.Choose(l); a != size || s != n || e != api.OK {
			t.Errorf("Choose(%v) = %d, %d, %d, want %d, %d", l, a, s, e, size, n)
		}
	}
}

func TestChooseRefuses_P5_1(t *testing.T) {
	wrong := [][]int{nil, {}, {1}, make([]int, 16), make([]int, 18), append(counts(1, 1, 1), 0), counts(1, 1, 1)[:16]}
	for i := range 17 {
		for _, n := range []int{-1, math.MinInt64, 1<<32 + 1, math.MaxInt64} {
			l := counts(1, 1, 1)
			l[i] = n
			wrong = append(wrong, l)
		}
	}
	for _, l := range wrong {
		if a, s, e := census.Choose(l); a != 0 || s != 0 || e != api.ErrForm {
			t.Errorf("Choose(%v) = %d, %d, %d, want ErrForm", l, a, s, e)
		}
	}
}

func TestSizes_P5_2(t *testing.T) {
	for _, keys := range lists() {
		for _, others := range []int{0, 1, 2, 3, 4, 5, 17, 4096, 4097, 65535, 65536, 65537, 1 << 30, 1<<30 + 1, 1 << 62, math.MaxInt64} {
			array, hash, want := 0, 0, api.ErrBig
			if others <= 1<<30 {
				array, hash = sizesByHand(keys, others)
				want = api.OK
			}
			if hash > api.MaxPart {
				array, hash, want = 0, 0, api.ErrBig
			}
			if a, h, e := census.Sizes(keys, others); a != array || h != hash || e != want {
				t.Errorf("Sizes(%.20v, %d) = %d, %d, %d, want %d, %d, %d", keys, others, a, h, e, array, hash, want)
			}
		}
	}
}

func TestSizesRefuses_P5_2(t *testing.T) {
	far := run(100000, 100000+65536)
	for _, c := range []struct {
		name   string
		keys   []int
		others int
		want   api.Errno
	}{
		{"below nought", nil, -1, api.ErrArg},
		{"least", []int{1}, math.MinInt64, api.ErrArg},
		{"below nought ahead of twice", []int{1, 1}, -1, api.ErrArg},
		{"below nought ahead of big", far, -1, api.ErrArg},
		{"twice", []int{1, 2, 1}, 0, api.ErrForm},
		{"twice, nought", []int{0, 4, 5, 0}, 0, api.ErrForm},
		{"twice, far", []int{-9, 70000, 3, 70000}, 0, api.ErrForm},
		{"twice, below nought", []int{-9, 70000, 3, -9}, 0, api.ErrForm},
		{"twice ahead of big", []int{7, 8, 7}, 65537, api.ErrForm},
		{"twice ahead of the greatest", []int{7, 7}, math.MaxInt64, api.ErrForm},
		{"twice in the far ones", append(slices.Clone(far), 100007), 0, api.ErrForm},
		{"big by the others", nil, 65537, api.ErrBig},
		{"big by both", []int{7}, 65536, api.ErrBig},
		{"big by the keys", far, 0, api.ErrBig},
		{"big beside an array", append(run(1, 100), far...), 0, api.ErrBig},
		{"beyond an int", []int{7, 9, 12}, math.MaxInt64, api.ErrBig},
	} {
		if a, h, e := census.Sizes(c.keys, c.others); a != 0 || h != 0 || e != c.want {
			t.Errorf("%s: %d, %d, %d, want %d", c.name, a, h, e, c.want)
		}
	}
	// The array takes its keys off the hash part: only what is left is held against the limit.
	if a, h, e := census.Sizes(run(1, 65536), 65536); a != 65536 || h != 65536 || e != api.OK {
		t.Errorf("both parts full: %d, %d, %d", a, h, e)
	}
	if a, h, e := census.Sizes(far[:65536], 0); a != 0 || h != 65536 || e != api.OK {
		t.Errorf("a full hash part: %d, %d, %d", a, h, e)
	}
}

func TestDense_P5_3(t *testing.T) {
	for _, keys := range lists() {
		for _, others := range []int{0, 1, 3, 100} {
			a, h, e := census.Sizes(keys, others)
			if e != api.OK {
				continue
			}
			if a > 0 && 2*within(keys, a) <= a {
				t.Errorf("%.20v: the array %d isn't dense", keys, a)
			}
			for size := max(2*a, 1); size <= 65536; size *= 2 {
				if 2*within(keys, size) > size {
					t.Errorf("%.20v: the array is %d, but %d is dense", keys, a, size)
				}
			}
			rest := others + len(keys) - within(keys, a)
			if h < rest || (h > 0 && h >= 2*rest) {
				t.Errorf("%.20v, %d: the hash %d for %d keys", keys, others, h, rest)
			}
		}
	}
}

func TestExamples_P5_1(t *testing.T) {
	for n, want := range map[int]int{1: 0, 3: 2, 4: 2, 0: -1, 2: 1, 5: 3, 8: 3, 9: 4} {
		if got := census.Slice(n); got != want {
			t.Errorf("Slice(%d) = %d, want %d", n, got, want)
		}
	}
	if got := census.Count([]int{1, 2, 3, 5, 0, 70000}); !slices.Equal(got, counts(1, 1, 1, 1)) {
		t.Errorf("Count = %v", got)
	}
	for _, c := range []struct {
		l    []int
		a, n int
		e    api.Errno
	}{{counts(1, 1, 1), 4, 3, 0}, {counts(1, 0, 1), 1, 1, 0}, {counts(0, 1), 0, 0, 0}, {[]int{1}, 0, 0, api.ErrForm}} {
		if a, n, e := census.Choose(c.l); a != c.a || n != c.n || e != c.e {
			t.Errorf("Choose(%v) = %d, %d, %d", c.l, a, n, e)
		}
	}
}

func TestExamples_P5_2(t *testing.T) {
	for _, c := range []struct {
		keys            []int
		others, a, hash int
		e               api.Errno
	}{
		{[]int{1, 2, 3}, 0, 4, 0, 0}, {[]int{1, 2, 4, 100}, 3, 4, 4, 0}, {[]int{5}, 0, 0, 1, 0}, {[]int{}, 0, 0, 0, 0}, {nil, 0, 0, 0, 0},
		{[]int{1, 1}, 0, 0, 0, api.ErrForm}, {[]int{}, 65537, 0, 0, api.ErrBig},
	} {
		if a, h, e := census.Sizes(c.keys, c.others); a != c.a || h != c.hash || e != c.e {
			t.Errorf("Sizes(%v, %d) = %d, %d, %d", c.keys, c.others, a, h, e)
		}
	}
}

// filled: a copy with spare room, of which each place holds a number that is to stay (R3).
func filled(l []int) []int {
	whole := append(slices.Clone(l), 77, 78, 79)
	return whole[:len(l)]
}

// Every call ends without a panic, leaves what it is handed as it is, and answers the same again, in new memory (R3, R5).
func TestNoPanic_P1(t *testing.T) {
	for _, l := range append(lists(), tables()[:100]...) {
		mine := filled(l)
		first := census.Count(mine)
		kept := slices.Clone(first)
		clear(first[:cap(first)])
		if second := census.Count(mine); !slices.Equal(kept, second) {
			t.Errorf("Count(%.20v) = %v, and then %v", l, kept, second)
		}
		census.Choose(mine)
		census.Sizes(mine, 3)
		if whole := mine[:len(l)+3]; !slices.Equal(mine, l) || !slices.Equal(whole[len(l):], []int{77, 78, 79}) {
			t.Errorf("%.20v was changed", l)
		}
	}
}
