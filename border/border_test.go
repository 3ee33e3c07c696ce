package border_test

import (
	"math"
	"math/big"
	"math/rand"
	"slices"
	"testing"

	"trestle/api"
	"trestle/border"
	"trestle/heap"
	"trestle/table"
)

func number(n int) api.Val  { return api.Val{Kind: api.Int, N: n} }
func text(s string) api.Val { return api.Val{Kind: api.Str, S: s} }
func missing() *table.Table { return nil }
func made(array, hash int) *table.Table {
	h, _ := heap.New(400000)
	x, _ := table.New(h, array, hash)
	return x
}

// with: a table with these sizes, and then these keys.
func with(array, hash int, keys ...int) *table.Table {
	x := made(array, hash)
	for _, k := range keys {
		x.Set(number(k), number(k))
	}
	return x
}

// upTo: the numbers 1 to n.
func upTo(n int) []int {
	var all []int
	for i := range n {
		all = append(all, i+1)
	}
	return all
}

// present: the numbers above 0 that the table holds with a value, told without a Get.
func present(x *table.Table) map[int]bool {
	all := map[int]bool{}
	slots, chained := x.Dump()
	for i, v := range slots {
		if v.Kind != api.Nil {
			all[i+1] = true
		}
	}
	for _, n := range chained {
		if n.Val.Kind != api.Nil && n.Key.Kind == api.Int {
			all[n.Key.N] = true
		}
	}
	return all
}

// isBorder: the chapter's first paragraph.
func isBorder(all map[int]bool, n int) bool {
	return n >= 0 && (n == 0 || all[n]) && (n == math.MaxInt64 || !all[n+1])
}

// book is a table whose length is found by the chapter's words, step by step; it is told what the table at test is told.
type book struct{ *table.Table }

func (b book) key(n *big.Int) bool { return b.Get(number(int(n.Int64()))) != api.Val{} }

// length: Len. (Case two is reckoned with numbers that don't wrap.)
func (b book) length() int {
	slots, _ := b.Dump()
	a, h := len(slots), b.Stats().Hint
	slot := func(i int) api.Val { return slots[i-1] }
	if a == 0 || slot(a) != (api.Val{}) {
		return b.beyond(big.NewInt(int64(a)))
	}
	answer := 0
	if h < a && slot(h+1) == (api.Val{}) && (h == 0 || slot(h) != (api.Val{})) {
		answer = h
	} else {
		low, high := h, a
		if h > 0 && slot(h) == (api.Val{}) {
			low, high = 0, h
		}
		for high-low > 1 {
			if m := (low + high) / 2; slot(m) == (api.Val{}) {
				high = m
			} else {
				low = m
			}
		}
		answer = low
	}
	b.Hint(answer)
	return answer
}

func (b book) beyond(a *big.Int) int {
	one, two, greatest := big.NewInt(1), big.NewInt(2), big.NewInt(math.MaxInt64)
	low := new(big.Int).Add(a, one)
	if !b.key(low) {
		return int(a.Int64())
	}
	high := new(big.Int).Mul(low, two)
	for b.key(high) {
		if high.Cmp(greatest) == 0 {
			return math.MaxInt64
		}
		low, high = high, new(big.Int).Mul(high, two)
		if high.Cmp(greatest) > 0 {
			high = greatest
		}
	}
	for {
		gap := new(big.Int).Sub(high, low)
		if gap.Cmp(one) <= 0 {
			return int(low.Int64())
		}
		m := new(big.Int).Add(low, gap.Div(gap, two))
		if b.key(m) {
			low = m
		} else {
			high = m
		}
	}
}

// is: Is.
func (b book) is(n int) bool {
	switch {
	case n < 0:
		return false
	case n > 0 && b.Get(number(n)) == api.Val{}:
		return false
	case n == math.MaxInt64:
		return true
	}
	return b.Get(number(n+1)) == api.Val{}
}

// edges: numbers at and beside the powers of two, up to the greatest.
func edges() []int {
	all := []int{math.MinInt64, -1, 0, math.MaxInt64 - 1, math.MaxInt64}
	for i := range 63 {
		all = append(all, 1<<i-1, 1<<i, 1<<i+1)
	}
	return all
}

// play is a script of Sets, with questions between.
type play struct {
	array, hash, turns int
	pool               []int
	clears             int // of ten Sets how many are of Nil
}

func plays(tell func(r *rand.Rand, p play)) {
	r := rand.New(rand.NewSource(9))
	for turn := range 600 {
		p := play{r.Intn(12), r.Intn(6), 120, upTo(1 + r.Intn(40)), 1 + r.Intn(7)}
		switch turn % 6 {
		case 0: // no slots till a rehash, which finds too many scattered keys for an array of many
			p.array, p.hash, p.pool = 0, 256, append(p.pool, edges()...)
		case 1: // powers of two alone: the doubling goes far
			p.array, p.hash, p.pool, p.clears = 0, 128, nil, 0
			for i := range 1 + r.Intn(63) {
				p.pool = append(p.pool, 1<<i)
			}
			p.pool = append(p.pool, math.MaxInt64)
		case 2: // many slots
			p.array, p.pool = 20+r.Intn(100), upTo(130)
		case 3: // slots, and the numbers behind them in nodes
			p.hash = 128
			p.pool = append(p.pool, upTo(100)...)
		}
		tell(r, p)
	}
}

// Len, Is and all that is to be seen behind each call are the book's.
func TestCalls_P9_1(t *testing.T) {
	far, near := 0, 0
	plays(func(r *rand.Rand, p play) {
		x, b := made(p.array, p.hash), book{made(p.array, p.hash)}
		for range p.turns {
			n := p.pool[r.Intn(len(p.pool))]
			switch r.Intn(10) {
			case 0, 1:
				got, want := border.Len(x), b.length()
				if got != want {
					t.Fatalf("Len = %d, want %d: %v", got, want, x.Stats())
				}
				if got > p.array {
					far++
				} else if got > 0 {
					near++
				}
			case 2:
				if got, want := border.Is(x, n), b.is(n); got != want {
					t.Fatalf("Is(%d) = %v, want %v", n, got, want)
				}
			case 3:
				n = r.Intn(x.Stats().Array + 1)
				x.Hint(n)
				b.Hint(n)
			default:
				v := number(1)
				if r.Intn(10) < p.clears {
					v = api.Val{}
				}
				x.Set(number(n), v)
				b.Set(number(n), v)
			}
			if x.Stats() != b.Stats() || x.Probes() != b.Probes() {
				t.Fatalf("%v, %d probes, want %v, %d", x.Stats(), x.Probes(), b.Stats(), b.Probes())
			}
		}
		slots, chained := x.Dump()
		wantSlots, want := b.Dump()
		if !slices.Equal(slots, wantSlots) || !slices.Equal(chained, want) {
			t.Fatal("what the table holds was changed")
		}
	})
	if far < 500 || near < 500 {
		t.Errorf("only %d borders beyond the first array, %d within", far, near)
	}
}

// All fillings of some slots, with all hints: the answer, the hint behind it, and no probe where a slot is the last one and Nil.
func TestHints_P9_1(t *testing.T) {
	for array := range 8 {
		for filling := range 1 << array {
			for hint := range array + 1 {
				x, b := made(array, 2), book{made(array, 2)}
				for i := range array {
					if filling>>i&1 == 1 {
						x.Set(number(i+1), text("v"))
						b.Set(number(i+1), text("v"))
					}
				}
				x.Hint(hint)
				b.Hint(hint)
				got, want := border.Len(x), b.length()
				if got != want || x.Stats() != b.Stats() || x.Probes() != b.Probes() {
					t.Errorf("%d slots, filled %b, hint %d: %d, %v, want %d, %v", array, filling, hint, got, x.Stats(), want, b.Stats())
				}
				if !isBorder(present(x), got) {
					t.Errorf("%d slots, filled %b, hint %d: %d is no border", array, filling, hint, got)
				}
				if lastFilled := array > 0 && filling>>(array-1)&1 == 1; array == 0 || lastFilled {
					if got != array || x.Stats().Hint != hint {
						t.Errorf("%d full slots: %d, hint %d", array, got, x.Stats().Hint)
					}
				} else if x.Probes() != 0 || x.Stats().Hint != got {
					t.Errorf("%d slots, filled %b: %d probes, hint %d, answer %d", array, filling, x.Probes(), x.Stats().Hint, got)
				}
			}
		}
	}
}

// Slots that hold false, 0 and an empty text are present.
func TestPresent_P9_1(t *testing.T) {
	for _, v := range []api.Val{{Kind: api.Bool}, number(0), text(""), {Kind: api.Tab, N: 1}, {Kind: api.Fun, N: 1}, {Kind: api.Lib, N: 1}} {
		for _, size := range [][2]int{{4, 0}, {0, 4}, {2, 2}, {3, 0}} {
			x := made(size[0], size[1])
			for n := 1; n <= 3; n++ {
				x.Set(number(n), v)
			}
			if border.Len(x) != 3 || !border.Is(x, 3) || border.Is(x, 2) || border.Is(x, 0) {
				t.Errorf("%v in %v: %d", v, x.Stats(), border.Len(x))
			}
		}
	}
}

// The doubling stops at the greatest number, and the halving below it doesn't wrap.
func TestGreatest_P9_1(t *testing.T) {
	powers := func(n int) []int {
		var all []int
		for i := range n {
			all = append(all, 1<<i)
		}
		return all
	}
	for n := range 64 {
		x := with(0, 256, powers(n)...)
		want := 0
		if n > 0 {
			want = 1 << (n - 1)
		}
		if got := border.Len(x); got != want {
			t.Errorf("the powers below 2^%d: %d, want %d", n, got, want)
		}
	}
	x := with(0, 256, append(powers(63), math.MaxInt64)...)
	if border.Len(x) != math.MaxInt64 || !border.Is(x, math.MaxInt64) || border.Is(x, math.MaxInt64-1) {
		t.Errorf("with the greatest number: %d", border.Len(x))
	}
	// From 2^62 to the greatest number the halving asks for 2^62 + 2^61 - 1 first.
	for _, c := range []struct{ more, want int }{{1<<62 + 1<<61 - 1, 1<<62 + 1<<61 - 1}, {math.MaxInt64 - 1, 1 << 62}, {1<<62 + 1, 1<<62 + 1}} {
		y := with(0, 256, append(powers(63), c.more)...)
		if got := border.Len(y); got != c.want {
			t.Errorf("the powers and %d: %d, want %d", c.more, got, c.want)
		}
	}
	upper := powers(63)
	for low, high := 1<<62, math.MaxInt64; high-low > 1; low += (high - low) / 2 {
		upper = append(upper, low+(high-low)/2)
	}
	if got := border.Len(with(0, 256, upper...)); got != math.MaxInt64-1 {
		t.Errorf("all that the halving asks for: %d", got)
	}
}

// What Is reads: the key, and the one behind it only where it has to.
func TestIsReads_P9_1(t *testing.T) {
	x := with(2, 4, 1, 2, 3)
	reads := func(n int) int {
		at := x.Probes()
		border.Is(x, n)
		return x.Probes() - at
	}
	one := func(n int) int {
		at := x.Probes()
		x.Get(number(n))
		return x.Probes() - at
	}
	for n, want := range map[int]int{math.MinInt64: 0, -1: 0, 0: 0, 1: 0, 2: one(3), 3: one(3) + one(4), 4: one(4), math.MaxInt64: one(math.MaxInt64)} {
		if got := reads(n); got != want {
			t.Errorf("Is(%d) reads %d nodes, want %d", n, got, want)
		}
	}
	y := with(0, 4, math.MaxInt64)
	at := y.Probes()
	if !border.Is(y, math.MaxInt64) || y.Probes() != at+1 {
		t.Errorf("the greatest number: %d nodes read", y.Probes()-at)
	}
}

func TestNilTable_P9_1(t *testing.T) {
	if border.Len(missing()) != 0 {
		t.Errorf("Len = %d", border.Len(missing()))
	}
	for _, n := range edges() {
		if border.Is(missing(), n) != (n == 0) {
			t.Errorf("Is(%d) = %v", n, n != 0)
		}
	}
}

func TestExamples_P9_1(t *testing.T) {
	one := with(0, 0, 1, 2, 3, 4)
	for _, c := range []struct{ clear, want int }{{4, 3}, {2, 3}, {3, 1}} {
		one.Set(number(c.clear), api.Val{})
		if n := border.Len(one); n != c.want || one.Stats() != (api.Stats{Array: 4, Hint: c.want}) || one.Probes() != 0 {
			t.Errorf("%d cleared: %d, %v", c.clear, n, one.Stats())
		}
	}
	two := with(0, 8, 1, 2, 3, 5)
	if border.Len(two) != 3 || !border.Is(two, 5) || border.Is(two, 0) || border.Is(two, 4) || two.Stats().Hint != 0 {
		t.Errorf("the second example: %d, %v", border.Len(two), two.Stats())
	}
	three := with(0, 1, math.MaxInt64)
	if border.Len(three) != 0 || !border.Is(three, math.MaxInt64) {
		t.Errorf("the third example: %d", border.Len(three))
	}
}

// What Len answers is a border, and Is says of each number what the chapter's first paragraph says.
func TestBorder_P9_2(t *testing.T) {
	plays(func(r *rand.Rand, p play) {
		x := made(p.array, p.hash)
		for range p.turns {
			v := number(1)
			if r.Intn(10) < p.clears {
				v = api.Val{}
			}
			x.Set(number(p.pool[r.Intn(len(p.pool))]), v)
			if r.Intn(4) > 0 {
				continue
			}
			all := present(x)
			if n := border.Len(x); !isBorder(all, n) || !border.Is(x, n) {
				t.Fatalf("%d is no border: %v", n, x.Stats())
			}
		}
		all := present(x)
		for _, n := range append(edges(), p.pool...) {
			if border.Is(x, n) != isBorder(all, n) {
				t.Fatalf("Is(%d) = %v", n, !isBorder(all, n))
			}
		}
	})
}

// With the numbers 1 to m alone it is m, however they came there, whatever the sizes and the hint.
func TestRow_P9_2(t *testing.T) {
	r := rand.New(rand.NewSource(10))
	for m := range 70 {
		for _, size := range [][2]int{{0, 0}, {m, 0}, {0, m}, {m + 1, 0}, {2*m + 3, 1}, {m / 2, m}, {100, 0}, {m / 3, 0}} {
			mixed := upTo(m)
			r.Shuffle(m, func(i, j int) { mixed[i], mixed[j] = mixed[j], mixed[i] })
			for _, order := range [][]int{upTo(m), mixed} {
				x := with(size[0], size[1], order...)
				for _, k := range []api.Val{number(0), number(-1), text("1"), {Kind: api.Bool, N: 1}} {
					x.Set(k, number(1))
				}
				x.Hint(r.Intn(x.Stats().Array + 1))
				if n := border.Len(x); n != m {
					t.Fatalf("1 to %d in %v: %d", m, x.Stats(), n)
				}
			}
		}
	}
	for _, m := range []int{65535, 65536, 65537, 65540} {
		if n := border.Len(with(65536, 8, upTo(m)...)); n != m {
			t.Errorf("1 to %d: %d", m, n)
		}
	}
}

// A row that grows and shrinks at its end has its length all the while.
func TestStack_P9_2(t *testing.T) {
	r := rand.New(rand.NewSource(11))
	x, m := made(0, 0), 0
	for range 5000 {
		if m > 0 && r.Intn(100) < 48 {
			x.Set(number(m), api.Val{})
			m--
		} else {
			m++
			x.Set(number(m), text("v"))
		}
		if n := border.Len(x); n != m {
			t.Fatalf("1 to %d: %d, %v", m, n, x.Stats())
		}
	}
}

// Asked twice it answers the same, with Gets and other questions between.
func TestTwice_P9_3(t *testing.T) {
	plays(func(r *rand.Rand, p play) {
		x := made(p.array, p.hash)
		for range p.turns / 4 {
			for range 4 {
				v := number(1)
				if r.Intn(10) < p.clears {
					v = api.Val{}
				}
				x.Set(number(p.pool[r.Intn(len(p.pool))]), v)
			}
			x.Hint(r.Intn(x.Stats().Array + 1))
			first := border.Len(x)
			hint := x.Stats().Hint
			for range r.Intn(4) {
				n := p.pool[r.Intn(len(p.pool))]
				x.Get(number(n))
				x.Place(number(n))
				border.Is(x, n)
			}
			if again := border.Len(x); again != first || x.Stats().Hint != hint {
				t.Fatalf("%d, then %d; hint %d, then %d", first, again, hint, x.Stats().Hint)
			}
		}
	})
}

// No call panics, of a table that no New made too.
func TestNoPanic_P1(t *testing.T) {
	for _, x := range []*table.Table{missing(), new(table.Table), made(0, 0), made(1, 1), made(65536, 65536), with(3, 1, 1, 2), with(0, 4, math.MaxInt64, math.MinInt64, 1)} {
		border.Len(x)
		for _, n := range edges() {
			border.Is(x, n)
			x.Hint(n)
			border.Len(x)
		}
	}
	if n := border.Len(new(table.Table)); n != 0 || !border.Is(new(table.Table), 0) || border.Is(new(table.Table), 1) {
		t.Errorf("a table that no New made: %d", n)
	}
}

// The table that is asked holds behind the questions what it held, in the same places.
func TestAskedOnly_R3(t *testing.T) {
	for _, x := range []*table.Table{with(4, 4, 1, 2, 3, 7, 9), with(0, 8, upTo(8)...), with(8, 0, 1, 2, 5)} {
		slots, chained := x.Dump()
		free := x.Stats().Free
		for n := range 12 {
			border.Len(x)
			border.Is(x, n)
		}
		nowSlots, now := x.Dump()
		if !slices.Equal(slots, nowSlots) || !slices.Equal(chained, now) || x.Stats().Free != free {
			t.Errorf("%v", x.Stats())
		}
	}
}
