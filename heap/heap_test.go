package heap_test

import (
	"math"
	"math/rand"
	"slices"
	"testing"

	"trestle/api"
	"trestle/heap"
)

func take(n int) heap.Op    { return heap.Op{Kind: heap.Take, N: n} }
func give(id int) heap.Op   { return heap.Op{Kind: heap.Give, N: id} }
func spend(n int) heap.Op   { return heap.Op{Kind: heap.Spend, N: n} }
func edges() []int          { return []int{math.MinInt64, math.MinInt64 + 1, -400000, -1, 0, 1, 2, 3} }
func beyond() []int         { return []int{400000, 400001, 1 << 31, 1 << 62, math.MaxInt64 - 1, math.MaxInt64} }
func wrongLimits() []int    { return []int{math.MinInt64, -1, 400001, math.MaxInt64} }
func numbers() []int        { return append(edges(), beyond()...) }
func made(n int) *heap.Heap { h, _ := heap.New(n); return h }

// book is the chapter's words kept by hand: each call that was granted, none forgotten.
type book struct {
	limit, spent int
	sizes        []int // of block 1, 2, ..
	taken        []bool
	back         []int // the numbers of the blocks as they were given back, in turn
}

func (b *book) live() int {
	n := b.spent
	for i, size := range b.sizes {
		if b.taken[i] {
			n += size
		}
	}
	return n
}

func (b *book) laid() int {
	n := 0
	for _, size := range b.sizes {
		n += size
	}
	return n
}

func (b *book) blocks() []int {
	var ids []int
	for i, is := range b.taken {
		if is {
			ids = append(ids, i+1)
		}
	}
	return ids
}

// room: ErrArg, ErrCells or none for n cells more. (As a float, the sum of any two numbers stays on its side of the limit.)
func (b *book) room(n int) api.Errno {
	if n < 0 {
		return api.ErrArg
	}
	if float64(b.live())+float64(n) > float64(b.limit) {
		return api.ErrCells
	}
	return api.OK
}

func (b *book) take(n int) (int, api.Errno) {
	if err := b.room(n); err != api.OK || n == 0 {
		return 0, err
	}
	for i := len(b.back) - 1; i >= 0; i-- {
		if id := b.back[i]; b.sizes[id-1] == n && !b.taken[id-1] {
			b.taken[id-1] = true
			return id, api.OK
		}
	}
	b.sizes, b.taken = append(b.sizes, n), append(b.taken, true)
	return len(b.sizes), api.OK
}

func (b *book) give(id int) api.Errno {
	if id == 0 {
		return api.OK
	}
	if !slices.Contains(b.blocks(), id) {
		return api.ErrArg
	}
	b.taken[id-1] = false
	b.back = append(b.back, id)
	return api.OK
}

func (b *book) do(op heap.Op) heap.Got {
	var got heap.Got
	switch op.Kind {
	case heap.Take:
		got.Id, got.Err = b.take(op.N)
	case heap.Give:
		got.Err = b.give(op.N)
	case heap.Spend:
		if got.Err = b.room(op.N); got.Err == api.OK {
			b.spent += op.N
		}
	}
	got.Live, got.Laid = b.live(), b.laid()
	return got
}

func playByHand(limit int, ops []heap.Op) ([]heap.Got, []int) {
	b := &book{limit: limit}
	var gots []heap.Got
	for _, op := range ops {
		gots = append(gots, b.do(op))
	}
	return gots, b.blocks()
}

// script: n operations of all kinds, most of them with numbers near those that are there.
func script(r *rand.Rand, n, limit int) []heap.Op {
	ops := make([]heap.Op, n)
	for i := range ops {
		switch r.Intn(10) {
		case 0, 1, 2, 3:
			ops[i] = take(r.Intn(5) - r.Intn(2))
		case 4:
			ops[i] = take(r.Intn(limit + 2))
		case 5, 6, 7:
			ops[i] = give(r.Intn(12) - 1)
		case 8:
			ops[i] = spend(r.Intn(3) - 1)
		case 9:
			ops[i] = heap.Op{Kind: 1 + r.Intn(3), N: numbers()[r.Intn(len(numbers()))]}
		}
	}
	return ops
}

// scripts: with limits from none to all cells.
func scripts(tell func(limit int, ops []heap.Op)) {
	r := rand.New(rand.NewSource(7))
	for range 60 {
		for _, limit := range []int{0, 1, 2, 7, 20, 50, 399999, 400000} {
			tell(limit, script(r, r.Intn(200), limit))
		}
	}
	tell(400000, script(r, 1000, 10))
	tell(100, script(r, 1000, 10))
}

func TestNew_P6_1(t *testing.T) {
	for _, limit := range []int{0, 1, 399999, 400000} {
		h, e := heap.New(limit)
		if h == nil || e != api.OK || h.Live() != 0 || h.Laid() != 0 || len(h.Blocks()) != 0 {
			t.Fatalf("New(%d): %v, %d", limit, h, e)
		}
		if e := h.Spend(limit + 1); e != api.ErrCells {
			t.Errorf("one more than %d cells: %d", limit, e)
		}
		if e := h.Spend(limit); e != api.OK || h.Live() != limit {
			t.Errorf("all %d cells: %d", limit, e)
		}
	}
	for _, limit := range wrongLimits() {
		if h, e := heap.New(limit); h != nil || e != api.ErrArg {
			t.Errorf("New(%d) = %v, %d", limit, h, e)
		}
	}
}

// The script's answers by the heap itself, call by call, and by Play, are the book's.
func TestPlay_P6_1(t *testing.T) {
	scripts(func(limit int, ops []heap.Op) {
		want, blocks := playByHand(limit, ops)
		got, l, e := heap.Play(limit, ops)
		if e != api.OK || !slices.Equal(got, want) || !slices.Equal(l, blocks) {
			t.Fatalf("Play(%d, %v) = %v, %v, %d, want %v, %v", limit, ops, got, l, e, want, blocks)
		}
	})
}

func TestCalls_P6_1(t *testing.T) {
	scripts(func(limit int, ops []heap.Op) {
		h, b := made(limit), &book{limit: limit}
		for i, op := range ops {
			var got heap.Got
			switch op.Kind {
			case heap.Take:
				got.Id, got.Err = h.Take(op.N)
			case heap.Give:
				got.Err = h.Give(op.N)
			case heap.Spend:
				got.Err = h.Spend(op.N)
			}
			got.Live, got.Laid = h.Live(), h.Laid()
			if want := b.do(op); got != want || !slices.Equal(h.Blocks(), b.blocks()) {
				t.Fatalf("operation %d, %v: %v, %v, want %v, %v", i, op, got, h.Blocks(), want, b.blocks())
			}
		}
	})
}

// The order of the errors, and what is given back last is taken first, among blocks of that size alone.
func TestEdges_P6_1(t *testing.T) {
	for _, c := range []struct {
		name  string
		limit int
		ops   []heap.Op
		ids   []int
		errs  []api.Errno
	}{
		{"last first", 20, []heap.Op{take(2), take(2), take(2), give(2), give(3), give(1), take(2), take(2), take(2), take(2)}, []int{1, 2, 3, 0, 0, 0, 1, 3, 2, 4}, make([]api.Errno, 10)},
		{"just as many", 20, []heap.Op{take(4), give(1), take(3), take(5), take(4)}, []int{1, 0, 2, 3, 1}, make([]api.Errno, 5)},
		{"a block that lies ready isn't in use", 4, []heap.Op{take(4), give(1), take(3), take(1), take(1), give(2), take(3)}, []int{1, 0, 2, 3, 0, 0, 2}, []api.Errno{0, 0, 0, 0, api.ErrCells, 0, 0}},
		{"a block that lies ready is refused too", 4, []heap.Op{take(4), give(1), spend(1), take(4), take(3)}, []int{1, 0, 0, 0, 2}, []api.Errno{0, 0, 0, api.ErrCells, 0}},
		{"no cells, none asked for", 0, []heap.Op{take(0), spend(0), give(0), take(1), spend(1)}, make([]int, 5), []api.Errno{0, 0, 0, api.ErrCells, api.ErrCells}},
		{"below nought when full", 1, []heap.Op{take(1), take(-1), spend(-1), take(0), take(math.MaxInt64), spend(math.MaxInt64), take(math.MinInt64)}, []int{1, 0, 0, 0, 0, 0, 0}, []api.Errno{0, api.ErrArg, api.ErrArg, 0, api.ErrCells, api.ErrCells, api.ErrArg}},
		{"no such block", 9, []heap.Op{give(1), take(1), give(2), give(-1), give(math.MaxInt64), give(math.MinInt64), give(1), give(1)}, []int{0, 1, 0, 0, 0, 0, 0, 0}, []api.Errno{api.ErrArg, 0, api.ErrArg, api.ErrArg, api.ErrArg, api.ErrArg, 0, api.ErrArg}},
	} {
		gots, _, e := heap.Play(c.limit, c.ops)
		if e != api.OK || len(gots) != len(c.ops) {
			t.Errorf("%s: %v, %d", c.name, gots, e)
			continue
		}
		for i, got := range gots {
			if got.Id != c.ids[i] || got.Err != c.errs[i] {
				t.Errorf("%s: operation %d: %v, want %d, %d", c.name, i, got, c.ids[i], c.errs[i])
			}
		}
	}
}

func TestPlayRefuses_P6_1(t *testing.T) {
	many, wrong := make([]heap.Op, 1001), []heap.Op{take(1), {Kind: 0, N: 1}}
	for i := range 1000 {
		many[i] = take(0)
	}
	for _, c := range []struct {
		limit int
		ops   []heap.Op
		want  api.Errno
	}{
		{-1, nil, api.ErrArg}, {400001, many, api.ErrArg}, {-1, wrong, api.ErrArg}, {5, many, api.ErrBig}, {5, wrong, api.ErrForm},
		{5, []heap.Op{{Kind: 4}}, api.ErrForm}, {5, []heap.Op{{Kind: -1}, take(1)}, api.ErrForm}, {5, []heap.Op{{Kind: math.MaxInt64}}, api.ErrForm}, {5, []heap.Op{{Kind: math.MinInt64}}, api.ErrForm},
		{5, nil, 0}, {5, []heap.Op{}, 0}, {5, many[:1000], 0}, {5, append(slices.Clone(many[:999]), heap.Op{}), api.ErrForm},
	} {
		gots, blocks, e := heap.Play(c.limit, c.ops)
		if e != c.want || len(blocks) != 0 || (e != api.OK && len(gots) != 0) || (e == api.OK && len(gots) != len(c.ops)) {
			t.Errorf("Play(%d, %d operations) = %d of them, %v, %d, want %d", c.limit, len(c.ops), len(gots), blocks, e, c.want)
		}
	}
}

func TestNilHeap_P6_1(t *testing.T) {
	var none *heap.Heap
	for _, n := range numbers() {
		if id, e := none.Take(n); id != 0 || e != api.ErrArg {
			t.Errorf("Take(%d) of no heap = %d, %d", n, id, e)
		}
		if e, f := none.Give(n), none.Spend(n); e != api.ErrArg || f != api.ErrArg {
			t.Errorf("Give(%d), Spend(%d) of no heap: %d, %d", n, n, e, f)
		}
	}
	if none.Live() != 0 || none.Laid() != 0 || len(none.Blocks()) != 0 {
		t.Errorf("no heap: %d, %d, %v", none.Live(), none.Laid(), none.Blocks())
	}
}

func TestBounds_P6_2(t *testing.T) {
	scripts(func(limit int, ops []heap.Op) {
		gots, _, _ := heap.Play(limit, ops)
		spent, laid, before := 0, map[int]int{}, heap.Got{}
		for i, got := range gots {
			if ops[i].Kind == heap.Spend && got.Err == api.OK {
				spent += ops[i].N
			}
			if got.Live > limit || got.Live > spent+got.Laid || got.Live < spent {
				t.Fatalf("limit %d, spent %d: %v", limit, spent, got)
			}
			if got.Id != 0 {
				if n, ok := laid[got.Id]; ok != (got.Laid == before.Laid) || (ok && n != ops[i].N) {
					t.Fatalf("block %d of %d cells: %v behind %v", got.Id, ops[i].N, got, before)
				}
				laid[got.Id] = ops[i].N
			} else if got.Laid != before.Laid {
				t.Fatalf("laid without a block: %v behind %v", got, before)
			}
			before = got
		}
	})
}

func TestTakenAndGiven_P6_2(t *testing.T) {
	h := made(100)
	h.Spend(7)
	h.Take(5)
	for n := range 90 {
		live := h.Live()
		id, e := h.Take(n)
		if e == api.OK {
			laid := h.Laid()
			if h.Live() != live+n || h.Give(id) != api.OK {
				t.Errorf("Take(%d): live %d behind %d", n, h.Live(), live)
			}
			if again, e := h.Take(n); again != id || e != api.OK || h.Laid() != laid || h.Give(again) != api.OK {
				t.Errorf("Take(%d) again: %d behind %d, laid %d behind %d", n, again, id, h.Laid(), laid)
			}
		}
		if h.Live() != live || (e == api.OK) != (n <= 88) {
			t.Errorf("Take(%d) and Give: live %d behind %d, %d", n, h.Live(), live, e)
		}
	}
	if h.Laid() != 5+88*89/2 {
		t.Errorf("laid %d", h.Laid())
	}
}

func TestExamples_P6_1(t *testing.T) {
	gots, blocks, e := heap.Play(10, []heap.Op{take(4), take(4), take(4), give(1), take(4), take(2), give(1), give(1)})
	want := []heap.Got{{1, 0, 4, 4}, {2, 0, 8, 8}, {0, api.ErrCells, 8, 8}, {0, 0, 4, 8}, {1, 0, 8, 8}, {3, 0, 10, 10}, {0, 0, 6, 10}, {0, api.ErrArg, 6, 10}}
	if e != api.OK || !slices.Equal(gots, want) || !slices.Equal(blocks, []int{2, 3}) {
		t.Errorf("Play = %v, %v, %d", gots, blocks, e)
	}
	if h, e := heap.New(-1); h != nil || e != api.ErrArg {
		t.Errorf("New(-1) = %v, %d", h, e)
	}
	if id, e := made(5).Take(0); id != 0 || e != api.OK {
		t.Errorf("Take(0) = %d, %d", id, e)
	}
	if gots, _, e := heap.Play(5, []heap.Op{spend(5), take(1)}); e != api.OK || len(gots) != 2 || gots[0].Err != api.OK || gots[1].Err != api.ErrCells {
		t.Errorf("Play = %v, %d", gots, e)
	}
	if gots, blocks, e := heap.Play(5, []heap.Op{{4, 0}}); len(gots) != 0 || len(blocks) != 0 || e != api.ErrForm {
		t.Errorf("Play = %v, %v, %d", gots, blocks, e)
	}
}

// Every call ends without a panic at all numbers, of a heap that was made bare too; lists are left as they are, and answers are new memory (R3, R5).
func TestNoPanic_P1(t *testing.T) {
	for _, h := range []*heap.Heap{nil, new(heap.Heap), made(0), made(3), made(400000)} {
		for _, n := range numbers() {
			heap.New(n)
			heap.Play(n, []heap.Op{{n, n}, take(n), give(n), spend(n)})
			h.Take(n)
			h.Give(n)
			h.Spend(n)
		}
		first := h.Blocks()
		kept := slices.Clone(first)
		clear(first[:cap(first)])
		if !slices.Equal(h.Blocks(), kept) {
			t.Errorf("Blocks: %v, and then %v", kept, h.Blocks())
		}
	}
	ops := append(make([]heap.Op, 0, 4), take(2), take(3))
	first, l, _ := heap.Play(9, ops)
	kept, keptBlocks := slices.Clone(first), slices.Clone(l)
	clear(first[:cap(first)])
	clear(l[:cap(l)])
	second, m, _ := heap.Play(9, ops)
	if !slices.Equal(second, kept) || !slices.Equal(m, keptBlocks) || !slices.Equal(ops[:4], []heap.Op{take(2), take(3), {}, {}}) {
		t.Errorf("Play: %v, %v, and then %v, %v; %v", kept, keptBlocks, second, m, ops[:4])
	}
}
