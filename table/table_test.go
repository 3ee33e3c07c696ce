package table_test

import (
	"math"
	"math/rand"
	"slices"
	"strconv"
	"strings"
	"testing"

	"trestle/api"
	"trestle/hash"
	"trestle/heap"
	"trestle/nodes"
	"trestle/table"
)

// Texts at the limit of what is in form, and one byte beyond it.
var longest, tooLong = strings.Repeat("x", 10000), strings.Repeat("x", 10001)

func nothing() api.Val       { return api.Val{} }
func number(n int) api.Val   { return api.Val{Kind: api.Int, N: n} }
func text(s string) api.Val  { return api.Val{Kind: api.Str, S: s} }
func of(kind, n int) api.Val { return api.Val{Kind: kind, N: n} }
func cells(n int) *heap.Heap { h, _ := heap.New(n); return h }
func missing() *table.Table  { return nil }
func bare() *table.Table     { return new(table.Table) }
func made(a, n int) *table.Table {
	x, _ := table.New(cells(400000), a, n)
	return x
}

// wrong: values that aren't in form, some of which look like a key of the array part.
func wrong() []api.Val {
	return []api.Val{of(-1, 0), of(7, 1), of(math.MinInt64, 1), of(math.MaxInt64, 1), of(api.Nil, 1), {Kind: api.Nil, S: "x"}, of(api.Bool, 2), of(api.Bool, -1), {Kind: api.Int, N: 1, S: "x"}, {Kind: api.Int, N: 2, S: "x"}, {Kind: api.Str, N: 1, S: "a"}, text(tooLong), of(api.Tab, 0), of(api.Fun, -1), of(api.Lib, 0), {Kind: api.Tab, N: 1, S: "x"}}
}

// strange: keys that never are in an array part.
func strange() []api.Val {
	return []api.Val{of(api.Bool, 0), of(api.Bool, 1), number(math.MinInt64), number(math.MaxInt64), number(-1), number(0), text(""), text("1"), text("\xff\x00"), of(api.Tab, 1), of(api.Fun, 1), of(api.Lib, 1), of(api.Tab, math.MaxInt64)}
}

// powerFor: the least power of two with room for n, 0 for none.
func powerFor(n int) int {
	if n == 0 {
		return 0
	}
	size := 1
	for size < n {
		size *= 2
	}
	return size
}

// fit: the sizes that P8.3 asks for when these keys are present.
func fit(present []api.Val) (int, int) {
	array := 0
	for size := 1; size <= 65536; size *= 2 {
		if 2*upTo(present, size) > size {
			array = size
		}
	}
	return array, powerFor(len(present) - upTo(present, array))
}

// upTo: how many of the keys are the Ints 1 to size.
func upTo(keys []api.Val, size int) int {
	n := 0
	for _, k := range keys {
		if k.Kind == api.Int && k.N >= 1 && k.N <= size {
			n++
		}
	}
	return n
}

// book is the chapter's words kept by hand, with a heap of its own and layer 7's parts.
type book struct {
	h                  *heap.Heap
	slots              map[int]api.Val // those that aren't Nil
	array              int
	part               *nodes.Nodes
	arrayId, partId    int
	hint, probes, news int
}

// newBook: New, in the chapter's order.
func newBook(h *heap.Heap, array, n int) (*book, api.Errno) {
	if h == nil || array < 0 || array > 65536 || n < 0 || n > 65536 {
		return nil, api.ErrArg
	}
	own, e := h.Take(4)
	if e != api.OK {
		return nil, api.ErrCells
	}
	arrayId, e := h.Take(array)
	if e != api.OK {
		h.Give(own)
		return nil, api.ErrCells
	}
	partId, e := h.Take(3 * powerFor(n))
	if e != api.OK {
		h.Give(arrayId)
		h.Give(own)
		return nil, api.ErrCells
	}
	part, _ := nodes.New(powerFor(n))
	return &book{h: h, slots: map[int]api.Val{}, array: array, part: part, arrayId: arrayId, partId: partId}, api.OK
}

func (b *book) inArray(k api.Val) bool { return k == number(k.N) && k.N >= 1 && k.N <= b.array }

func (b *book) get(k api.Val) api.Val {
	if b.inArray(k) {
		return b.slots[k.N]
	}
	v, reads := b.part.Get(k)
	b.probes += reads
	return v
}

func (b *book) store(k, v api.Val) {
	if v == nothing() {
		delete(b.slots, k.N)
	} else {
		b.slots[k.N] = v
	}
}

func (b *book) set(k, v api.Val) api.Errno {
	if slices.Contains(wrong(), k) || slices.Contains(wrong(), v) {
		return api.ErrForm
	}
	if k == nothing() {
		return api.ErrKey
	}
	if b.inArray(k) {
		b.store(k, v)
		return api.OK
	}
	reads, e := b.part.Put(k, v)
	b.probes += reads
	if e == api.ErrFull {
		return b.rehash(k, v)
	}
	return e
}

// present: the keys whose value isn't Nil, in the order of their places.
func (b *book) present() []api.Val {
	var keys []api.Val
	for i := 1; i <= b.array; i++ {
		if b.slots[i] != nothing() {
			keys = append(keys, number(i))
		}
	}
	for _, n := range b.part.Dump() {
		if n.Val != nothing() {
			keys = append(keys, n.Key)
		}
	}
	return keys
}

func (b *book) rehash(k, v api.Val) api.Errno {
	array, size := fit(append(b.present(), k))
	if size > 65536 {
		return api.ErrBig
	}
	arrayId, e := b.h.Take(array)
	if e != api.OK {
		return api.ErrCells
	}
	partId, e := b.h.Take(3 * size)
	if e != api.OK {
		b.h.Give(arrayId)
		return api.ErrCells
	}
	was := *b
	b.slots, b.array, b.news = map[int]api.Val{}, array, b.news+1
	b.part, _ = nodes.New(size)
	for i := 1; i <= was.array; i++ {
		if i <= array && was.slots[i] != nothing() {
			b.slots[i] = was.slots[i]
		} else if was.slots[i] != nothing() {
			b.part.Put(number(i), was.slots[i])
		}
	}
	old := was.part.Dump()
	slices.Reverse(old)
	for _, n := range old {
		if n.Val != nothing() && b.inArray(n.Key) {
			b.slots[n.Key.N] = n.Val
		} else if n.Val != nothing() {
			b.part.Put(n.Key, n.Val)
		}
	}
	b.h.Give(was.arrayId)
	b.h.Give(was.partId)
	b.arrayId, b.partId, b.hint = arrayId, partId, 0
	if b.inArray(k) {
		b.slots[k.N] = v
	} else {
		b.part.Put(k, v)
	}
	return api.OK
}

func (b *book) place(k api.Val) int {
	if b.inArray(k) {
		return k.N
	}
	at, reads := b.part.Find(k)
	b.probes += reads
	if at < 0 {
		return 0
	}
	return b.array + 1 + at
}

func (b *book) pair(place int) (api.Val, api.Val) {
	if place >= 1 && place <= b.array {
		return number(place), b.slots[place]
	}
	if place > b.array && place <= b.array+b.part.Size() {
		n := b.part.Dump()[place-b.array-1]
		return n.Key, n.Val
	}
	return nothing(), nothing()
}

func (b *book) stats() api.Stats {
	return api.Stats{Array: b.array, Hash: b.part.Size(), Free: b.part.Free(), Hint: b.hint}
}

func (b *book) dump() ([]api.Val, []nodes.Node) {
	all := make([]api.Val, b.array)
	for i := range all {
		all[i] = b.slots[i+1]
	}
	return all, b.part.Dump()
}

// play is a script: a table's first sizes, the cells of its heap, and the keys that are set.
type play struct {
	limit, array, part, turns int
	pool                      []api.Val
	r                         *rand.Rand
}

// plays: scripts with few keys and many, in rows and scattered, with cells enough and too few.
func plays(tell func(p play)) {
	r := rand.New(rand.NewSource(7))
	for turn := range 400 {
		var pool []api.Val
		for i := range 1 + r.Intn(40) {
			pool = append(pool, number(i+1))
			if turn%3 == 0 {
				pool = append(pool, text(strconv.Itoa(i)))
			}
			if turn%4 == 0 {
				pool = append(pool, number(3*i+7), of(api.Tab, i+1))
			}
		}
		if turn%5 == 0 {
			pool = append(pool, strange()...)
		}
		limit := 400000
		if turn%2 == 0 {
			limit = 30 + r.Intn(200)
		}
		p := play{limit, r.Intn(7), r.Intn(5), 100, pool, r}
		if turn%7 == 0 {
			p.array, p.part = 3, 1 // blocks of as many cells: it shows which was given back last
		}
		if turn%6 == 1 {
			p.array, p.pool = 80, nil // many slots, of which few are used: a rehash puts these into nodes
			for range 12 {
				p.pool = append(p.pool, number(1+r.Intn(80)), text(strconv.Itoa(r.Intn(9))))
			}
		}
		tell(p)
	}
}

// key: one of the pool, now and then one that is no key.
func (p play) key() api.Val {
	switch p.r.Intn(40) {
	case 0:
		return nothing()
	case 1:
		return wrong()[p.r.Intn(len(wrong()))]
	}
	return p.pool[p.r.Intn(len(p.pool))]
}

// val: a value, one in four Nil, now and then one that isn't in form.
func (p play) val() api.Val {
	switch n := p.r.Intn(40); {
	case n < 10:
		return nothing()
	case n == 10:
		return wrong()[p.r.Intn(len(wrong()))]
	case n < 15:
		return strange()[p.r.Intn(len(strange()))]
	}
	return number(p.r.Intn(1000))
}

// differs: what is to be seen of a table and its heap that isn't as the book has it; "": nothing.
func differs(x *table.Table, h *heap.Heap, b *book) string {
	slots, all := x.Dump()
	wantSlots, want := b.dump()
	switch {
	case x.Stats() != b.stats():
		return "Stats"
	case x.Probes() != b.probes:
		return "Probes"
	case x.Places() != b.array+b.part.Size():
		return "Places"
	case !slices.Equal(slots, wantSlots) || !slices.Equal(all, want):
		return "Dump"
	case h.Live() != b.h.Live() || h.Laid() != b.h.Laid() || !slices.Equal(h.Blocks(), b.h.Blocks()):
		return "the heap"
	}
	return ""
}

// Each answer, and all that is to be seen behind each call, is the book's, also while others take cells of the heap.
func TestCalls_P8_1(t *testing.T) {
	rehashes, refused := 0, 0
	plays(func(p play) {
		h, other := cells(p.limit), cells(p.limit)
		x, e := table.New(h, p.array, p.part)
		b, want := newBook(other, p.array, p.part)
		if e != want || (x == nil) != (e != api.OK) {
			t.Fatalf("New(%d, %d): %d, want %d", p.array, p.part, e, want)
		}
		if e != api.OK {
			return
		}
		for range p.turns {
			k, v := p.key(), p.val()
			n := p.r.Intn(60) - 5
			switch kind := p.r.Intn(20); kind {
			case 0:
				if got, want := x.Get(k), b.get(k); got != want {
					t.Fatalf("Get(%.40v) = %.40v, want %.40v", k, got, want)
				}
			case 1:
				if got, want := x.Place(k), b.place(k); got != want {
					t.Fatalf("Place(%.40v) = %d, want %d", k, got, want)
				}
			case 2:
				gotK, gotV := x.Pair(n)
				if wantK, wantV := b.pair(n); gotK != wantK || gotV != wantV {
					t.Fatalf("Pair(%d) = %v, %v, want %v, %v", n, gotK, gotV, wantK, wantV)
				}
			case 3, 4:
				x.Hint(n)
				if n >= 0 && n <= b.array {
					b.hint = n
				}
			case 5:
				size := []int{1, 2, 3, 4, 6, 8, 12}[p.r.Intn(7)]
				id, e := h.Take(size)
				if wantId, want := other.Take(size); id != wantId || e != want {
					t.Fatalf("Take(%d) = %d, %d, want %d, %d", size, id, e, wantId, want)
				}
				if p.r.Intn(2) == 0 {
					h.Give(id)
					other.Give(id)
				}
			default:
				e, want := x.Set(k, v), b.set(k, v)
				if e != want {
					t.Fatalf("Set(%.40v, %.40v) = %d, want %d", k, v, e, want)
				}
				if e == api.ErrCells {
					refused++
				}
			}
			if what := differs(x, h, b); what != "" {
				t.Fatalf("%s isn't the book's: %v, want %v", what, x.Stats(), b.stats())
			}
		}
		rehashes += b.news
	})
	if rehashes < 1000 || refused < 1000 {
		t.Errorf("only %d rehashes, %d without cells", rehashes, refused)
	}
}

// New of all sizes near the edges, of heaps with just the cells that it takes, and with one less.
func TestNew_P8_1(t *testing.T) {
	sizes := []int{math.MinInt64, -1, 0, 1, 2, 3, 4, 5, 7, 8, 9, 1000, 32768, 32769, 65535, 65536, 65537, 1 << 32, math.MaxInt64}
	for _, array := range sizes {
		for _, n := range sizes {
			if x, e := table.New(nil, array, n); x != nil || e != api.ErrArg {
				t.Errorf("New(nil, %d, %d): %v, %d", array, n, x, e)
			}
			valid := array >= 0 && array <= 65536 && n >= 0 && n <= 65536
			limits := []int{0, 3, 4, 400000}
			if valid {
				all := 4 + array + 3*powerFor(n)
				limits = append(limits, 4+array, all, all-1)
			}
			for _, limit := range limits {
				h, other := cells(limit), cells(limit)
				x, e := table.New(h, array, n)
				b, want := newBook(other, array, n)
				if e != want || (x == nil) != (e != api.OK) || h.Live() != other.Live() || h.Laid() != other.Laid() || !slices.Equal(h.Blocks(), other.Blocks()) {
					t.Fatalf("a heap of %d: New(%d, %d): %d, want %d; live %d, laid %d, want %d, %d", limit, array, n, e, want, h.Live(), h.Laid(), other.Live(), other.Laid())
				}
				if x == nil {
					continue
				}
				slots, all := x.Dump()
				if x.Stats() != b.stats() || len(slots) != array || len(all) != powerFor(n) || x.Probes() != 0 || x.Places() != array+len(all) || slices.ContainsFunc(slots, func(v api.Val) bool { return v != nothing() }) {
					t.Errorf("New(%d, %d): %v", array, n, x.Stats())
				}
			}
		}
	}
}

// Of blocks with as many cells, which one was given back last shows in the next one that is taken.
func TestGivenBack_P8_1(t *testing.T) {
	h := cells(10)
	if _, e := table.New(h, 4, 1); e != api.ErrCells || h.Live() != 0 || h.Laid() != 8 {
		t.Fatalf("New: %d, live %d, laid %d", e, h.Live(), h.Laid())
	}
	if id, _ := h.Take(4); id != 1 {
		t.Errorf("the table's block wasn't the last that was given back: %d", id)
	}
	h = cells(100)
	x, _ := table.New(h, 3, 1)
	x.Set(text("a"), number(1))
	x.Set(text("b"), number(1))
	if id, _ := h.Take(3); id != 3 || h.Live() != 4+6+3 {
		t.Errorf("the nodes' block wasn't the last that was given back: %d, live %d", id, h.Live())
	}
	// A block that lies ready is taken again, whoever gave it back.
	h = cells(20)
	for _, n := range []int{4, 2, 3} {
		h.Take(n)
	}
	for id := 1; id <= 3; id++ {
		h.Give(id)
	}
	table.New(h, 2, 1)
	if h.Laid() != 9 || !slices.Equal(h.Blocks(), []int{1, 2, 3}) {
		t.Errorf("blocks that lay ready: laid %d, %v", h.Laid(), h.Blocks())
	}
}

// A rehash that finds no cells leaves all as it was but the free pointer, wherever it fails; what was laid for it stays laid.
func TestNoCells_P8_1(t *testing.T) {
	for more := range 20 {
		limit := 4 + 3 + 12 + more
		h := cells(limit)
		x, _ := table.New(h, 3, 4)
		for _, k := range []int{1, 2, 3, 10, 20, 30} {
			x.Set(number(k), number(k))
		}
		x.Set(text("a"), number(1))
		x.Hint(2)
		slots, all := x.Dump()
		probes := x.Probes()
		e := x.Set(number(4), number(4)) // 1 to 4 in slots, three Ints and a text in nodes
		laid := 19
		if more >= 4 {
			laid = 23
		}
		if more >= 16 {
			if e != api.OK || h.Live() != 4+4+12 || h.Laid() != 35 || x.Stats() != (api.Stats{Array: 4, Hash: 4, Free: x.Stats().Free}) {
				t.Errorf("%d cells: Set = %d, live %d, laid %d, %v", limit, e, h.Live(), h.Laid(), x.Stats())
			}
			continue
		}
		nowSlots, now := x.Dump()
		if e != api.ErrCells || h.Live() != 19 || h.Laid() != laid || x.Stats() != (api.Stats{Array: 3, Hash: 4, Hint: 2}) || !slices.Equal(slots, nowSlots) || !slices.Equal(all, now) || x.Probes() == probes {
			t.Errorf("%d cells: Set = %d, live %d, laid %d, %v", limit, e, h.Live(), h.Laid(), x.Stats())
		}
		if x.Set(text("a"), nothing()) != api.OK || x.Set(number(10), text("new")) != api.OK || x.Get(number(10)) != text("new") || x.Set(number(4), nothing()) != api.OK {
			t.Errorf("%d cells: what is held can't be set behind the refusal", limit)
		}
	}
}

// The order of the errors; what is refused changes nothing, and reads nothing.
func TestRefused_P8_1(t *testing.T) {
	for _, size := range [][2]int{{0, 0}, {2, 0}, {0, 1}, {3, 4}} {
		x := made(size[0], size[1])
		x.Set(number(1), text("one"))
		stats, probes := x.Stats(), x.Probes()
		slots, all := x.Dump()
		for _, w := range wrong() {
			for _, other := range append(wrong(), nothing(), number(1), number(99), text("a")) {
				if e := x.Set(w, other); e != api.ErrForm {
					t.Errorf("Set(%.40v, %.40v) = %d", w, other, e)
				}
				if e := x.Set(other, w); e != api.ErrForm {
					t.Errorf("Set(%.40v, %.40v) = %d", other, w, e)
				}
			}
			if v, at := x.Get(w), x.Place(w); v != nothing() || at != 0 {
				t.Errorf("Get(%.40v) = %v, Place %d", w, v, at)
			}
		}
		for _, v := range []api.Val{nothing(), number(1), text("a")} {
			if e := x.Set(nothing(), v); e != api.ErrKey {
				t.Errorf("Set(Nil, %v) = %d", v, e)
			}
		}
		if v, at := x.Get(nothing()), x.Place(nothing()); v != nothing() || at != 0 {
			t.Errorf("Get(Nil) = %v, Place %d", v, at)
		}
		nowSlots, now := x.Dump()
		if x.Stats() != stats || x.Probes() != probes || !slices.Equal(slots, nowSlots) || !slices.Equal(all, now) {
			t.Errorf("%v, %d probes; it was %v, %d", x.Stats(), x.Probes(), stats, probes)
		}
	}
}

func TestNilTable_P8_1(t *testing.T) {
	x := missing()
	for _, k := range append(append(strange(), wrong()...), nothing(), number(1)) {
		for _, v := range append(wrong(), nothing(), number(1)) {
			if e := x.Set(k, v); e != api.ErrArg {
				t.Errorf("Set(%.40v, %.40v) = %d", k, v, e)
			}
		}
		if x.Get(k) != nothing() || x.Place(k) != 0 {
			t.Errorf("Get(%.40v) = %v, Place %d", k, x.Get(k), x.Place(k))
		}
	}
	for _, n := range []int{math.MinInt64, -1, 0, 1, math.MaxInt64} {
		x.Hint(n)
		if k, v := x.Pair(n); k != nothing() || v != nothing() {
			t.Errorf("Pair(%d) = %v, %v", n, k, v)
		}
	}
	slots, all := x.Dump()
	if x.Places() != 0 || x.Probes() != 0 || x.Stats() != (api.Stats{}) || len(slots) != 0 || len(all) != 0 {
		t.Errorf("%d, %d, %v, %v, %v", x.Places(), x.Probes(), x.Stats(), slots, all)
	}
}

func TestHint_P8_1(t *testing.T) {
	x := made(3, 1)
	last := 0
	for _, n := range []int{0, 3, -1, 4, 2, math.MinInt64, math.MaxInt64, 0, 1} {
		x.Hint(n)
		if n >= 0 && n <= 3 {
			last = n
		}
		if x.Stats().Hint != last {
			t.Errorf("Hint(%d): %d, want %d", n, x.Stats().Hint, last)
		}
	}
	x.Set(text("a"), number(1))
	x.Set(number(1), number(1))
	if x.Stats().Hint != 1 {
		t.Errorf("the hint behind Sets without a rehash: %d", x.Stats().Hint)
	}
	x.Set(text("b"), number(1))
	if x.Stats() != (api.Stats{Array: 1, Hash: 2, Free: x.Stats().Free}) {
		t.Errorf("the hint behind a rehash: %v", x.Stats())
	}
}

// The places of slots, of live and of dead keys, and what stands there; Pair counts nothing.
func TestPlaces_P8_1(t *testing.T) {
	x := made(2, 4)
	for _, k := range []api.Val{number(1), number(6), number(3), text("a")} {
		x.Set(k, text("v"))
	}
	x.Set(number(6), nothing())
	_, all := x.Dump()
	probes := x.Probes()
	for place := -2; place < 10; place++ {
		wantK, wantV := nothing(), nothing()
		switch {
		case place == 1:
			wantK, wantV = number(1), text("v")
		case place == 2:
			wantK = number(2)
		case place > 2 && place <= 6:
			wantK, wantV = all[place-3].Key, all[place-3].Val
		}
		if k, v := x.Pair(place); k != wantK || v != wantV {
			t.Errorf("Pair(%d) = %v, %v, want %v, %v", place, k, v, wantK, wantV)
		}
	}
	for _, place := range []int{math.MinInt64, math.MinInt64 + 2, math.MaxInt64} {
		if k, v := x.Pair(place); k != nothing() || v != nothing() {
			t.Errorf("Pair(%d) = %v, %v", place, k, v)
		}
	}
	if x.Probes() != probes || x.Places() != 6 {
		t.Errorf("%d probes, were %d; %d places", x.Probes(), probes, x.Places())
	}
	for i, n := range all {
		if n.Key != nothing() && x.Place(n.Key) != 3+i {
			t.Errorf("Place(%v) = %d, want %d", n.Key, x.Place(n.Key), 3+i)
		}
	}
	for _, k := range []api.Val{number(4), number(0), number(-1), text("b"), nothing()} {
		if x.Place(k) != 0 {
			t.Errorf("Place(%v) = %d", k, x.Place(k))
		}
	}
	if x.Place(number(2)) != 2 || x.Place(number(6)) < 3 || x.Probes() <= probes {
		t.Errorf("Place(2) = %d, Place(6) = %d, %d probes", x.Place(number(2)), x.Place(number(6)), x.Probes())
	}
}

// What a rehash moves comes in its order, which shows in the chains: slots rising, nodes from the last to the first, the new key behind them.
func TestOrder_P8_1(t *testing.T) {
	node := func(k api.Val, next int) nodes.Node { return nodes.Node{Key: k, Val: number(1), Next: next} }
	for _, c := range []struct {
		array, part, free int
		keys              []api.Val
		want              []nodes.Node
	}{
		// 4 and 7 have the main position 1 of 4 nodes, the text a has 0.
		{8, 0, 3, []api.Val{number(7), number(4), text("a")}, []nodes.Node{node(text("a"), 0), node(number(4), 2), {}, node(number(7), 0)}},
		// All three have the main position 1 of 4 nodes; of 2 nodes 1000 has the first.
		{0, 2, 2, []api.Val{number(1000), number(1003), number(1006)}, []nodes.Node{{}, node(number(1003), 1), node(number(1006), 1), node(number(1000), 0)}},
		// The slot 7 comes ahead of the node of 1000.
		{8, 1, 2, []api.Val{number(7), number(1000), number(1003)}, []nodes.Node{{}, node(number(7), 1), node(number(1003), 1), node(number(1000), 0)}},
	} {
		x := made(c.array, c.part)
		for _, k := range c.keys {
			if e := x.Set(k, number(1)); e != api.OK {
				t.Errorf("Set(%v) = %d", k, e)
			}
		}
		if slots, all := x.Dump(); len(slots) != 0 || !slices.Equal(all, c.want) || x.Stats().Free != c.free {
			t.Errorf("%v: %v, %v, free %d", c.keys, slots, all, x.Stats().Free)
		}
	}
}

// step is a Set of an example, and the sizes behind it.
type step struct {
	k, v        api.Val
	array, part int
}

func walk(t *testing.T, x *table.Table, steps []step) {
	t.Helper()
	for _, s := range steps {
		if e := x.Set(s.k, s.v); e != api.OK || x.Stats().Array != s.array || x.Stats().Hash != s.part || x.Get(s.k) != s.v {
			t.Errorf("Set(%v, %v): %d, %v, want %d, %d", s.k, s.v, e, x.Stats(), s.array, s.part)
		}
	}
}

func TestExamples_P8_1(t *testing.T) {
	one := made(0, 0)
	walk(t, one, []step{{number(1), text("a"), 1, 0}, {number(2), text("b"), 2, 0}, {number(3), text("c"), 4, 0}, {number(4), text("d"), 4, 0}, {text("x"), number(1), 4, 1}, {text("y"), number(2), 4, 2}})
	slots, _ := one.Dump()
	if !slices.Equal(slots, []api.Val{text("a"), text("b"), text("c"), text("d")}) {
		t.Errorf("the first example's slots: %v", slots)
	}
	two := made(3, 0)
	if two.Stats() != (api.Stats{Array: 3}) {
		t.Errorf("the second example: %v", two.Stats())
	}
	walk(t, two, []step{{number(4), text("d"), 0, 1}})
	three := made(0, 3)
	walk(t, three, []step{{number(100), number(1), 0, 4}, {number(200), number(1), 0, 4}, {number(300), number(1), 0, 4}, {number(400), number(1), 0, 4}, {number(100), nothing(), 0, 4}})
	if three.Place(number(100)) == 0 || three.Stats().Free != 3 {
		t.Errorf("the third example: 100 has place %d; %v", three.Place(number(100)), three.Stats())
	}
	walk(t, three, []step{{number(500), number(1), 0, 4}})
	if three.Place(number(100)) != 0 {
		t.Errorf("the third example: 100 has place %d behind the rehash", three.Place(number(100)))
	}
	h := cells(9)
	four, _ := table.New(h, 2, 1)
	if h.Live() != 9 || four.Set(text("a"), number(1)) != api.OK {
		t.Errorf("the fourth example: live %d", h.Live())
	}
	if e := four.Set(text("b"), number(1)); e != api.ErrCells || four.Get(text("a")) != number(1) || four.Get(text("b")) != nothing() || four.Stats() != (api.Stats{Array: 2, Hash: 1}) || h.Live() != 9 {
		t.Errorf("the fourth example: %d, %v, live %d", e, four.Stats(), h.Live())
	}
}

// A Get is the last Set that wasn't refused, of each key of the script.
func TestMap_P8_2(t *testing.T) {
	plays(func(p play) {
		x, e := table.New(cells(p.limit), p.array, p.part)
		if e != api.OK {
			return
		}
		last := map[api.Val]api.Val{}
		for range p.turns {
			k, v := p.key(), p.val()
			if x.Set(k, v) == api.OK {
				last[k] = v
			}
			for _, k := range p.pool {
				if x.Get(k) != last[k] {
					t.Fatalf("Get(%v) = %v, want %v", k, x.Get(k), last[k])
				}
			}
		}
	})
}

// Texts of the greatest length, and values of all kinds, in both parts.
func TestValues_P8_2(t *testing.T) {
	x := made(1, 0)
	values := append(strange(), text(longest), nothing(), number(7))
	for _, v := range values {
		for _, k := range []api.Val{number(1), number(-5), text("k"), text(longest)} {
			if e := x.Set(k, v); e != api.OK || x.Get(k) != v {
				t.Errorf("Set(%.40v, %.40v) = %d, and Get is %.40v", k, v, e, x.Get(k))
			}
		}
	}
	for i, k := range strange() {
		x.Set(k, number(i))
	}
	for i, k := range strange() {
		if x.Get(k) != number(i) {
			t.Errorf("Get(%v) = %v, want %d", k, x.Get(k), i)
		}
	}
}

// held: is the key a slot's, or does a node hold it? And: do all nodes hold keys?
func held(k api.Val, slots []api.Val, all []nodes.Node) (bool, bool, bool) {
	inArray := k == number(k.N) && k.N >= 1 && k.N <= len(slots)
	inNode := slices.ContainsFunc(all, func(n nodes.Node) bool { return n.Key == k })
	full := !slices.ContainsFunc(all, func(n nodes.Node) bool { return n.Key == nothing() })
	return inArray, inNode, full
}

func TestSizes_P8_3(t *testing.T) {
	plays(func(p play) {
		h := cells(p.limit)
		x, e := table.New(h, p.array, p.part)
		if e != api.OK {
			return
		}
		there := map[api.Val]int{}
		for range p.turns {
			k, v := p.key(), p.val()
			slots, all := x.Dump()
			inArray, inNode, full := held(k, slots, all)
			stats, blocks := x.Stats(), h.Blocks()
			e := x.Set(k, v)
			if e == api.OK && v != nothing() {
				there[k] = 1
			} else if e == api.OK {
				delete(there, k)
			}
			_, now := x.Dump()
			if inArray || inNode || !full || v == nothing() || e != api.OK {
				if got := x.Stats(); got.Array != stats.Array || got.Hash != stats.Hash || !slices.Equal(h.Blocks(), blocks) {
					t.Fatalf("Set(%.40v, %.40v) = %d: %v, it was %v", k, v, e, got, stats)
				}
				for _, n := range all {
					if n.Key != nothing() && !slices.ContainsFunc(now, func(m nodes.Node) bool { return m.Key == n.Key }) {
						t.Fatalf("Set(%.40v, %.40v) = %d: no node holds %v any longer", k, v, e, n.Key)
					}
				}
				continue
			}
			var present []api.Val
			for k := range there {
				present = append(present, k)
			}
			array, size := fit(present)
			dead := slices.ContainsFunc(now, func(n nodes.Node) bool { return n.Key != nothing() && n.Val == nothing() })
			if got := x.Stats(); got.Array != array || got.Hash != size || dead {
				t.Fatalf("a rehash for %v: %v, want %d, %d; dead keys: %t", k, got, array, size, dead)
			}
		}
	})
}

// The array part at its greatest: the next number has a node.
func TestGreatestArray_P8_3(t *testing.T) {
	h := cells(400000)
	x, _ := table.New(h, 0, 0)
	for i := 1; i <= 65536; i++ {
		if e := x.Set(number(i), number(-i)); e != api.OK || x.Stats().Array != powerFor(i) || x.Stats().Hash != 0 {
			t.Fatalf("Set(%d) = %d, %v", i, e, x.Stats())
		}
	}
	if e := x.Set(number(65537), number(1)); e != api.OK || x.Stats() != (api.Stats{Array: 65536, Hash: 1, Free: 1}) || h.Live() != 4+65536+3 {
		t.Errorf("Set(65537) = %d, %v, live %d", e, x.Stats(), h.Live())
	}
	for i := 1; i <= 65536; i++ {
		if x.Get(number(i)) != number(-i) {
			t.Fatalf("Get(%d) = %v", i, x.Get(number(i)))
		}
	}
	for i := 1; i <= 32768; i++ {
		x.Set(number(i), nothing())
	}
	// Half of the slots aren't more than half: what they hold has to go into nodes.
	if e := x.Set(text("a"), number(1)); e != api.OK || x.Stats().Array != 0 || x.Stats().Hash != 65536 || h.Live() != 4+3*65536 {
		t.Errorf("behind the clearing of half of the slots: %d, %v, live %d", e, x.Stats(), h.Live())
	}
	for i := 1; i <= 65536; i++ {
		if want := number(-i); i > 32768 && x.Get(number(i)) != want || i <= 32768 && x.Get(number(i)) != nothing() {
			t.Fatalf("Get(%d) = %v in nodes", i, x.Get(number(i)))
		}
	}
}

// The hash part at its greatest: ErrBig comes ahead of ErrCells, and leaves all but the free pointer.
func TestGreatestHash_P8_3(t *testing.T) {
	h := cells(400000)
	x, _ := table.New(h, 0, 65536)
	for i := range 65536 {
		if e := x.Set(number(-i), number(i)); e != api.OK {
			t.Fatalf("Set(%d) = %d", -i, e)
		}
	}
	x.Hint(0)
	_, all := x.Dump()
	laid := h.Laid()
	if e := x.Set(text("a"), number(1)); e != api.ErrBig || x.Stats() != (api.Stats{Hash: 65536}) || h.Laid() != laid || h.Live() != laid {
		t.Errorf("Set of one more = %d, %v", e, x.Stats())
	}
	if e := x.Set(text("a"), nothing()); e != api.OK {
		t.Errorf("Set of one more to Nil = %d", e)
	}
	if _, now := x.Dump(); !slices.Equal(all, now) || x.Get(text("a")) != nothing() || x.Get(number(-65535)) != number(65535) {
		t.Error("the refused key changed the nodes")
	}
	// The first slots' number makes an array part, so it needs no node.
	if e := x.Set(number(1), number(1)); e != api.OK || x.Stats().Array != 1 || x.Stats().Hash != 65536 {
		t.Errorf("Set(1) = %d, %v", e, x.Stats())
	}
	x.Set(number(-7), nothing())
	h.Spend(400000 - h.Live() - 196608)
	if e := x.Set(text("a"), number(1)); e != api.ErrCells {
		t.Errorf("Set in a dead key's stead, one cell too few: %d", e)
	}
}

// reads: how many nodes a search reads, going along the links from the main position.
func reads(k api.Val, slots []api.Val, all []nodes.Node) int {
	inArray, _, _ := held(k, slots, all)
	m, e := hash.Main(k, len(all))
	if inArray || e != api.OK {
		return 0
	}
	n := 1
	for all[m].Key != k && all[m].Next != 0 {
		m += all[m].Next
		n++
	}
	return n
}

func TestReads_P8_4(t *testing.T) {
	plays(func(p play) {
		x, e := table.New(cells(p.limit), p.array, p.part)
		if e != api.OK {
			return
		}
		for range p.turns {
			k, v := p.key(), p.val()
			slots, all := x.Dump()
			probes, want := x.Probes(), reads(k, slots, all)
			if slices.Contains(wrong(), v) {
				want = 0
			}
			if x.Set(k, v); x.Probes()-probes != want {
				t.Fatalf("Set(%.40v, %.40v) read %d nodes, want %d", k, v, x.Probes()-probes, want)
			}
			slots, all = x.Dump()
			for _, k := range p.pool {
				probes, want := x.Probes(), reads(k, slots, all)
				x.Get(k)
				between := x.Probes()
				x.Place(k)
				if between-probes != want || x.Probes()-between != want {
					t.Fatalf("Get(%v) read %d nodes, Place %d, want %d", k, between-probes, x.Probes()-between, want)
				}
			}
		}
	})
}

func TestRow_P8_5(t *testing.T) {
	most := 0
	for _, m := range []int{0, 1, 2, 3, 4, 5, 7, 8, 9, 15, 16, 17, 31, 32, 33, 63, 64, 65, 100, 127, 128, 129, 1000, 1024} {
		for _, b := range []int{2 * m, 2*m + 1, 3 * m, 1000000, 1 << 40, 1<<62 - 1} {
			for _, size := range []int{0, 1, 3, m, m + 1, 2 * m, 5000} {
				x := made(0, size)
				for i := 1; i <= m; i++ {
					if e := x.Set(number(b+i), number(i)); e != api.OK {
						t.Fatalf("Set(%d) = %d", b+i, e)
					}
				}
				probes := x.Probes()
				for i := 1; i <= m; i++ {
					if x.Get(number(b+i)) != number(i) {
						t.Fatalf("Get(%d) = %v", b+i, x.Get(number(b+i)))
					}
				}
				if got := x.Probes() - probes; got > m+1 || got < m {
					t.Errorf("%d keys from %d on, at first %d nodes: the Gets read %d", m, b+1, size, got)
				} else {
					most = max(most, got-m)
				}
			}
		}
	}
	if most != 1 {
		t.Errorf("no row read one node more than it has keys")
	}
}

// Answers are new memory; two tables share nothing but their heap.
func TestOwnMemory_R3(t *testing.T) {
	h := cells(100)
	x, _ := table.New(h, 2, 2)
	y, _ := table.New(h, 2, 2)
	for _, k := range []api.Val{number(1), text("a"), text("b")} {
		x.Set(k, text("v"))
	}
	slots, all := x.Dump()
	keptSlots, kept := slices.Clone(slots), slices.Clone(all)
	clear(slots[:cap(slots)])
	clear(all[:cap(all)])
	nowSlots, now := x.Dump()
	if !slices.Equal(nowSlots, keptSlots) || !slices.Equal(now, kept) {
		t.Errorf("Dump: %v, %v, and then %v, %v", keptSlots, kept, nowSlots, now)
	}
	x.Set(number(1), text("w"))
	x.Set(text("a"), text("w"))
	if !slices.Equal(nowSlots, keptSlots) || !slices.Equal(now, kept) {
		t.Errorf("an answer was changed by a Set: %v, %v", nowSlots, now)
	}
	ySlots, yAll := y.Dump()
	if !slices.Equal(ySlots, make([]api.Val, 2)) || !slices.Equal(yAll, make([]nodes.Node, 2)) || y.Probes() != 0 {
		t.Errorf("another table: %v, %v", ySlots, yAll)
	}
}

// No call panics at any argument; reading changes nothing but the probes (R5).
func TestNoPanic_P1(t *testing.T) {
	numbers := []int{math.MinInt64, math.MinInt64 + 1, -1, 0, 1, 2, 3, 65536, 65537, 1 << 62, math.MaxInt64}
	values := append(append(strange(), wrong()...), nothing(), text(longest), number(1), number(2), number(3))
	tables := []*table.Table{missing(), bare(), made(0, 0), made(1, 0), made(0, 1), made(3, 4), made(65536, 65536)}
	for _, x := range tables {
		for _, k := range values {
			for _, v := range values {
				x.Set(k, v)
			}
			x.Set(k, number(1))
		}
		for _, n := range numbers {
			x.Hint(n)
		}
		stats := x.Stats()
		slots, all := x.Dump()
		for _, k := range values {
			if x.Get(k) != x.Get(k) || x.Place(k) != x.Place(k) {
				t.Errorf("Get(%.40v) or Place of it isn't the same twice", k)
			}
		}
		for _, n := range numbers {
			x.Pair(n)
			table.New(cells(10), n, n)
			table.New(new(heap.Heap), n, n)
		}
		nowSlots, now := x.Dump()
		if x.Stats() != stats || !slices.Equal(slots, nowSlots) || !slices.Equal(all, now) || x.Places() != stats.Array+stats.Hash {
			t.Errorf("%v: reading changed it", stats)
		}
	}
}
