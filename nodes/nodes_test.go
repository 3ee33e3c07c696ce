package nodes_test

import (
	"math"
	"math/rand"
	"slices"
	"strconv"
	"strings"
	"testing"

	"trestle/api"
	"trestle/hash"
	"trestle/nodes"
)

// Texts at the limit of what is in form, and one byte beyond it.
var longest, tooLong = strings.Repeat("x", 10000), strings.Repeat("x", 10001)

func nothing() api.Val               { return api.Val{} }
func number(n int) api.Val           { return api.Val{Kind: api.Int, N: n} }
func text(s string) api.Val          { return api.Val{Kind: api.Str, S: s} }
func of(kind, n int) api.Val         { return api.Val{Kind: kind, N: n} }
func node(k, v, n int) nodes.Node    { return nodes.Node{Key: number(k), Val: number(v), Next: n} }
func made(size int) *nodes.Nodes     { p, _ := nodes.New(size); return p }
func bare() *nodes.Nodes             { return new(nodes.Nodes) }
func missing() *nodes.Nodes          { return nil }
func mainOf(k api.Val, size int) int { m, _ := hash.Main(k, size); return m }

// book is the chapter's words kept by hand: each chain as the list of its nodes, so that no Next is reckoned till it is told.
type book struct {
	size, free int
	keys, vals []api.Val
	chains     [][]int // by the main position: the nodes in their order
}

func newBook(size int) *book {
	return &book{size: size, free: size, keys: make([]api.Val, size), vals: make([]api.Val, size), chains: make([][]int, size)}
}

// read: the nodes that a search beginning at node m could read, in their order.
func (b *book) read(m int) []int {
	if b.keys[m] == nothing() {
		return []int{m}
	}
	chain := b.chains[mainOf(b.keys[m], b.size)]
	return chain[slices.Index(chain, m):]
}

func (b *book) find(k api.Val) (int, int) {
	if b.size == 0 || k == nothing() || slices.Contains(wrong(), k) {
		return -1, 0
	}
	way := b.read(mainOf(k, b.size))
	for n, i := range way {
		if b.keys[i] == k {
			return i, n + 1
		}
	}
	return -1, len(way)
}

func (b *book) get(k api.Val) (api.Val, int) {
	i, reads := b.find(k)
	if i < 0 {
		return nothing(), reads
	}
	return b.vals[i], reads
}

func (b *book) put(k, v api.Val) (int, api.Errno) {
	if slices.Contains(wrong(), k) || slices.Contains(wrong(), v) {
		return 0, api.ErrForm
	}
	if k == nothing() {
		return 0, api.ErrKey
	}
	i, reads := b.find(k)
	if i >= 0 {
		b.vals[i] = v
	} else if v != nothing() {
		return reads, b.insert(k, v)
	}
	return reads, api.OK
}

func (b *book) insert(k, v api.Val) api.Errno {
	if b.size == 0 {
		return api.ErrFull
	}
	m := mainOf(k, b.size)
	f := m
	if b.keys[m] != nothing() {
		f = b.size - 1
		for f >= 0 && (f >= b.free || b.keys[f] != nothing()) {
			f--
		}
		b.free = max(f, 0)
		if f < 0 {
			return api.ErrFull
		}
	}
	o := m
	if b.keys[m] != nothing() {
		o = mainOf(b.keys[m], b.size)
	}
	switch {
	case f == m:
		b.chains[m] = []int{m}
	case o != m:
		b.chains[o][slices.Index(b.chains[o], m)] = f
		b.keys[f], b.vals[f] = b.keys[m], b.vals[m]
		b.chains[m], f = []int{m}, m
	default:
		b.chains[m] = slices.Insert(b.chains[m], 1, f)
	}
	b.keys[f], b.vals[f] = k, v
	return api.OK
}

func (b *book) dump() []nodes.Node {
	all := make([]nodes.Node, b.size)
	for i := range all {
		all[i].Key, all[i].Val = b.keys[i], b.vals[i]
	}
	for _, chain := range b.chains {
		for n := 1; n < len(chain); n++ {
			all[chain[n-1]].Next = chain[n] - chain[n-1]
		}
	}
	return all
}

// wrong: values that aren't in form.
func wrong() []api.Val {
	return []api.Val{of(-1, 0), of(7, 0), of(math.MinInt64, 1), of(math.MaxInt64, 1), of(api.Nil, 1), {Kind: api.Nil, S: "x"}, of(api.Bool, 2), of(api.Bool, -1), {Kind: api.Int, N: 3, S: "x"}, {Kind: api.Str, N: 1, S: "a"}, text(tooLong), of(api.Tab, 0), of(api.Fun, -1), of(api.Lib, 0), {Kind: api.Tab, N: 1, S: "x"}}
}

// keys: of all kinds, n or more of them, of which many have one main position.
func keys(n int) []api.Val {
	all := []api.Val{of(api.Bool, 0), of(api.Bool, 1), number(math.MinInt64), number(math.MaxInt64), number(-1), number(0), text(""), text("\xff\x00"), of(api.Tab, math.MaxInt64), of(api.Lib, 1)}
	for i := 1; len(all) < n; i++ {
		all = append(all, number(i), text(strconv.Itoa(i)), of(api.Tab, i), of(api.Fun, i), number(i*3), number(i*15))
	}
	slices.SortFunc(all, func(a, b api.Val) int {
		return strings.Compare(strconv.Itoa(a.Kind)+"/"+strconv.Itoa(a.N)+"/"+a.S, strconv.Itoa(b.Kind)+"/"+strconv.Itoa(b.N)+"/"+b.S)
	})
	return slices.Compact(all)
}

// kin: n Ints that all have the main position at in a part of that size.
func kin(at, n, size int) []api.Val {
	var all []api.Val
	for i := at; len(all) < n; i += max(size-1, 1) {
		all = append(all, number(i))
	}
	return all
}

// pick: a key or value, now and then Nil or one that isn't in form.
func pick(r *rand.Rand, from []api.Val) api.Val {
	switch r.Intn(40) {
	case 0:
		return nothing()
	case 1:
		return wrong()[r.Intn(len(wrong()))]
	}
	return from[r.Intn(len(from))]
}

func sizes() []int {
	all := []int{0}
	for size := 1; size <= 65536; size *= 2 {
		all = append(all, size)
	}
	return all
}

// plays: scripts of Puts into parts of several sizes, with fewer keys than nodes, and with more, some values Nil.
func plays(tell func(size int, pool []api.Val, put func() (api.Val, api.Val), n int)) {
	r := rand.New(rand.NewSource(7))
	for _, size := range []int{0, 1, 2, 4, 8, 16, 32, 64} {
		for turn := range 30 {
			pool := keys(3 * size)
			if turn%3 == 0 {
				pool = append(kin(r.Intn(size+1), size+1, size), kin(r.Intn(size+1), size/2, size)...)
			}
			r.Shuffle(len(pool), func(i, j int) { pool[i], pool[j] = pool[j], pool[i] })
			pool = pool[:min(len(pool), max(size/2, 1)<<r.Intn(3))]
			put := func() (api.Val, api.Val) {
				if r.Intn(4) == 0 {
					return pick(r, pool), nothing()
				}
				return pick(r, pool), pick(r, keys(1))
			}
			tell(size, pool, put, 4*size+8)
		}
	}
}

func TestNew_P7_1(t *testing.T) {
	for _, size := range sizes() {
		p, e := nodes.New(size)
		if e != api.OK || p == nil || p.Size() != size || p.Free() != size || len(p.Dump()) != size {
			t.Fatalf("New(%d): %v, %d", size, p, e)
		}
		for i, got := range p.Dump() {
			if got != (nodes.Node{}) || p.At(i) != got {
				t.Errorf("New(%d): node %d is %v", size, i, got)
			}
		}
	}
	refused := []int{math.MinInt64, math.MinInt64 + 1, -65536, -4, -2, -1, 3, 5, 6, 7, 9, 65535, 65537, 98304, 131072, 1 << 32, 1 << 62, math.MaxInt64}
	for _, size := range refused {
		if p, e := nodes.New(size); p != nil || e != api.ErrArg {
			t.Errorf("New(%d) = %v, %d", size, p, e)
		}
	}
	for size := range 70000 {
		if p, e := nodes.New(size); (e == api.OK) != slices.Contains(sizes(), size) || (p == nil) != (e == api.ErrArg) {
			t.Errorf("New(%d): %d", size, e)
		}
	}
}

// Each answer, and all that is to be seen behind each call, is the book's.
func TestCalls_P7_1(t *testing.T) {
	full := 0
	plays(func(size int, pool []api.Val, put func() (api.Val, api.Val), n int) {
		p, b := made(size), newBook(size)
		asked := append(append(keys(1), pool...), nothing())
		asked = append(asked, wrong()...)
		for range n {
			k, v := put()
			reads, e := p.Put(k, v)
			wantReads, want := b.put(k, v)
			if reads != wantReads || e != want || p.Free() != b.free || p.Size() != size || !slices.Equal(p.Dump(), b.dump()) {
				t.Fatalf("size %d: Put(%.40v, %.40v) = %d, %d, want %d, %d; free %d, want %d; %.40v, want %.40v", size, k, v, reads, e, wantReads, want, p.Free(), b.free, p.Dump(), b.dump())
			}
			if e == api.ErrFull {
				full++
			}
			for _, k := range asked {
				at, reads := p.Find(k)
				v, readsToo := p.Get(k)
				wantAt, wantReads := b.find(k)
				if want, _ := b.get(k); at != wantAt || reads != wantReads || v != want || readsToo != reads {
					t.Fatalf("size %d: Find(%.40v) = %d, %d, want %d, %d; Get %.40v, %d, want %.40v", size, k, at, reads, wantAt, wantReads, v, readsToo, want)
				}
			}
		}
		for i, want := range b.dump() {
			if p.At(i) != want {
				t.Fatalf("size %d: At(%d) = %.40v, want %.40v", size, i, p.At(i), want)
			}
		}
	})
	if full < 100 {
		t.Errorf("the scripts came to ErrFull only %d times", full)
	}
}

// The order of the errors, what is read beside them, and that a Put that is refused changes at most the free pointer.
func TestRefused_P7_1(t *testing.T) {
	for _, p := range []*nodes.Nodes{missing(), bare(), made(0), made(1), made(2), made(8)} {
		for _, k := range kin(0, 8, p.Size())[:p.Size()] {
			if _, e := p.Put(k, number(1)); e != api.OK {
				t.Fatalf("Put(%v): %d", k, e)
			}
		}
		before := p.Dump()
		for _, w := range wrong() {
			for _, other := range []api.Val{nothing(), number(0), number(99), w} {
				if reads, e := p.Put(w, other); reads != 0 || e != api.ErrForm {
					t.Errorf("Put(%.40v, %.40v) = %d, %d", w, other, reads, e)
				}
				if reads, e := p.Put(other, w); reads != 0 || e != api.ErrForm {
					t.Errorf("Put(%.40v, %.40v) = %d, %d", other, w, reads, e)
				}
			}
			if at, reads := p.Find(w); at != -1 || reads != 0 {
				t.Errorf("Find(%.40v) = %d, %d", w, at, reads)
			}
		}
		for _, v := range []api.Val{nothing(), number(1)} {
			if reads, e := p.Put(nothing(), v); reads != 0 || e != api.ErrKey {
				t.Errorf("Put(Nil, %v) = %d, %d", v, reads, e)
			}
		}
		free := p.Free()
		if reads, e := p.Put(text("new"), nothing()); e != api.OK || (reads == 0) != (p.Size() == 0) || p.Free() != free {
			t.Errorf("size %d: Put of Nil at a new key: %d, %d", p.Size(), reads, e)
		}
		if reads, e := p.Put(text("new"), number(1)); e != api.ErrFull || (reads == 0) != (p.Size() == 0) || p.Free() != 0 {
			t.Errorf("size %d: Put of a new key: %d, %d, free %d", p.Size(), reads, e, p.Free())
		}
		if !slices.Equal(p.Dump(), before) {
			t.Errorf("size %d: %v behind %v", p.Size(), p.Dump(), before)
		}
	}
}

func TestNoPart_P7_1(t *testing.T) {
	for _, p := range []*nodes.Nodes{missing(), bare(), made(0)} {
		if p.Size() != 0 || p.Free() != 0 || len(p.Dump()) != 0 {
			t.Errorf("no nodes: %d, %d, %v", p.Size(), p.Free(), p.Dump())
		}
		for _, k := range append(keys(20), nothing()) {
			at, reads := p.Find(k)
			v, readsToo := p.Get(k)
			if at != -1 || reads != 0 || v != nothing() || readsToo != 0 {
				t.Errorf("no nodes: Find(%.40v) = %d, %d; Get %.40v, %d", k, at, reads, v, readsToo)
			}
		}
		if reads, e := p.Put(number(1), number(1)); reads != 0 || e != api.ErrFull {
			t.Errorf("no nodes: Put = %d, %d", reads, e)
		}
		if reads, e := p.Put(number(1), nothing()); reads != 0 || e != api.OK {
			t.Errorf("no nodes: Put of Nil = %d, %d", reads, e)
		}
	}
	for _, p := range []*nodes.Nodes{missing(), bare(), made(0), made(1), made(4)} {
		for _, i := range []int{math.MinInt64, -1, p.Size(), p.Size() + 1, math.MaxInt64} {
			if p.At(i) != (nodes.Node{}) {
				t.Errorf("size %d: At(%d) = %v", p.Size(), i, p.At(i))
			}
		}
	}
}

// The examples go on from one another.
func TestExamples_P7_1(t *testing.T) {
	p := made(4)
	for i, c := range []struct {
		k, v        api.Val
		reads, free int
		err         api.Errno
		want        []nodes.Node
	}{
		{number(3), number(1), 1, 4, 0, []nodes.Node{node(3, 1, 0), {}, {}, {}}},
		{number(6), number(1), 1, 3, 0, []nodes.Node{node(3, 1, 3), {}, {}, node(6, 1, 0)}},
		{number(9), number(1), 2, 2, 0, []nodes.Node{node(3, 1, 2), {}, node(9, 1, 1), node(6, 1, 0)}},
		{number(2), number(1), 2, 1, 0, []nodes.Node{node(3, 1, 1), node(9, 1, 2), node(2, 1, 0), node(6, 1, 0)}},
		{number(5), number(1), 1, 0, api.ErrFull, []nodes.Node{node(3, 1, 1), node(9, 1, 2), node(2, 1, 0), node(6, 1, 0)}},
		{number(6), nothing(), 3, 0, 0, []nodes.Node{node(3, 1, 1), node(9, 1, 2), node(2, 1, 0), {Key: number(6)}}},
		{number(5), number(1), 1, 0, api.ErrFull, []nodes.Node{node(3, 1, 1), node(9, 1, 2), node(2, 1, 0), {Key: number(6)}}},
		{number(6), number(7), 3, 0, 0, []nodes.Node{node(3, 1, 1), node(9, 1, 2), node(2, 1, 0), node(6, 7, 0)}},
	} {
		reads, e := p.Put(c.k, c.v)
		if reads != c.reads || e != c.err || p.Free() != c.free || !slices.Equal(p.Dump(), c.want) {
			t.Errorf("step %d: %d, %d, free %d, %v", i, reads, e, p.Free(), p.Dump())
		}
		at, reads := p.Find(number(6))
		if want := [][2]int{{-1, 1}, {3, 2}, {3, 3}, {3, 3}, {3, 3}, {3, 3}, {3, 3}, {3, 3}}[i]; at != want[0] || reads != want[1] {
			t.Errorf("step %d: Find(6) = %d, %d, want %v", i, at, reads, want)
		}
	}
}

// ways: of each node that begins a chain, the nodes that are reached from it; nil, false if one is reached twice or isn't there.
func ways(all []nodes.Node) ([][]int, bool) {
	var out [][]int
	for m, first := range all {
		if first.Key == nothing() || mainOf(first.Key, len(all)) != m {
			continue
		}
		way := []int{m}
		for i := m; all[i].Next != 0; {
			i += all[i].Next
			if i < 0 || i >= len(all) || slices.Contains(way, i) || all[i].Key == nothing() {
				return nil, false
			}
			way = append(way, i)
		}
		out = append(out, way)
	}
	return out, true
}

func TestChains_P7_2(t *testing.T) {
	plays(func(size int, pool []api.Val, put func() (api.Val, api.Val), n int) {
		p := made(size)
		for range n {
			p.Put(put())
			all := p.Dump()
			chains, ok := ways(all)
			if !ok {
				t.Fatalf("size %d: a chain that doesn't end: %.40v", size, all)
			}
			held, seen := 0, map[api.Val]int{}
			for _, way := range chains {
				for n, i := range way {
					held++
					seen[all[i].Key]++
					at, reads := p.Find(all[i].Key)
					if mainOf(all[i].Key, size) != way[0] || seen[all[i].Key] > 1 || at != i || reads != n+1 {
						t.Fatalf("size %d: node %d in the chain %v: Find = %d, %d; %.40v", size, i, way, at, reads, all)
					}
				}
			}
			for i, one := range all {
				if one.Key != nothing() {
					held--
				} else if one != (nodes.Node{}) {
					t.Fatalf("size %d: node %d without a key: %v", size, i, one)
				}
			}
			if held != 0 {
				t.Fatalf("size %d: a key in no chain: %.40v", size, all)
			}
		}
	})
}

// A text of the greatest length is a key and a value like any other.
func TestLongest_P7_2(t *testing.T) {
	p := made(2)
	p.Put(text(longest[1:]), number(1))
	p.Put(text(longest), text(longest))
	at, _ := p.Find(text(longest))
	if v, _ := p.Get(text(longest)); v != text(longest) || p.At(at).Key != text(longest) {
		t.Errorf("the longest text is at node %d, with a value of %d bytes", at, len(v.S))
	}
	if v, _ := p.Get(text(longest[1:])); v != number(1) {
		t.Errorf("one byte less: %.40v", v)
	}
}

// A cleared key holds its node: it is found, is in nobody's way, and lives again at that node.
func TestDead_P7_2(t *testing.T) {
	p := made(8)
	pool := append(kin(0, 4, 8), kin(1, 4, 8)...)
	at := map[api.Val]int{}
	for _, k := range pool {
		p.Put(k, number(1))
	}
	for _, k := range pool {
		at[k], _ = p.Find(k)
		p.Put(k, nothing())
	}
	for _, k := range pool {
		i, reads := p.Find(k)
		if v, n := p.Get(k); i != at[k] || v != nothing() || n != reads || p.At(i).Key != k {
			t.Errorf("%v cleared: node %d, was %d; value %v", k, i, at[k], v)
		}
		if _, e := p.Put(k, nothing()); e != api.OK {
			t.Errorf("%v cleared twice: %d", k, e)
		}
	}
	if _, e := p.Put(number(2), number(1)); e != api.ErrFull {
		t.Errorf("a new key among the dead: %d", e)
	}
	for _, k := range pool {
		if _, e := p.Put(k, text("again")); e != api.OK || p.At(at[k]) != (nodes.Node{Key: k, Val: text("again"), Next: p.At(at[k]).Next}) {
			t.Errorf("%v set again: %d, %v", k, e, p.At(at[k]))
		}
	}
}

// Whatever the keys, the first size Puts of new ones succeed and the next is refused; nodes at or above the free pointer hold keys.
func TestRoom_P7_3(t *testing.T) {
	for _, size := range []int{1, 2, 4, 8, 64, 256, 1024} {
		mixed := keys(2*size + 2)
		rand.New(rand.NewSource(8)).Shuffle(len(mixed), func(i, j int) { mixed[i], mixed[j] = mixed[j], mixed[i] })
		turns := [][]api.Val{mixed, kin(0, size+1, size), kin(size-1, size+1, size), slices.Concat(kin(0, size/2, size), kin(1, size+1, size)), slices.Concat(kin(size, size/2, size), kin(size+size/2, size+1, size))}
		for n, pool := range turns {
			p := made(size)
			for i, k := range pool[:size] {
				if _, e := p.Put(k, number(i)); e != api.OK {
					t.Fatalf("size %d, turn %d: Put number %d: %d", size, n, i, e)
				}
				if i%2 == 0 {
					p.Put(k, nothing())
				}
				for j, one := range p.Dump()[p.Free():] {
					if one.Key == nothing() {
						t.Fatalf("size %d, turn %d: free %d, but node %d holds no key", size, n, p.Free(), p.Free()+j)
					}
				}
			}
			if _, e := p.Put(pool[size], number(1)); e != api.ErrFull || p.Free() != 0 {
				t.Errorf("size %d, turn %d: one more: %d, free %d", size, n, e, p.Free())
			}
		}
	}
}

func TestScripts_P7_3(t *testing.T) {
	plays(func(size int, pool []api.Val, put func() (api.Val, api.Val), n int) {
		p := made(size)
		for range n {
			room := slices.ContainsFunc(p.Dump(), func(n nodes.Node) bool { return n.Key == nothing() })
			if _, e := p.Put(put()); e == api.ErrFull && room {
				t.Fatalf("size %d: ErrFull with a node without a key", size)
			}
			for i := p.Free(); i < size; i++ {
				if p.At(i).Key == nothing() {
					t.Fatalf("size %d: free %d, but node %d holds no key", size, p.Free(), i)
				}
			}
		}
	})
}

func TestGreatest_P7_3(t *testing.T) {
	p := made(65536)
	for i := range 65536 {
		if _, e := p.Put(number(i-30000), number(i)); e != api.OK {
			t.Fatalf("Put(%d): %d", i-30000, e)
		}
	}
	for i := range 65536 {
		if v, _ := p.Get(number(i - 30000)); v != number(i) {
			t.Fatalf("Get(%d) = %v", i-30000, v)
		}
	}
	if _, e := p.Put(text("one more"), number(1)); e != api.ErrFull || p.Free() != 0 {
		t.Errorf("one more: %d, free %d", e, p.Free())
	}
}

// Answers are new memory; two parts share none.
func TestOwnMemory_P7_4(t *testing.T) {
	p, q := made(4), made(4)
	p.Put(number(3), text("a"))
	p.Put(number(6), text("b"))
	first := p.Dump()
	kept := slices.Clone(first)
	clear(first[:cap(first)])
	one := p.At(0)
	one.Key, one.Next = number(99), 1
	if !slices.Equal(p.Dump(), kept) || p.At(0) != kept[0] {
		t.Errorf("Dump: %v, and then %v", kept, p.Dump())
	}
	again := p.Dump()
	p.Put(number(3), text("c"))
	if !slices.Equal(again, kept) {
		t.Errorf("an answer was changed by a Put: %v", again)
	}
	if q.Free() != 4 || !slices.Equal(q.Dump(), make([]nodes.Node, 4)) {
		t.Errorf("another part: %d, %v", q.Free(), q.Dump())
	}
}

// Find, Get, At and Dump change nothing (R5), and no call panics at any argument.
func TestNoPanic_P1(t *testing.T) {
	numbers := []int{math.MinInt64, math.MinInt64 + 1, -1, 0, 1, 2, 3, 65536, 1 << 62, math.MaxInt64}
	values := append(append(keys(30), wrong()...), nothing(), text(longest))
	for _, p := range []*nodes.Nodes{missing(), bare(), made(0), made(1), made(2), made(4), made(65536)} {
		for _, k := range values {
			for _, v := range values {
				p.Put(k, v)
			}
			p.Put(k, number(1))
		}
		before, free := p.Dump(), p.Free()
		for _, k := range values {
			at, reads := p.Find(k)
			if again, n := p.Find(k); again != at || n != reads {
				t.Errorf("Find(%.40v) = %d, %d, and then %d, %d", k, at, reads, again, n)
			}
			p.Get(k)
		}
		for _, n := range numbers {
			p.At(n)
			nodes.New(n)
		}
		if !slices.Equal(p.Dump(), before) || p.Free() != free {
			t.Errorf("size %d: reading changed it", p.Size())
		}
	}
}
