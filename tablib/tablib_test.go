package tablib_test

import (
	"math"
	"math/big"
	"math/rand"
	"slices"
	"strconv"
	"strings"
	"testing"

	"trestle/api"
	"trestle/border"
	"trestle/heap"
	"trestle/nodes"
	"trestle/table"
	"trestle/tablib"
)

const (
	greatest = math.MaxInt64
	least    = math.MinInt64
)

func nothing() api.Val       { return api.Val{} }
func number(n int) api.Val   { return api.Val{Kind: api.Int, N: n} }
func text(s string) api.Val  { return api.Val{Kind: api.Str, S: s} }
func of(kind, n int) api.Val { return api.Val{Kind: kind, N: n} }
func missing() *table.Table  { return nil }
func made(array, hash int) *table.Table {
	h, _ := heap.New(400000)
	x, _ := table.New(h, array, hash)
	return x
}

// row: a table with these values from 1 on.
func row(vals ...api.Val) *table.Table {
	x := made(0, 0)
	for i, v := range vals {
		x.Set(number(i+1), v)
	}
	return x
}

func numbers(list ...int) []api.Val {
	var all []api.Val
	for _, n := range list {
		all = append(all, number(n))
	}
	return all
}

// powers: the powers of two, and the greatest number, in nodes: the length is the greatest number.
func powers() *table.Table {
	x := made(0, 128)
	for i := range 63 {
		x.Set(number(1<<i), number(i))
	}
	x.Set(number(greatest), text("end"))
	return x
}

// values: what stands at 1, 2, .. up to the length, told by Dump alone.
func values(x *table.Table) []api.Val {
	all := held(x)
	var list []api.Val
	for i := 1; all[number(i)] != nothing(); i++ {
		list = append(list, all[number(i)])
	}
	return list
}

// held: the table as a map, told by Dump alone.
func held(x *table.Table) map[api.Val]api.Val {
	all := map[api.Val]api.Val{}
	slots, chained := x.Dump()
	for i, v := range slots {
		if v != nothing() {
			all[number(i+1)] = v
		}
	}
	for _, n := range chained {
		if n.Val != nothing() {
			all[n.Key] = n.Val
		}
	}
	return all
}

// seen is all that can be seen of a table without changing it.
type seen struct {
	slots   []api.Val
	chained []nodes.Node
	stats   api.Stats
	probes  int
}

func look(x *table.Table) seen {
	slots, chained := x.Dump()
	return seen{slots, chained, x.Stats(), x.Probes()}
}

func (s seen) is(o seen) bool {
	return s.stats == o.stats && s.probes == o.probes && slices.Equal(s.slots, o.slots) && slices.Equal(s.chained, o.chained)
}

// The book: the chapter's words. Each call is a row of steps, which is cut off where the fuel is.
type move struct{ from, to int }

// carry: the steps, as far as the fuel goes.
func carry(a, b *table.Table, moves []move, fuel int) (int, api.Errno) {
	for i, m := range moves {
		if i == fuel {
			return i, api.ErrFuel
		}
		if e := b.Set(number(m.to), a.Get(number(m.from))); e != api.OK {
			return i + 1, e
		}
	}
	return len(moves), api.OK
}

func bookInsert(t *table.Table, pos int, v api.Val, fuel int) (int, api.Errno) {
	if t == nil || fuel < 0 {
		return 0, api.ErrArg
	}
	n := border.Len(t)
	if n == greatest {
		return 0, api.ErrBig
	}
	if pos < 1 || pos > n+1 {
		return 0, api.ErrArg
	}
	var moves []move
	for i := n; i >= pos && len(moves) <= fuel; i-- {
		moves = append(moves, move{i, i + 1})
	}
	made, e := carry(t, t, moves, fuel)
	if e == api.OK {
		e = t.Set(number(pos), v)
	}
	return made, e
}

func bookAppend(t *table.Table, v api.Val) api.Errno {
	if t == nil {
		return api.ErrArg
	}
	n := border.Len(t)
	if n == greatest {
		return api.ErrBig
	}
	return t.Set(number(n+1), v)
}

func bookRemove(t *table.Table, pos, fuel int) (api.Val, int, api.Errno) {
	if t == nil || fuel < 0 {
		return nothing(), 0, api.ErrArg
	}
	n := border.Len(t)
	if n == 0 && pos == 0 || n != greatest && pos == n+1 {
		v := t.Get(number(pos))
		if e := t.Set(number(pos), nothing()); e != api.OK {
			return nothing(), 0, e
		}
		return v, 0, api.OK
	}
	if pos < 1 || pos > n {
		return nothing(), 0, api.ErrArg
	}
	v := t.Get(number(pos))
	var moves []move
	for i := pos; i <= n-1 && len(moves) <= fuel; i++ {
		moves = append(moves, move{i + 1, i})
	}
	made, e := carry(t, t, moves, fuel)
	if e == api.OK {
		e = t.Set(number(n), nothing())
	}
	if e != api.OK {
		return nothing(), made, e
	}
	return v, made, api.OK
}

// away: high less low, exactly.
func away(low, high int) *big.Int {
	return new(big.Int).Sub(big.NewInt(int64(high)), big.NewInt(int64(low)))
}

// from: the numbers from i to j, at most so many.
func from(i, j, most int) []int {
	var all []int
	for n := range most {
		if away(i, j).Cmp(big.NewInt(int64(n))) < 0 {
			break
		}
		all = append(all, i+n)
	}
	return all
}

func bookConcat(t *table.Table, sep string, i, j, fuel int) (string, int, api.Errno) {
	if t == nil || fuel < 0 {
		return "", 0, api.ErrArg
	}
	whole := ""
	for n, k := range from(i, j, fuel+1) {
		if n == fuel {
			return "", n, api.ErrFuel
		}
		switch v := t.Get(number(k)); v.Kind {
		case api.Int:
			whole += strconv.Itoa(v.N)
		case api.Str:
			whole += v.S
		default:
			return "", n + 1, api.ErrType
		}
		if k != j {
			whole += sep
		}
		if len(whole) > 10000 {
			return "", n + 1, api.ErrBig
		}
	}
	return whole, len(from(i, j, fuel+1)), api.OK
}

func bookUnpack(t *table.Table, i, j int) ([]api.Val, api.Errno) {
	if t == nil {
		return nil, api.ErrArg
	}
	if away(i, j).Cmp(big.NewInt(200)) >= 0 {
		return nil, api.ErrBig
	}
	var all []api.Val
	for _, k := range from(i, j, 201) {
		all = append(all, t.Get(number(k)))
	}
	return all, api.OK
}

func bookMove(a, b *table.Table, f, e, p, fuel int) (int, api.Errno) {
	if a == nil || b == nil || fuel < 0 {
		return 0, api.ErrArg
	}
	if f > e {
		return 0, api.OK
	}
	far := away(f, e)
	end := new(big.Int).Add(far, big.NewInt(int64(p)))
	if far.Cmp(big.NewInt(1<<62)) > 0 || end.Cmp(big.NewInt(greatest)) > 0 {
		return 0, api.ErrBig
	}
	last := int(far.Int64())
	var moves []move
	if p > e || p <= f || a != b {
		for i := 0; i <= last && len(moves) <= fuel; i++ {
			moves = append(moves, move{f + i, p + i})
		}
	} else {
		for i := last; i >= 0 && len(moves) <= fuel; i-- {
			moves = append(moves, move{f + i, p + i})
		}
	}
	return carry(a, b, moves, fuel)
}

// twins are two tables on one heap, and two that are told the same.
type twins struct {
	heap, bookHeap *heap.Heap
	x, book        [2]*table.Table
}

func twinsOf(cells, array, hash int) twins {
	var w twins
	w.heap, _ = heap.New(cells)
	w.bookHeap, _ = heap.New(cells)
	for i := range w.x {
		w.x[i], _ = table.New(w.heap, array, hash)
		w.book[i], _ = table.New(w.bookHeap, array, hash)
	}
	return w
}

func (w twins) set(k, v api.Val) {
	for i := range w.x {
		w.x[i].Set(k, v)
		w.book[i].Set(k, v)
	}
}

func (w twins) same() bool {
	for i := range w.x {
		if !look(w.x[i]).is(look(w.book[i])) {
			return false
		}
	}
	return w.heap.Live() == w.bookHeap.Live() && w.heap.Laid() == w.bookHeap.Laid() && slices.Equal(w.heap.Blocks(), w.bookHeap.Blocks())
}

// value: mostly a number or a text, now and then another kind.
func value(r *rand.Rand) api.Val {
	all := []api.Val{number(r.Intn(100)), number(-r.Intn(100)), text("a"), text(""), text("\xff"), text(strings.Repeat("y", r.Intn(3000))), number(least)}
	if r.Intn(12) == 0 {
		all = []api.Val{nothing(), of(api.Bool, 0), of(api.Bool, 1), of(api.Tab, 1), of(api.Fun, 2), of(api.Lib, 3)}
	}
	return all[r.Intn(len(all))]
}

// wrong: values that aren't in form.
func wrong() []api.Val {
	return []api.Val{of(-1, 0), of(7, 1), of(api.Nil, 1), of(api.Bool, 2), {Kind: api.Int, N: 1, S: "x"}, text(strings.Repeat("x", 10001)), of(api.Tab, 0)}
}

// place: mostly one at or beside the row.
func place(r *rand.Rand, n int) int {
	if r.Intn(12) == 0 {
		far := []int{least, least + 1, -1 << 62, 1<<62 - 1, 1 << 62, 1<<62 + 1, greatest - 1, greatest}
		return far[r.Intn(len(far))]
	}
	return r.Intn(min(n, 40)+5) - 2
}

// play: one call, made and by the book; what it was, and whether both answered the same.
func (w twins) play(r *rand.Rand) (string, api.Errno, bool) {
	n := len(values(w.x[0]))
	v, fuel, pos := value(r), r.Intn(n+8)-1, place(r, n)
	if r.Intn(15) == 0 {
		v = wrong()[r.Intn(len(wrong()))]
	}
	i, j := place(r, n), place(r, n)
	switch r.Intn(6) {
	case 0:
		made, e := tablib.Insert(w.x[0], pos, v, fuel)
		want, wantE := bookInsert(w.book[0], pos, v, fuel)
		return "Insert", e, made == want && e == wantE
	case 1:
		e := tablib.Append(w.x[0], v)
		return "Append", e, e == bookAppend(w.book[0], v)
	case 2:
		got, made, e := tablib.Remove(w.x[0], pos, fuel)
		want, wantMade, wantE := bookRemove(w.book[0], pos, fuel)
		return "Remove", e, got == want && made == wantMade && e == wantE
	case 3:
		sep := strings.Repeat(",", r.Intn(3))
		got, made, e := tablib.Concat(w.x[0], sep, i, j, fuel)
		want, wantMade, wantE := bookConcat(w.book[0], sep, i, j, fuel)
		return "Concat", e, got == want && made == wantMade && e == wantE
	case 4:
		got, e := tablib.Unpack(w.x[0], i, j)
		want, wantE := bookUnpack(w.book[0], i, j)
		return "Unpack", e, slices.Equal(got, want) && e == wantE
	}
	a, b := r.Intn(2), r.Intn(2)
	made, e := tablib.Move(w.x[a], w.x[b], i, j, pos, fuel)
	want, wantE := bookMove(w.book[a], w.book[b], i, j, pos, fuel)
	return "Move", e, made == want && e == wantE
}

// All calls answer what the book answers, and leave tables, probes and cells as the book does; each kind of error is met.
func TestCalls_P15_1(t *testing.T) {
	r := rand.New(rand.NewSource(15))
	met := map[string]int{}
	for range 1500 {
		cells := 400000
		if r.Intn(3) == 0 {
			cells = 60 + r.Intn(200)
		}
		w := twinsOf(cells, r.Intn(8), r.Intn(6))
		for i := range r.Intn(30) {
			w.set(number(i+1), value(r))
			switch r.Intn(20) {
			case 0:
				w.set(number(r.Intn(60)-20), value(r))
			case 1:
				w.set(text(strconv.Itoa(i)), value(r))
			}
		}
		for range 25 {
			name, e, same := w.play(r)
			if !same || !w.same() {
				t.Fatalf("%s: %d: not as the book", name, e)
			}
			met[name+" "+strconv.Itoa(int(e))]++
		}
	}
	for name, errors := range map[string][]api.Errno{
		"Insert": {api.OK, api.ErrArg, api.ErrFuel, api.ErrForm, api.ErrCells},
		"Append": {api.OK, api.ErrForm, api.ErrCells},
		"Remove": {api.OK, api.ErrArg, api.ErrFuel},
		"Concat": {api.OK, api.ErrArg, api.ErrFuel, api.ErrType, api.ErrBig},
		"Unpack": {api.OK, api.ErrBig},
		"Move":   {api.OK, api.ErrArg, api.ErrFuel, api.ErrBig, api.ErrCells},
	} {
		for _, e := range errors {
			if met[name+" "+strconv.Itoa(int(e))] < 3 {
				t.Errorf("%s: the error %d was met %d times", name, e, met[name+" "+strconv.Itoa(int(e))])
			}
		}
	}
}

func TestExamples_P15_1(t *testing.T) {
	one := row(numbers(1, 2, 3)...)
	if made, e := tablib.Insert(one, 2, number(9), 100); made != 2 || e != api.OK || !slices.Equal(values(one), numbers(1, 9, 2, 3)) {
		t.Errorf("Insert: %d, %d, %v", made, e, values(one))
	}
	if made, e := tablib.Insert(one, 6, number(9), 100); made != 0 || e != api.ErrArg {
		t.Errorf("Insert at 6: %d, %d", made, e)
	}
	if made, e := tablib.Insert(one, 1, number(0), 1); made != 1 || e != api.ErrFuel || !slices.Equal(values(one), numbers(1, 9, 2, 3, 3)) {
		t.Errorf("Insert with 1 step: %d, %d, %v", made, e, values(one))
	}
	if v, made, e := tablib.Remove(one, 1, 100); v != number(1) || made != 4 || e != api.OK || !slices.Equal(values(one), numbers(9, 2, 3, 3)) {
		t.Errorf("Remove: %v, %d, %d, %v", v, made, e, values(one))
	}
	two := row(text("a"), number(2), text("c"))
	for _, c := range []struct {
		i, j, fuel int
		want       string
		made       int
		e          api.Errno
	}{{1, 3, 9, "a-2-c", 3, api.OK}, {1, 4, 9, "", 4, api.ErrType}, {3, 1, 0, "", 0, api.OK}} {
		if s, made, e := tablib.Concat(two, "-", c.i, c.j, c.fuel); s != c.want || made != c.made || e != c.e {
			t.Errorf("Concat from %d to %d: %q, %d, %d", c.i, c.j, s, made, e)
		}
	}
	if all, e := tablib.Unpack(two, 2, 3); !slices.Equal(all, []api.Val{number(2), text("c")}) || e != api.OK {
		t.Errorf("Unpack: %v, %d", all, e)
	}
	if all, e := tablib.Unpack(two, 1, 300); len(all) != 0 || e != api.ErrBig {
		t.Errorf("Unpack of 300: %v, %d", all, e)
	}
	for pos, want := range map[int]api.Errno{0: api.OK, 1: api.OK, 2: api.ErrArg} {
		if v, made, e := tablib.Remove(made(0, 0), pos, 0); v != nothing() || made != 0 || e != want {
			t.Errorf("Remove of %d from none: %v, %d, %d", pos, v, made, e)
		}
	}
}

// ErrArg comes ahead of all: of a nil table, of fuel below 0; and nothing is read or done then.
func TestArguments_P15_1(t *testing.T) {
	x := made(0, 8)
	for _, k := range []int{1, 2, 3, 9} {
		x.Set(number(k), text("v"))
	}
	before := look(x)
	for _, fuel := range []int{-1, least, 0, 5} {
		for _, c := range []struct{ a, b *table.Table }{{missing(), missing()}, {missing(), x}, {x, missing()}, {x, x}} {
			if c.a == x && c.b == x && fuel >= 0 {
				continue
			}
			for _, ends := range [][2]int{{1, 3}, {3, 1}, {least, greatest}} {
				if made, e := tablib.Move(c.a, c.b, ends[0], ends[1], 1, fuel); made != 0 || e != api.ErrArg {
					t.Errorf("Move(%v) with fuel %d: %d, %d", ends, fuel, made, e)
				}
			}
		}
		for _, y := range []*table.Table{missing(), x} {
			if y == x && fuel >= 0 {
				continue
			}
			if made, e := tablib.Insert(y, 1, number(1), fuel); made != 0 || e != api.ErrArg {
				t.Errorf("Insert with fuel %d: %d, %d", fuel, made, e)
			}
			if v, made, e := tablib.Remove(y, 1, fuel); v != nothing() || made != 0 || e != api.ErrArg {
				t.Errorf("Remove with fuel %d: %v, %d, %d", fuel, v, made, e)
			}
			for _, j := range []int{0, 1, 2} {
				if s, made, e := tablib.Concat(y, "-", 1, j, fuel); s != "" || made != 0 || e != api.ErrArg {
					t.Errorf("Concat with fuel %d: %q, %d, %d", fuel, s, made, e)
				}
			}
		}
	}
	if e := tablib.Append(missing(), number(1)); e != api.ErrArg {
		t.Errorf("Append to nil: %d", e)
	}
	for _, ends := range [][2]int{{1, 2}, {2, 1}, {1, 300}} {
		if all, e := tablib.Unpack(missing(), ends[0], ends[1]); len(all) != 0 || e != api.ErrArg {
			t.Errorf("Unpack of nil: %v, %d", all, e)
		}
	}
	if tablib.Last(missing()) != 0 {
		t.Errorf("Last of nil: %d", tablib.Last(missing()))
	}
	if !look(x).is(before) {
		t.Error("a refused call was seen in the table")
	}
}

// Last is the length, with what it leaves of hint and probes.
func TestLast_P15_1(t *testing.T) {
	for _, n := range []int{0, 1, 2, 3, 4, 5, 17} {
		for _, size := range [][2]int{{0, 0}, {20, 0}, {0, 20}, {3, 20}} {
			x, twin := made(size[0], size[1]), made(size[0], size[1])
			for i := range n {
				x.Set(number(i+1), text("v"))
				twin.Set(number(i+1), text("v"))
			}
			if got, want := tablib.Last(x), border.Len(twin); got != n || want != n || !look(x).is(look(twin)) {
				t.Errorf("1 to %d in %v: %d, %v", n, twin.Stats(), got, x.Stats())
			}
		}
	}
}

// A row whose length is the greatest number: there is no place behind it.
func TestGreatest_P15_1(t *testing.T) {
	for _, pos := range []int{least, 0, 1, 5, greatest} {
		if made, e := tablib.Insert(powers(), pos, number(1), 5); made != 0 || e != api.ErrBig {
			t.Errorf("Insert at %d: %d, %d", pos, made, e)
		}
	}
	if e := tablib.Append(powers(), number(1)); e != api.ErrBig {
		t.Errorf("Append: %d", e)
	}
	for pos, want := range map[int]api.Errno{least: api.ErrArg, least + 1: api.ErrArg, -1: api.ErrArg, 0: api.ErrArg, 1: api.ErrFuel, greatest - 5: api.ErrFuel, greatest - 4: api.OK, greatest: api.OK} {
		x := powers()
		v, made, e := tablib.Remove(x, pos, 4)
		if e != want || want == api.OK && (made != greatest-pos || v != powers().Get(number(pos))) || want == api.ErrFuel && (made != 4 || v != nothing()) {
			t.Errorf("Remove of %d: %v, %d, %d", pos, v, made, e)
		}
		if want == api.OK && held(x)[number(greatest)] != nothing() {
			t.Errorf("Remove of %d: the last one is there", pos)
		}
	}
	x := powers()
	x.Set(number(greatest), nothing())
	if n := tablib.Last(x); n != 1<<62 {
		t.Fatalf("Last = %d", n)
	}
	if made, e := tablib.Insert(x, 1<<62-1, text("in"), 9); made != 2 || e != api.OK || held(x)[number(1<<62+1)] != number(62) {
		t.Errorf("Insert at 2^62 - 1: %d, %d", made, e)
	}
}

// Remove beside the row: the place behind it, and 0 of a table without one, where there may be a value too.
func TestRemoveBeside_P15_1(t *testing.T) {
	x := made(0, 4)
	x.Set(number(0), text("nought"))
	x.Set(number(5), text("five"))
	if v, made, e := tablib.Remove(x, 0, 0); v != text("nought") || made != 0 || e != api.OK || held(x)[number(0)] != nothing() {
		t.Errorf("Remove of 0: %v, %d, %d", v, made, e)
	}
	y := row(numbers(1, 2)...)
	y.Set(number(0), text("nought"))
	for pos, want := range map[int]api.Errno{-1: api.ErrArg, 0: api.ErrArg, 3: api.OK, 4: api.ErrArg, least: api.ErrArg, greatest: api.ErrArg} {
		if v, made, e := tablib.Remove(y, pos, 0); v != nothing() || made != 0 || e != want || len(values(y)) != 2 || held(y)[number(0)] != text("nought") {
			t.Errorf("Remove of %d: %v, %d, %d", pos, v, made, e)
		}
	}
}

// A Set that is refused ends the call with its error; its step was made, and what was set ahead stays.
func TestRefused_P15_1(t *testing.T) {
	full := func(keys ...int) *table.Table {
		h, _ := heap.New(4 + 3*4)
		x, _ := table.New(h, 0, 4)
		for _, k := range keys {
			x.Set(number(k), number(10*k))
		}
		return x
	}
	x := full(1, 2, 3, 4)
	if made, e := tablib.Insert(x, 2, number(9), 9); made != 1 || e != api.ErrCells || !slices.Equal(values(x), numbers(10, 20, 30, 40)) {
		t.Errorf("Insert: %d, %d, %v", made, e, values(x))
	}
	if e := tablib.Append(x, number(9)); e != api.ErrCells {
		t.Errorf("Append: %d", e)
	}
	y := row(numbers(1, 2, 3)...)
	if made, e := tablib.Move(y, x, 1, 3, 3, 9); made != 3 || e != api.ErrCells || !slices.Equal(values(x), numbers(10, 20, 1, 2)) {
		t.Errorf("Move: %d, %d, %v", made, e, values(x))
	}
	// The length is 4, by doubling; the third step gives 3, which isn't there, what 4 has.
	z := full(1, 2, 4, -1)
	if v, made, e := tablib.Remove(z, 1, 9); v != nothing() || made != 3 || e != api.ErrCells || !equal(held(z), map[api.Val]api.Val{number(1): number(20), number(4): number(40), number(-1): number(-10)}) {
		t.Errorf("Remove: %v, %d, %d, %v", v, made, e, held(z))
	}
	for _, w := range wrong() {
		u := row(numbers(1, 2, 3)...)
		if made, e := tablib.Insert(u, 2, w, 9); made != 2 || e != api.ErrForm || !slices.Equal(values(u), numbers(1, 2, 2, 3)) {
			t.Errorf("Insert of %.40v: %d, %d, %v", w, made, e, values(u))
		}
		if e := tablib.Append(u, w); e != api.ErrForm || len(values(u)) != 4 {
			t.Errorf("Append of %.40v: %d", w, e)
		}
	}
}

// Concat: what is a part of a text, how long it may be, and how the errors come one behind the other.
func TestConcat_P15_1(t *testing.T) {
	half := text(strings.Repeat("h", 5000))
	all := row(half, text(strings.Repeat("g", 4999)), number(-7), text("\xff\x00"), text(""))
	for _, c := range []struct {
		sep        string
		i, j, fuel int
		want       string
		made       int
		e          api.Errno
	}{
		{"", 1, 2, 2, half.S + strings.Repeat("g", 4999), 2, api.OK},
		{"-", 1, 2, 2, half.S + "-" + strings.Repeat("g", 4999), 2, api.OK},
		{"--", 1, 2, 2, "", 2, api.ErrBig},
		{"--", 1, 2, 1, "", 1, api.ErrFuel},
		{"-", 1, 3, 2, "", 2, api.ErrBig}, // the sep behind the second one is one byte too much
		{"", 1, 3, 2, "", 2, api.ErrFuel},
		{"", 1, 3, 3, "", 3, api.ErrBig},
		{strings.Repeat("s", 5001), 1, 6, 9, "", 1, api.ErrBig},
		{strings.Repeat("s", 20000), 1, 1, 9, half.S, 1, api.OK},
		{strings.Repeat("s", 20000), 3, 3, 1, "-7", 1, api.OK},
		{strings.Repeat("s", 20000), 9, 9, 1, "", 1, api.ErrType},
		{strings.Repeat("s", 20000), 9, 9, 0, "", 0, api.ErrFuel},
		{"\xfe", 3, 5, 3, "-7\xfe\xff\x00\xfe", 3, api.OK},
		{"-", 5, 6, 9, "", 2, api.ErrType},
		{"-", 0, 1, 9, "", 1, api.ErrType},
		{"-", greatest, greatest, 9, "", 1, api.ErrType},
		{"-", least, greatest, 9, "", 1, api.ErrType},
		{"-", greatest, least, 9, "", 0, api.OK},
		{"-", 2, 1, 0, "", 0, api.OK},
	} {
		if s, made, e := tablib.Concat(all, c.sep, c.i, c.j, c.fuel); s != c.want || made != c.made || e != c.e {
			t.Errorf("Concat(%.9q, %d, %d, %d) = %.20q, %d, %d", c.sep, c.i, c.j, c.fuel, s, made, e)
		}
	}
	for _, v := range []api.Val{of(api.Bool, 0), of(api.Bool, 1), of(api.Tab, 1), of(api.Fun, 1), of(api.Lib, 1)} {
		if s, made, e := tablib.Concat(row(number(1), v), "", 1, 2, 9); s != "" || made != 2 || e != api.ErrType {
			t.Errorf("Concat of %v: %q, %d, %d", v, s, made, e)
		}
	}
	edge := made(0, 4)
	edge.Set(number(greatest-1), text("a"))
	edge.Set(number(greatest), text("b"))
	edge.Set(number(least), text("c"))
	if s, made, e := tablib.Concat(edge, ",", greatest-1, greatest, 9); s != "a,b" || made != 2 || e != api.OK {
		t.Errorf("at the greatest number: %q, %d, %d", s, made, e)
	}
	if s, made, e := tablib.Concat(edge, ",", least, least, 9); s != "c" || made != 1 || e != api.OK {
		t.Errorf("at the least number: %q, %d, %d", s, made, e)
	}
}

// Unpack: 200 values at most, Nils among them, at both ends of the numbers too.
func TestUnpack_P15_1(t *testing.T) {
	x := row(numbers(1, 2, 3)...)
	x.Set(number(greatest), text("top"))
	x.Set(number(least), text("bottom"))
	for _, c := range []struct {
		i, j, n int
		e       api.Errno
	}{{1, 200, 200, api.OK}, {1, 201, 0, api.ErrBig}, {0, 199, 200, api.OK}, {-199, 0, 200, api.OK}, {-199, 1, 0, api.ErrBig}, {2, 1, 0, api.OK}, {1, 1, 1, api.OK}, {greatest, greatest, 1, api.OK}, {greatest - 199, greatest, 200, api.OK}, {greatest - 200, greatest, 0, api.ErrBig}, {least, least + 199, 200, api.OK}, {least, least + 200, 0, api.ErrBig}, {least, greatest, 0, api.ErrBig}, {greatest, least, 0, api.OK}, {-1, greatest, 0, api.ErrBig}, {least, 0, 0, api.ErrBig}} {
		all, e := tablib.Unpack(x, c.i, c.j)
		if len(all) != c.n || e != c.e {
			t.Errorf("Unpack(%d, %d): %d values, %d", c.i, c.j, len(all), e)
		}
		for i, v := range all {
			if v != x.Get(number(c.i+i)) {
				t.Errorf("Unpack(%d, %d): %v at %d", c.i, c.j, v, i)
			}
		}
	}
}

// Move: how far it may go, and which way round.
func TestMove_P15_1(t *testing.T) {
	for _, c := range []struct {
		f, e, p, fuel int
		made          int
		want          api.Errno
	}{
		{2, 1, greatest, 0, 0, api.OK},
		{greatest, least, greatest, 0, 0, api.OK},
		{1, 1, greatest, 1, 1, api.OK},
		{1, 2, greatest, 9, 0, api.ErrBig},
		{1, 2, greatest - 1, 9, 2, api.OK},
		{0, 1 << 62, 0, 3, 3, api.ErrFuel},
		{-1, 1 << 62, 0, 3, 0, api.ErrBig},
		{0, 1<<62 + 1, least, 3, 0, api.ErrBig},
		{least, least + 1<<62, least, 3, 3, api.ErrFuel},
		{least, greatest, least, 3, 0, api.ErrBig},
		{0, 1 << 62, 1<<62 - 1, 3, 3, api.ErrFuel},
		{0, 1 << 62, 1 << 62, 3, 0, api.ErrBig},
		{1, 3, 2, 2, 2, api.ErrFuel},
		{1, 3, 2, 0, 0, api.ErrFuel},
		{least, least + 1, greatest - 1, 9, 2, api.OK},
		{greatest, greatest, least, 9, 1, api.OK},
	} {
		x := row(numbers(1, 2, 3)...)
		if made, e := tablib.Move(x, x, c.f, c.e, c.p, c.fuel); made != c.made || e != c.want {
			t.Errorf("Move(%d, %d, %d) with %d: %d, %d", c.f, c.e, c.p, c.fuel, made, e)
		}
	}
	down := row(numbers(1, 2, 3, 4)...)
	tablib.Move(down, down, 1, 3, 2, 1)
	up := row(numbers(1, 2, 3, 4)...)
	tablib.Move(up, up, 2, 4, 1, 1)
	over, other := row(numbers(1, 2, 3, 4)...), row(numbers(5, 6, 7, 8)...)
	tablib.Move(over, other, 1, 3, 2, 1)
	if !slices.Equal(values(down), numbers(1, 2, 3, 3)) || !slices.Equal(values(up), numbers(2, 2, 3, 4)) || !slices.Equal(values(other), numbers(5, 1, 7, 8)) {
		t.Errorf("the first step: %v, %v, %v", values(down), values(up), values(other))
	}
}

// On a row Insert and Remove are what they are on a list.
func TestList_P15_2(t *testing.T) {
	r := rand.New(rand.NewSource(16))
	for range 60 {
		x, list := made(r.Intn(5), r.Intn(5)), []api.Val{}
		for step := range 150 {
			v := number(step)
			switch pos := 1 + r.Intn(len(list)+1); {
			case r.Intn(5) == 0:
				if e := tablib.Append(x, v); e != api.OK {
					t.Fatalf("Append: %d", e)
				}
				list = append(list, v)
			case r.Intn(2) == 0 && len(list) < 60:
				if made, e := tablib.Insert(x, pos, v, 100); made != len(list)+1-pos || e != api.OK {
					t.Fatalf("Insert at %d of %d: %d, %d", pos, len(list), made, e)
				}
				list = slices.Insert(list, pos-1, v)
			case pos <= len(list):
				got, made, e := tablib.Remove(x, pos, 100)
				if got != list[pos-1] || made != len(list)-pos || e != api.OK {
					t.Fatalf("Remove of %d of %d: %v, %d, %d", pos, len(list), got, made, e)
				}
				list = slices.Delete(list, pos-1, pos)
			}
			if !slices.Equal(values(x), list) || len(held(x)) != len(list) || tablib.Last(x) != len(list) {
				t.Fatalf("%v, want %v", values(x), list)
			}
		}
	}
}

// Insert at a place and Remove of it leave the row as it was.
func TestBack_P15_2(t *testing.T) {
	for n := range 20 {
		for pos := 1; pos <= n+1; pos++ {
			x := made(n/2, n%3)
			for i := range n {
				x.Set(number(i+1), text(strconv.Itoa(i)))
			}
			before := values(x)
			tablib.Insert(x, pos, text("new"), n)
			if !slices.Equal(values(x), slices.Insert(slices.Clone(before), pos-1, text("new"))) {
				t.Fatalf("Insert at %d of %d: %v", pos, n, values(x))
			}
			if v, _, e := tablib.Remove(x, pos, n); v != text("new") || e != api.OK || !slices.Equal(values(x), before) || len(held(x)) != n {
				t.Fatalf("Remove of %d of %d: %v, %d, %v", pos, n, v, e, values(x))
			}
		}
	}
}

// Concat and Unpack change nothing but probes, which are those of the Gets.
func TestReadOnly_P15_3(t *testing.T) {
	r := rand.New(rand.NewSource(17))
	for range 500 {
		x := made(r.Intn(5), r.Intn(9))
		for range r.Intn(20) {
			x.Set(number(r.Intn(25)-5), value(r))
		}
		before := look(x)
		i := r.Intn(20) - 5
		j := i + r.Intn(12) - 1
		_, steps, _ := tablib.Concat(x, ",", i, j, r.Intn(14))
		tablib.Unpack(x, i, j)
		after := look(x)
		at := x.Probes()
		for k := range steps {
			x.Get(number(i + k))
		}
		for k := i; k <= j; k++ {
			x.Get(number(k))
		}
		before.probes += x.Probes() - at
		if !after.is(before) {
			t.Fatalf("from %d to %d: %v, want %v", i, j, after, before)
		}
	}
}

// Move within a table moves all as if it read first and wrote then; between two tables too.
func TestMoveAtOnce_P15_3(t *testing.T) {
	for f := -3; f <= 6; f++ {
		for e := f - 1; e <= 9; e++ {
			for p := -4; p <= 11; p++ {
				x, y := made(3, 4), made(2, 2)
				for i := -2; i <= 7; i++ {
					if i != 4 {
						x.Set(number(i), number(100+i))
					}
					y.Set(number(i), text(strconv.Itoa(i)))
				}
				want, over := held(x), held(y)
				source := held(x)
				for i := f; i <= e; i++ {
					for _, m := range []map[api.Val]api.Val{want, over} {
						if v := source[number(i)]; v != nothing() {
							m[number(p+i-f)] = v
						} else {
							delete(m, number(p+i-f))
						}
					}
				}
				steps := max(e-f+1, 0)
				if made, err := tablib.Move(x, y, f, e, p, steps); made != steps || err != api.OK || !equal(held(y), over) || !equal(held(x), source) {
					t.Fatalf("Move(%d, %d, %d) to another: %d, %d", f, e, p, made, err)
				}
				if made, err := tablib.Move(x, x, f, e, p, steps); made != steps || err != api.OK || !equal(held(x), want) {
					t.Fatalf("Move(%d, %d, %d): %d, %d: %v, want %v", f, e, p, made, err, held(x), want)
				}
			}
		}
	}
}

func equal(a, b map[api.Val]api.Val) bool {
	if len(a) != len(b) {
		return false
	}
	for k, v := range a {
		if b[k] != v {
			return false
		}
	}
	return true
}

// No call panics and each ends, at the ends of all numbers, of a table that no New made too.
func TestNoPanic_P1(t *testing.T) {
	edges := []int{least, least + 1, -201, -1, 0, 1, 2, 200, 1 << 62, greatest - 1, greatest}
	for _, fresh := range []func() *table.Table{missing, func() *table.Table { return new(table.Table) }, func() *table.Table { return made(0, 0) }, powers, func() *table.Table { return row(numbers(1, 2, 3)...) }} {
		for _, fuel := range []int{least, -1, 0, 3} {
			for _, i := range edges {
				tablib.Insert(fresh(), i, number(1), fuel)
				tablib.Remove(fresh(), i, fuel)
				for _, j := range edges {
					x := fresh()
					tablib.Concat(x, "-", i, j, fuel)
					tablib.Unpack(x, i, j)
					for _, p := range edges {
						tablib.Move(x, x, i, j, p, fuel)
					}
				}
			}
		}
		for _, v := range append(wrong(), nothing(), number(1)) {
			tablib.Append(fresh(), v)
			tablib.Insert(fresh(), 1, v, 9)
		}
		tablib.Last(fresh())
	}
	for _, fuel := range []int{greatest - 1, greatest} {
		if made, e := tablib.Insert(row(numbers(1, 2, 3)...), 1, number(0), fuel); made != 3 || e != api.OK {
			t.Errorf("Insert with all fuel: %d, %d", made, e)
		}
		if s, made, e := tablib.Concat(row(numbers(1, 2, 3)...), "", 1, 3, fuel); s != "123" || made != 3 || e != api.OK {
			t.Errorf("Concat with all fuel: %q, %d, %d", s, made, e)
		}
	}
}

// What Unpack answers is new memory: it may be changed, and what is answered next is as it was.
func TestNewMemory_R3(t *testing.T) {
	x := row(numbers(1, 2, 3)...)
	first, _ := tablib.Unpack(x, 1, 3)
	second, _ := tablib.Unpack(x, 1, 3)
	for i := range first {
		first[i] = text("changed")
	}
	_ = append(first[:0], numbers(7, 8, 9)...)
	third, _ := tablib.Unpack(x, 1, 3)
	for _, all := range [][]api.Val{second, third, values(x)} {
		if !slices.Equal(all, numbers(1, 2, 3)) {
			t.Errorf("%v", all)
		}
	}
}
