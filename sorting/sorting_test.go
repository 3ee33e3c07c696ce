package sorting_test

import (
	"math"
	"math/big"
	"math/rand"
	"slices"
	"strconv"
	"testing"

	"trestle/api"
	"trestle/box"
	"trestle/heap"
	"trestle/sorting"
	"trestle/table"
)

const greatest = math.MaxInt64

func nothing() api.Val      { return api.Val{} }
func number(n int) api.Val  { return api.Val{Kind: api.Int, N: n} }
func text(s string) api.Val { return api.Val{Kind: api.Str, S: s} }
func missing() *table.Table { return nil }
func made(array, hash int) *table.Table {
	h, _ := heap.New(400000)
	x, _ := table.New(h, array, hash)
	return x
}

// row: a table with these values from 1 on.
func row(vals ...api.Val) *table.Table {
	x := made(0, 0)
	for i, v := range vals {
		x.Set(number(i+1), v)
	}
	return x
}

func numbers(list ...int) []api.Val {
	var all []api.Val
	for _, n := range list {
		all = append(all, number(n))
	}
	return all
}

// values: what stands at 1 to n.
func values(x *table.Table, n int) []api.Val {
	var all []api.Val
	for i := range n {
		all = append(all, x.Get(number(i+1)))
	}
	return all
}

// compare: an order of all values, for the tests alone.
func compare(a, b api.Val) int {
	switch {
	case a.Kind != b.Kind:
		return a.Kind - b.Kind
	case a.N < b.N || a.S < b.S:
		return -1
	case a == b:
		return 0
	}
	return 1
}

// bag: the values in the tests' order: two that hold the same, each as often, are equal.
func bag(vals []api.Val) []api.Val { return slices.SortedFunc(slices.Values(vals), compare) }

// same: is all that can be seen of both tables the same?
func same(a, b *table.Table) bool {
	slots, chained := a.Dump()
	otherSlots, other := b.Dump()
	return a.Stats() == b.Stats() && a.Probes() == b.Probes() && slices.Equal(slots, otherSlots) && slices.Equal(chained, other)
}

// book is the chapter's work as it stands there, recursion and all; it gives up by a panic with the error.
type book struct {
	t   *table.Table
	ask func(a, b api.Val) bool
}

type stop struct{ e api.Errno }

func (b book) at(i int) api.Val { return b.t.Get(number(i)) }
func (b book) has(i int, v api.Val) {
	if e := b.t.Set(number(i), v); e != api.OK {
		panic(stop{e})
	}
}

func (b book) sort(lo, up int) {
	for lo < up {
		x, y := b.at(lo), b.at(up)
		if b.ask(y, x) {
			b.has(lo, y)
			b.has(up, x)
		}
		if up-lo == 1 {
			return
		}
		sum := new(big.Int).Add(big.NewInt(int64(lo)), big.NewInt(int64(up)))
		p := int(sum.Div(sum, big.NewInt(2)).Int64())
		x, y = b.at(p), b.at(lo)
		if b.ask(x, y) {
			b.has(p, y)
			b.has(lo, x)
		} else {
			y = b.at(up)
			if b.ask(y, x) {
				b.has(p, y)
				b.has(up, x)
			}
		}
		if up-lo == 2 {
			return
		}
		i := b.parted(lo, p, up)
		if i-lo < up-i {
			b.sort(lo, i-1)
			lo = i + 1
		} else {
			b.sort(i+1, up)
			up = i - 1
		}
	}
}

// parted: 5 to 7; where the pivot came to stand.
func (b book) parted(lo, p, up int) int {
	pivot, y := b.at(p), b.at(up-1)
	b.has(p, y)
	b.has(up-1, pivot)
	i, j := lo, up-1
	for {
		i++
		x := b.at(i)
		for b.ask(x, pivot) {
			if i == up-1 {
				panic(stop{api.ErrOrder})
			}
			i++
			x = b.at(i)
		}
		j--
		y := b.at(j)
		for b.ask(pivot, y) {
			if j < i {
				panic(stop{api.ErrOrder})
			}
			j--
			y = b.at(j)
		}
		if j < i {
			break
		}
		b.has(i, y)
		b.has(j, x)
	}
	x, y := b.at(up-1), b.at(i)
	b.has(up-1, y)
	b.has(i, x)
	return i
}

// run: the whole work; its error.
func (b book) run(n int) (e api.Errno) {
	defer func() {
		if s, ok := recover().(stop); ok {
			e = s.e
		}
	}()
	b.sort(1, n)
	return api.OK
}

// enough ends a book's work from outside.
const enough api.Errno = -1

// against: a Sorter of x and the book with twin, question by question, up to most of them; how it ended.
func against(t *testing.T, x, twin *table.Table, n, most int, answer func(a, b api.Val) bool) (int, api.Errno) {
	t.Helper()
	s := sorting.New(x, n)
	if !same(x, twin) {
		t.Fatal("New was seen in the table")
	}
	asked, less := 0, true
	e := book{twin, func(a, b api.Val) bool {
		if asked == most {
			panic(stop{enough})
		}
		gotA, gotB, more, e := s.Next(less)
		if gotA != a || gotB != b || !more || e != api.OK {
			t.Fatalf("question %d of %d values: %v, %v, %v, %d, want %v, %v", asked, n, gotA, gotB, more, e, a, b)
		}
		if !same(x, twin) {
			t.Fatalf("question %d of %d values: the table isn't the book's", asked, n)
		}
		asked++
		less = answer(a, b)
		return less
	}}.run(n)
	if e == enough {
		return asked, e
	}
	for _, said := range []bool{less, true, false, false, true} {
		a, b, more, got := s.Next(said)
		if a != nothing() || b != nothing() || more || got != e || !same(x, twin) {
			t.Fatalf("the end of %d values: %v, %v, %v, %d, want %d", n, a, b, more, got, e)
		}
	}
	return asked, e
}

// ways: how the questions are answered.
func ways(r *rand.Rand) []func(a, b api.Val) bool {
	turn := 0
	return []func(a, b api.Val) bool{
		func(a, b api.Val) bool { return compare(a, b) < 0 },
		func(a, b api.Val) bool { return compare(a, b) <= 0 },
		func(a, b api.Val) bool { return compare(a, b) > 0 },
		func(a, b api.Val) bool { return true },
		func(a, b api.Val) bool { return false },
		func(a, b api.Val) bool { return r.Intn(2) == 0 },
		func(a, b api.Val) bool { return r.Intn(10) == 0 },
		func(a, b api.Val) bool { return compare(a, b) < 0 != (r.Intn(30) == 0) },
		func(a, b api.Val) bool { turn++; return turn%2 == 0 },
		func(a, b api.Val) bool { turn++; return turn%7 < 3 },
	}
}

// some: values for a row: few or many different ones, texts, Nils.
func some(r *rand.Rand, n int) []api.Val {
	var all []api.Val
	kinds, span := r.Intn(4), 1+r.Intn(2*n+1)
	for range n {
		v := number(r.Intn(span) - span/2)
		switch {
		case kinds == 1:
			v = text(strconv.Itoa(v.N))
		case kinds == 2 && r.Intn(5) == 0:
			v = nothing()
		case kinds == 2 && r.Intn(3) == 0:
			v = text("")
		}
		all = append(all, v)
	}
	return all
}

// Each question, the table and its probes at it, and the end are the book's, whatever is answered.
func TestQuestions_P16_1(t *testing.T) {
	r := rand.New(rand.NewSource(16))
	met := map[api.Errno]int{}
	for round := range 400 {
		n := r.Intn(40)
		if round%20 == 0 {
			n = 100 + r.Intn(200)
		}
		array, hash, vals := r.Intn(50), r.Intn(8), some(r, n)
		for _, answer := range ways(r) {
			x, twin := made(array, hash), made(array, hash)
			for i, v := range vals {
				x.Set(number(i+1), v)
				twin.Set(number(i+1), v)
			}
			_, e := against(t, x, twin, n, -1, answer)
			met[e]++
		}
	}
	if met[api.OK] < 500 || met[api.ErrOrder] < 500 {
		t.Errorf("ends: %v", met)
	}
}

// Who answers may change the table: the work goes on with what it read.
func TestChanged_P16_1(t *testing.T) {
	r := rand.New(rand.NewSource(17))
	for range 300 {
		n := 2 + r.Intn(20)
		vals := some(r, n)
		x, twin := row(vals...), row(vals...)
		against(t, x, twin, n, -1, func(a, b api.Val) bool {
			if r.Intn(3) == 0 {
				k, v := number(r.Intn(n+3)), some(r, 1)[0]
				x.Set(k, v)
				twin.Set(k, v)
			}
			return compare(a, b) < 0
		})
	}
}

// Every row of answers to some values, to the last: each a path from question to question.
func TestAllAnswers_P16_1(t *testing.T) {
	for n := range 7 {
		met := map[api.Errno]int{}
		for path := []bool{}; path != nil; {
			vals := numbers(1, 2, 3, 4, 5, 6)[:n]
			at := 0
			asked, e := against(t, row(vals...), row(vals...), n, -1, func(a, b api.Val) bool {
				if at == len(path) {
					path = append(path, false)
				}
				at++
				return path[at-1]
			})
			if asked > (n+2)*(n+2) {
				t.Fatalf("%d values: %d questions", n, asked)
			}
			met[e]++
			path = next(path)
		}
		if met[api.OK] == 0 || met[api.ErrOrder] == 0 != (n < 4) {
			t.Errorf("%d values: %v", n, met)
		}
	}
}

// next: the next path behind one that was gone to its end; nil: it was the last.
func next(path []bool) []bool {
	for len(path) > 0 && path[len(path)-1] {
		path = path[:len(path)-1]
	}
	if len(path) == 0 {
		return nil
	}
	path[len(path)-1] = true
	return path
}

func TestExamples_P16_1(t *testing.T) {
	x := row(numbers(3, 1, 2)...)
	s := sorting.New(x, 3)
	if a, b, more, e := s.Next(false); a != number(2) || b != number(3) || !more || e != api.OK || !slices.Equal(values(x, 3), numbers(3, 1, 2)) {
		t.Errorf("first: %v, %v, %v, %d", a, b, more, e)
	}
	if a, b, more, e := s.Next(true); a != number(1) || b != number(2) || !more || e != api.OK || !slices.Equal(values(x, 3), numbers(2, 1, 3)) {
		t.Errorf("second: %v, %v, %v, %d, %v", a, b, more, e, values(x, 3))
	}
	if a, b, more, e := s.Next(true); a != nothing() || b != nothing() || more || e != api.OK || !slices.Equal(values(x, 3), numbers(1, 2, 3)) {
		t.Errorf("end: %v, %v, %v, %d, %v", a, b, more, e, values(x, 3))
	}
	if answered, e := sorting.Sort(row(numbers(3, 1, 2)...), 3, 2); answered != 2 || e != api.OK {
		t.Errorf("Sort: %d, %d", answered, e)
	}
	for n, want := range map[int]int{math.MinInt64: 0, -1: 0, 0: 0, 1: 0, 2: 1} {
		y := row(numbers(2, 1)...)
		if answered, e := sorting.Sort(y, n, 9); answered != want || e != api.OK || y.Get(number(1)) != number(2-want) {
			t.Errorf("Sort of %d: %d, %d", n, answered, e)
		}
	}
	if _, e := against(t, row(numbers(1, 2, 3, 4)...), row(numbers(1, 2, 3, 4)...), 4, -1, func(a, b api.Val) bool { return true }); e != api.ErrOrder {
		t.Errorf("every answer yes: %d", e)
	}
}

// A nil table, a nil Sorter and one that no New made: ErrArg, whatever n is, each time.
func TestArguments_P16_1(t *testing.T) {
	var none *sorting.Sorter
	for _, s := range []*sorting.Sorter{none, new(sorting.Sorter), sorting.New(missing(), 5), sorting.New(missing(), 0), sorting.New(missing(), -5)} {
		for _, less := range []bool{true, false, true} {
			if a, b, more, e := s.Next(less); a != nothing() || b != nothing() || more || e != api.ErrArg {
				t.Errorf("Next: %v, %v, %v, %d", a, b, more, e)
			}
		}
	}
	x := row(numbers(2, 1)...)
	for _, c := range []struct {
		x    *table.Table
		fuel int
	}{{missing(), 0}, {missing(), 5}, {missing(), -1}, {x, -1}, {x, math.MinInt64}} {
		for _, n := range []int{-1, 0, 2, greatest} {
			if answered, e := sorting.Sort(c.x, n, c.fuel); answered != 0 || e != api.ErrArg {
				t.Errorf("Sort of %d with %d: %d, %d", n, c.fuel, answered, e)
			}
		}
	}
	if !slices.Equal(values(x, 2), numbers(2, 1)) {
		t.Errorf("%v", values(x, 2))
	}
}

// A row up to the greatest number: the middle doesn't wrap, and what is asked is the book's.
func TestGreatest_P16_1(t *testing.T) {
	r := rand.New(rand.NewSource(18))
	fill := func() *table.Table {
		x := made(0, 16)
		for i, k := range []int{1, 2, 3, 1 << 61, 1 << 62, 1<<62 + 1, greatest - 2, greatest - 1, greatest} {
			x.Set(number(k), number(i))
		}
		return x
	}
	for _, n := range []int{greatest, greatest - 1, 1<<62 + 1, 1 << 62} {
		for _, answer := range ways(r) {
			against(t, fill(), fill(), n, 300, answer)
		}
	}
	s := sorting.New(fill(), greatest)
	s.Next(false)
	if a, b, more, e := s.Next(false); a != number(4) || b != number(0) || !more || e != api.OK {
		t.Errorf("the middle: %v, %v, %v, %d", a, b, more, e)
	}
}

// A Set that is refused ends the work there: what was set ahead of it stays, and its error is told again and again.
func TestRefused_P16_1(t *testing.T) {
	full := func(keys ...int) *table.Table {
		h, _ := heap.New(4 + 3*4)
		x, _ := table.New(h, 0, 4)
		for _, k := range keys {
			x.Set(number(k), number(10*k))
		}
		return x
	}
	for _, c := range []struct {
		keys  []int
		n     int
		first []api.Val // what stands at 1 to n behind it
	}{
		{[]int{2, -1, -2, -3}, 2, []api.Val{nothing(), number(20)}}, // 1 is refused
		{[]int{1, -1, -2, -3}, 2, []api.Val{nothing(), nothing()}},  // 1 is Nil now, 2 is refused
		{[]int{1, 3, -1, -2}, 3, []api.Val{number(30), nothing(), number(10)}},
	} {
		x, twin := full(c.keys...), full(c.keys...)
		if _, e := against(t, x, twin, c.n, -1, func(a, b api.Val) bool { return true }); e != api.ErrCells || !slices.Equal(values(x, c.n), c.first) {
			t.Errorf("%v: %d, %v", c.keys, e, values(x, c.n))
		}
	}
	r := rand.New(rand.NewSource(19))
	met := 0
	for range 2000 {
		cells, n := 20+r.Intn(60), 4+r.Intn(12)
		var tables [2]*table.Table
		seed := r.Int63()
		for i := range tables {
			h, _ := heap.New(cells)
			tables[i], _ = table.New(h, 0, 4)
			from := rand.New(rand.NewSource(seed))
			for range n {
				tables[i].Set(number(1+from.Intn(n)), number(from.Intn(9)))
				tables[i].Set(number(-from.Intn(n)), number(1))
			}
		}
		if _, e := against(t, tables[0], tables[1], n, -1, func(a, b api.Val) bool { return r.Intn(2) == 0 }); e == api.ErrCells {
			met++
		}
	}
	if met < 50 {
		t.Errorf("refused only %d times", met)
	}
}

// Sort answers the questions by box.Order, as many as there is fuel for; what was done stays done.
func TestSort_P16_1(t *testing.T) {
	r := rand.New(rand.NewSource(20))
	met := map[api.Errno]int{}
	for range 1500 {
		n := r.Intn(30)
		vals := some(r, n)
		fuel := r.Intn(8 * (n + 1))
		x, twin := row(vals...), row(vals...)
		count := 0
		e := book{twin, func(a, b api.Val) bool {
			if count == fuel {
				panic(stop{api.ErrFuel})
			}
			order, e := box.Order(a, b)
			if e != api.OK {
				panic(stop{e})
			}
			count++
			return order == -1
		}}.run(n)
		if answered, got := sorting.Sort(x, n, fuel); answered != count || got != e || !same(x, twin) {
			t.Fatalf("Sort of %v with %d: %d, %d, want %d, %d", vals, fuel, answered, got, count, e)
		}
		met[e]++
	}
	if met[api.OK] < 50 || met[api.ErrFuel] < 50 || met[api.ErrType] < 50 {
		t.Errorf("ends: %v", met)
	}
	// The question is one too many ahead of being one that has no answer.
	if answered, e := sorting.Sort(row(number(1), text("a")), 2, 0); answered != 0 || e != api.ErrFuel {
		t.Errorf("no fuel and two types: %d, %d", answered, e)
	}
	if answered, e := sorting.Sort(row(), greatest, greatest); answered != 0 || e != api.ErrType {
		t.Errorf("Nils: %d, %d", answered, e)
	}
}

// ordered: is none less than the one ahead of it?
func ordered(vals []api.Val) bool {
	for i := range vals {
		if i > 0 {
			if order, e := box.Order(vals[i], vals[i-1]); e != api.OK || order < 0 {
				return false
			}
		}
	}
	return true
}

// Ints alone and Strs alone come in order, the same values; with the fuel that it takes, but not with one less.
func TestInOrder_P16_2(t *testing.T) {
	try := func(vals []api.Val) {
		t.Helper()
		x := row(vals...)
		x.Set(number(0), text("ahead"))
		x.Set(number(len(vals)+1), text("behind"))
		answered, e := sorting.Sort(x, len(vals), greatest)
		if got := values(x, len(vals)); e != api.OK || !ordered(got) || !slices.Equal(bag(got), bag(vals)) {
			t.Fatalf("Sort of %v: %d, %v", vals, e, got)
		}
		if x.Get(number(0)) != text("ahead") || x.Get(number(len(vals)+1)) != text("behind") {
			t.Fatalf("Sort of %v: beside the row", vals)
		}
		if again, e := sorting.Sort(row(vals...), len(vals), answered); again != answered || e != api.OK {
			t.Fatalf("Sort of %v with %d: %d, %d", vals, answered, again, e)
		}
		if answered > 0 {
			if again, e := sorting.Sort(row(vals...), len(vals), answered-1); again != answered-1 || e != api.ErrFuel {
				t.Fatalf("Sort of %v with %d: %d, %d", vals, answered-1, again, e)
			}
		}
	}
	orders(7, func(list []int) { try(numbers(list...)) })
	r := rand.New(rand.NewSource(21))
	for n := range 300 {
		var many, few, texts, rising, falling []api.Val
		for i := range n {
			many = append(many, number(int(r.Uint64())))
			few = append(few, number(r.Intn(3)))
			texts = append(texts, text(string([]byte{byte(r.Intn(256)), byte(r.Intn(256))}[:r.Intn(3)])))
			rising = append(rising, number(i))
			falling = append(falling, number(-i))
		}
		for _, vals := range [][]api.Val{many, few, texts, rising, falling} {
			try(vals)
		}
	}
	try([]api.Val{number(greatest), number(math.MinInt64), number(0), number(-1), number(math.MinInt64), number(greatest)})
}

// orders: all rows of up to n numbers from 1 to their number, twins among them.
func orders(n int, tell func([]int)) {
	for size := range n {
		list := make([]int, size)
		var fill func(i int)
		fill = func(i int) {
			if i == size {
				tell(list)
				return
			}
			for v := range size {
				list[i] = v
				fill(i + 1)
			}
		}
		fill(0)
	}
}

// At each question, and at the end or ErrOrder, the values are those that stood there at first.
func TestSameValues_P16_3(t *testing.T) {
	r := rand.New(rand.NewSource(22))
	for range 300 {
		n := r.Intn(40)
		vals := some(r, n)
		want := bag(vals)
		for _, answer := range ways(r) {
			x := row(vals...)
			s := sorting.New(x, n)
			for more, less, a, b := true, false, nothing(), nothing(); more; less = more && answer(a, b) {
				a, b, more, _ = s.Next(less)
				if got := bag(values(x, n)); !slices.Equal(got, want) {
					t.Fatalf("%v became %v", want, got)
				}
			}
		}
	}
}

// killer: one who makes up the order while being asked, so that the pivot is among the least of its row each time (McIlroy's adversary).
func killer() func(a, b api.Val) bool {
	rank := map[api.Val]int{}
	var candidate api.Val
	value := func(v api.Val) int {
		if rank[v] == 0 {
			return greatest
		}
		return rank[v]
	}
	return func(a, b api.Val) bool {
		if rank[a] == 0 && rank[b] == 0 {
			low := b
			if a == candidate {
				low = a
			}
			rank[low] = len(rank) + 1
		}
		switch {
		case rank[a] == 0:
			candidate = a
		case rank[b] == 0:
			candidate = b
		}
		return value(a) < value(b)
	}
}

// Whatever is answered, the work ends in time: by one who makes up the worst order too.
func TestEnds_P16_4(t *testing.T) {
	r := rand.New(rand.NewSource(23))
	asks := func(n int, answer func(a, b api.Val) bool) int {
		var vals []api.Val
		for i := range n {
			vals = append(vals, number(i))
		}
		s := sorting.New(row(vals...), n)
		asked := 0
		for a, b, more, e := s.Next(false); more; a, b, more, e = s.Next(answer(a, b)) {
			if asked++; asked > (n+2)*(n+2) || e != api.OK {
				t.Fatalf("%d values: more than %d questions", n, (n+2)*(n+2))
			}
		}
		return asked
	}
	for n := range 120 {
		for _, answer := range ways(r) {
			asks(n, answer)
		}
		for range 20 {
			odds := 1 + r.Intn(20)
			asks(n, func(a, b api.Val) bool { return r.Intn(odds) == 0 })
			asks(n, func(a, b api.Val) bool { return r.Intn(odds) != 0 })
		}
		worst := asks(n, killer())
		if n > 50 && worst < n*n/8 {
			t.Errorf("%d values: the worst is only %d questions", n, worst)
		}
	}
}

// No call panics and each ends, of tables that no New made too.
func TestNoPanic_P1(t *testing.T) {
	for _, x := range []*table.Table{missing(), new(table.Table), made(0, 0), made(3, 3), row(numbers(3, 2, 1)...), row(text("a"), number(1), nothing(), text("b"))} {
		for _, n := range []int{math.MinInt64, -1, 0, 1, 2, 3, 4, 100, greatest - 1, greatest} {
			for _, fuel := range []int{math.MinInt64, -1, 0, 1, 50} {
				sorting.Sort(x, n, fuel)
			}
			s := sorting.New(x, n)
			for i := range 200 {
				s.Next(i%3 == 0)
			}
		}
	}
}

// Two sorters of two tables, and two of one, know nothing of each other but what stands in the table; what was answered stays.
func TestApart_R3(t *testing.T) {
	vals := numbers(5, 3, 8, 1, 9, 2, 7, 3)
	alone, first, second := row(vals...), row(vals...), row(vals...)
	s, a, b := sorting.New(alone, 8), sorting.New(first, 8), sorting.New(second, 8)
	less := false
	for more := true; more; {
		wantA, wantB, wantMore, _ := s.Next(less)
		gotA, gotB, gotMore, _ := a.Next(less)
		otherA, otherB, otherMore, _ := b.Next(less)
		if gotA != wantA || gotB != wantB || gotMore != wantMore || otherA != wantA || otherB != wantB || otherMore != wantMore {
			t.Fatalf("%v, %v and %v, %v, want %v, %v", gotA, gotB, otherA, otherB, wantA, wantB)
		}
		more, less = wantMore, compare(wantA, wantB) < 0
	}
	if !same(alone, first) || !same(alone, second) || !slices.Equal(values(alone, 8), numbers(1, 2, 3, 3, 5, 7, 8, 9)) {
		t.Errorf("%v", values(alone, 8))
	}
}
