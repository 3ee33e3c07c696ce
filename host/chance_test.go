package host_test

import (
	"math"
	"math/rand"
	"slices"
	"strings"
	"testing"

	"trestle/api"
	"trestle/border"
	"trestle/host"
	"trestle/machine"
	"trestle/table"
	"trestle/walk"
)

// chance makes operations by chance that mostly go well.
type chance struct {
	*rand.Rand
	probes bool // may programs ask for the probes?
}

func (c chance) of(words ...string) string { return words[c.Intn(len(words))] }

// source: a program of a few functions and statements; now and then one that is refused.
func (c chance) source() string {
	if c.Intn(8) == 0 {
		return c.of("x =", "break", "x = table", "local a function f() return a end", "\xff", "x = 'a", strings.Repeat("x", 41)+" = 1")
	}
	out := "function f(a, b) x = a y = {b} return a, b, y end\nfunction put(t, k, v) t[k] = v end\nfunction get(t, k) return t[k] end\nfunction deep(n) return 1 + deep(n + 1) end\nfunction less(a, b) return a < b end\nn = n or 0 x = x or {} y = 'é'\n"
	statements := []string{"x = {1, 2, 3}", "x[#x + 1] = n", "n = n + 1", "x.k = n", "x[n * 1000] = 'a' .. n", "print(#x, n, y)", "for k, v in pairs(x) do x[k] = nil end", "y = utf8.char(n + 97, 233)", "table.insert(x, 1, n)", "table.sort(x)", "table.sort(x, less)", "return x, n", "return x.k + 1", "x = x .. nil", "while n < 7 do n = n + 1 x[n] = y end", "for i = 1, 9 do x[i] = i end", "x = {a = x, [1] = n, y, y}", "f(x, n)", "print(f(y, x))", "for p, r in utf8.codes(y) do print(p, r) end", "print(stats(x))", "print(table.concat(x, ','))", "x[2] = nil", "local z = {x, x} x = z"}
	if c.probes {
		statements = append(statements, "print(probes())", "n = n + probes()")
	}
	for range 1 + c.Intn(10) {
		out += "do " + c.of(statements...) + " end\n"
	}
	return out
}

// value: one that is mostly known.
func (c chance) value() api.Val {
	switch c.Intn(12) {
	case 0:
		return nothing()
	case 1:
		return of(api.Bool, c.Intn(2))
	case 2, 3, 4:
		return number(c.Intn(9) - 1)
	case 5:
		return number([]int{1000, math.MaxInt64, math.MinInt64, 1 << 40}[c.Intn(4)])
	case 6, 7:
		return text(c.of("", "a", "k", "é", "12", "\xff", "\x00"))
	case 8:
		return of(api.Fun, 1+c.Intn(6))
	case 9:
		return of(api.Lib, 1+c.Intn(24))
	}
	return c.table()
}

func (c chance) table() api.Val {
	if c.Intn(30) == 0 {
		return wrong()[c.Intn(len(wrong()))]
	}
	return tab(1 + c.Intn(3))
}

func (c chance) values(n int) []api.Val {
	var all []api.Val
	for range n {
		all = append(all, c.value())
	}
	return all
}

func (c chance) op() host.Op {
	o := host.Op{Kind: 1 + c.Intn(14), Name: c.of("x", "y", "n", "f", "put", "get", "print", "deep", "nobody", ""), A: c.Intn(9) - 1, B: c.Intn(5) - 1}
	switch {
	case o.Kind == host.Load:
		o.Name = c.source()
	case o.Kind >= host.Index && c.Intn(30) > 0:
		o.Vals = append(list(c.table()), c.values(2+c.Intn(2))...)
	default:
		o.Vals = c.values(c.Intn(5))
	}
	if o.Kind == host.Run && c.Intn(2) == 0 {
		o.Name, o.Vals = "put", append(list(c.table()), c.values(2)...)
	}
	return o
}

// ops: so many operations; mostly a program and two tables are there early.
func (c chance) ops(n int) []host.Op {
	all := []host.Op{maker(c.Intn(5), c.Intn(5)), load(c.source()), start(), maker(0, 0)}
	if c.Intn(5) == 0 {
		all = nil
	}
	for len(all) < n {
		all = append(all, c.op())
	}
	return all
}

// lists: lists of operations by chance.
func lists(seed int64, turns, n int, tell func(c chance, ops []host.Op)) {
	c := chance{Rand: rand.New(rand.NewSource(seed)), probes: true}
	for range turns {
		tell(c, c.ops(n))
	}
}

// hand is the chapter's table a second time: a machine that is asked by its own calls.
type hand struct{ *machine.Machine }

func filled(e api.Errno, vals ...api.Val) host.Reply {
	if e != api.OK {
		vals = nil
	}
	return host.Reply{Vals: vals, Err: e}
}

// tableOf: the table of an operation that uses n values.
func (h hand) tableOf(vals []api.Val, n int) (*table.Table, api.Errno) {
	for i := range n {
		if i >= len(vals) || !h.Knows(vals[i]) {
			return nil, api.ErrForm
		}
	}
	if vals[0].Kind != api.Tab {
		return nil, api.ErrType
	}
	return h.Table(vals[0].N), api.OK
}

func (h hand) ask(o host.Op) host.Reply {
	onTable := func(n int, work func(t *table.Table) host.Reply) func() host.Reply {
		return func() host.Reply {
			t, e := h.tableOf(o.Vals, n)
			if e != api.OK {
				return host.Reply{Err: e}
			}
			return work(t)
		}
	}
	withOne := func(work func(v api.Val) host.Reply) func() host.Reply {
		return func() host.Reply {
			if len(o.Vals) < 1 {
				return host.Reply{Err: api.ErrForm}
			}
			return work(o.Vals[0])
		}
	}
	asked := func(vals []api.Val, e api.Errno) host.Reply { return filled(e, vals...) }
	return map[int]func() host.Reply{
		host.Load:  func() host.Reply { f := h.Load(o.Name); return host.Reply{Err: f.Code, At: f.At} },
		host.Start: func() host.Reply { return asked(h.Start()) },
		host.Call:  withOne(func(f api.Val) host.Reply { return asked(h.Call(f, o.Vals[1:])) }),
		host.Run:   func() host.Reply { return asked(h.Call(h.Global(o.Name), o.Vals)) },
		host.Get:   func() host.Reply { return filled(0, h.Global(o.Name)) },
		host.Set:   withOne(func(v api.Val) host.Reply { return filled(h.SetGlobal(o.Name, v)) }),
		host.Make:  func() host.Reply { v, e := h.Make(o.A, o.B); return filled(e, v) },
		host.Index: onTable(2, func(t *table.Table) host.Reply { return filled(0, t.Get(o.Vals[1])) }),
		host.Store: onTable(3, func(t *table.Table) host.Reply { return filled(t.Set(o.Vals[1], o.Vals[2])) }),
		host.Next:  onTable(2, func(t *table.Table) host.Reply { k, v, e := walk.Next(t, o.Vals[1]); return filled(e, k, v) }),
		host.Len:   onTable(1, func(t *table.Table) host.Reply { return filled(0, number(border.Len(t))) }),
		host.Stats: onTable(1, func(t *table.Table) host.Reply {
			s := t.Stats()
			return filled(0, numbers(s.Array, s.Hash, s.Free, s.Hint, t.Probes())...)
		}),
		host.Pairs: onTable(1, func(t *table.Table) host.Reply {
			var vals []api.Val
			for _, p := range walk.List(t) {
				vals = append(vals, p.Key, p.Val)
			}
			if len(vals) > 2000 {
				return host.Reply{Err: api.ErrBig}
			}
			return filled(0, vals...)
		}),
		host.Look: func() host.Reply { return host.Reply{Out: h.Out()} },
	}[o.Kind]()
}

// Whatever is asked, with much fuel and many cells or with few, the host tells the machine that its own calls tell.
func TestByChance_P19_1_P10(t *testing.T) {
	ends := map[int]map[api.Errno]int{}
	lists(1, 3000, 60, func(c chance, ops []host.Op) {
		fuel, cells := c.Intn(400), c.Intn(400)
		m, _ := machine.New(fuel, cells)
		for i, got := range played(t, fuel, cells, ops...) {
			want := hand{m}.ask(ops[i])
			if !alike(got, want) {
				t.Fatalf("%v: %v, want %v", ops[i], got, want)
			}
			if ends[ops[i].Kind] == nil {
				ends[ops[i].Kind] = map[api.Errno]int{}
			}
			ends[ops[i].Kind][got.Err]++
		}
	})
	for kind, errs := range map[int][]api.Errno{
		host.Load: {0, api.ErrArg, api.ErrText, api.ErrName}, host.Start: {0, api.ErrArg, api.ErrType, api.ErrCells, api.ErrFuel},
		host.Call: {0, api.ErrArg, api.ErrForm, api.ErrType, api.ErrCells, api.ErrFuel, api.ErrCall}, host.Run: {0, api.ErrArg, api.ErrForm, api.ErrType, api.ErrKey, api.ErrCells, api.ErrFuel, api.ErrCall},
		host.Get: {0}, host.Set: {0, api.ErrArg, api.ErrForm, api.ErrName}, host.Make: {0, api.ErrArg, api.ErrCells},
		host.Index: {0, api.ErrForm, api.ErrType}, host.Store: {0, api.ErrForm, api.ErrType, api.ErrKey, api.ErrCells}, host.Next: {0, api.ErrForm, api.ErrType, api.ErrKey},
		host.Len: {0, api.ErrForm, api.ErrType}, host.Stats: {0, api.ErrForm, api.ErrType}, host.Pairs: {0, api.ErrForm, api.ErrType}, host.Look: {0},
	} {
		for _, e := range errs {
			if ends[kind][e] < 10 {
				t.Errorf("kind %d ends by %d only %d times", kind, e, ends[kind][e])
			}
		}
	}
}

// The replies to a beginning are the beginning of the replies.
func TestBeginnings_P19_2(t *testing.T) {
	lists(2, 150, 40, func(c chance, ops []host.Op) {
		fuel, cells := c.Intn(400), c.Intn(400)
		whole := played(t, fuel, cells, ops...)
		for n := range ops {
			for i, got := range played(t, fuel, cells, ops[:n]...) {
				if !alike(got, whole[i]) {
					t.Fatalf("%v, reply %d of %d: %v, want %v", ops[i], i, n, got, whole[i])
				}
			}
		}
		other := append(slices.Clone(ops[:20]), c.ops(20)...)
		for i, got := range played(t, fuel, cells, other...)[:20] {
			if !alike(got, whole[i]) {
				t.Fatalf("%v, with others behind: %v, want %v", ops[i], got, whole[i])
			}
		}
	})
}

// without: the replies to all operations that aren't left out are the same without the others, as far as the eye sees.
func without(t *testing.T, fuel, cells int, ops []host.Op, leftOut func(o host.Op) bool, eye func(o host.Op, r host.Reply) host.Reply) {
	t.Helper()
	var want []host.Reply
	for i, r := range played(t, fuel, cells, ops...) {
		if !leftOut(ops[i]) {
			want = append(want, r)
		}
	}
	few := slices.DeleteFunc(slices.Clone(ops), leftOut)
	for i, got := range played(t, fuel, cells, few...) {
		if !alike(eye(few[i], got), eye(few[i], want[i])) {
			t.Fatalf("%v: %v, want %v", few[i], got, want[i])
		}
	}
}

func keen(o host.Op, r host.Reply) host.Reply { return r }

// dim: a reply without what probes and hints show.
func dim(o host.Op, r host.Reply) host.Reply {
	r.Out.Probes = 0
	if o.Kind == host.Stats && r.Err == api.OK {
		r.Vals = r.Vals[:3]
	}
	return r
}

func oneOf(kinds ...int) func(o host.Op) bool {
	return func(o host.Op) bool { return slices.Contains(kinds, o.Kind) }
}

// Look, Get, Pairs and Stats change nothing at all.
func TestLooking_P19_3(t *testing.T) {
	lists(3, 600, 60, func(c chance, ops []host.Op) {
		fuel, cells := c.Intn(400), c.Intn(400)
		without(t, fuel, cells, ops, oneOf(host.Look, host.Get, host.Pairs, host.Stats), keen)
		for _, kind := range []int{host.Look, host.Get, host.Pairs, host.Stats} {
			without(t, fuel, cells, ops, oneOf(kind), keen)
		}
	})
}

// Index and Next change the probes alone: programs that don't ask for these do the same without them.
func TestReading_P19_3(t *testing.T) {
	c := chance{Rand: rand.New(rand.NewSource(4))}
	// The probes may also be asked for by the number of their function of the library.
	asks := func(o host.Op) bool {
		return slices.ContainsFunc(o.Vals, func(v api.Val) bool { return v == of(api.Lib, 10) })
	}
	for range 600 {
		ops := slices.DeleteFunc(c.ops(60), asks)
		without(t, c.Intn(400), c.Intn(400), ops, oneOf(host.Index, host.Next), dim)
		without(t, c.Intn(400), c.Intn(400), ops, oneOf(host.Index, host.Next, host.Look, host.Get, host.Pairs, host.Stats), dim)
	}
}

// Of tables that are rows Len changes hints and probes alone.
func TestLengths_P19_3(t *testing.T) {
	r := rand.New(rand.NewSource(5))
	for range 300 {
		ops := []host.Op{load("x = {} function push(v) x[#x + 1] = v end function pop() local v = x[#x] x[#x] = nil return v end"), start()}
		high := 0
		for range 80 {
			switch k := r.Intn(8); {
			case k < 3:
				ops = append(ops, op(host.Store, tab(1), number(high+1), number(k)))
				high++
			case k < 5 && high > 0:
				ops = append(ops, op(host.Store, tab(1), number(high), nothing()))
				high--
			case k == 5:
				ops = append(ops, named(host.Run, "push", text("v")), op(host.Stats, tab(1)))
				high++
			case k == 6 && high > 0:
				ops = append(ops, named(host.Run, "pop"), op(host.Pairs, tab(1)))
				high--
			default:
				ops = append(ops, op(host.Len, tab(1)), look(), op(host.Next, tab(1), nothing()))
			}
		}
		without(t, 400, 400, ops, oneOf(host.Len), dim)
		without(t, 400, 400, ops, oneOf(host.Len, host.Next, host.Look), dim)
	}
}

// What is refused ahead of all changes nothing: neither a table nor what the machine tells.
func TestRefused_P19_3(t *testing.T) {
	lists(6, 300, 60, func(c chance, ops []host.Op) {
		var mixed []host.Op
		refused := func(o host.Op) bool { return o.A == math.MinInt64 }
		for _, o := range ops {
			kind := []int{host.Call, host.Set, host.Index, host.Store, host.Next, host.Len, host.Stats, host.Pairs}[c.Intn(8)]
			bad := host.Op{Kind: kind, Name: "x", A: math.MinInt64}
			if kind >= host.Index {
				bad.Vals = list([]api.Val{tab(0), number(1), tab(99), of(7, 7)}[c.Intn(4)], number(1), number(1))
			}
			mixed = append(mixed, o, bad)
		}
		without(t, c.Intn(400), c.Intn(400), mixed, refused, keen)
	})
}
