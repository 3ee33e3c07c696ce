package host_test

import (
	"math"
	"slices"
	"strconv"
	"strings"
	"testing"

	"trestle/api"
	"trestle/host"
)

func nothing() api.Val       { return api.Val{} }
func of(kind, n int) api.Val { return api.Val{Kind: kind, N: n} }
func number(n int) api.Val   { return of(api.Int, n) }
func tab(n int) api.Val      { return of(api.Tab, n) }
func text(s string) api.Val  { return api.Val{Kind: api.Str, S: s} }

func list(vals ...api.Val) []api.Val { return vals }

func numbers(all ...int) []api.Val {
	var vals []api.Val
	for _, n := range all {
		vals = append(vals, number(n))
	}
	return vals
}

func load(src string) host.Op { return host.Op{Kind: host.Load, Name: src} }
func start() host.Op          { return host.Op{Kind: host.Start} }
func look() host.Op           { return host.Op{Kind: host.Look} }
func maker(a, b int) host.Op  { return host.Op{Kind: host.Make, A: a, B: b} }

// op: an operation that works on values alone; named: one on a global.
func op(kind int, vals ...api.Val) host.Op { return host.Op{Kind: kind, Vals: vals} }
func named(kind int, name string, vals ...api.Val) host.Op {
	return host.Op{Kind: kind, Name: name, Vals: vals}
}

func sameOut(a, b api.Out) bool {
	return slices.Equal(a.Lines, b.Lines) && slices.Equal(a.Rets, b.Rets) && a.Err == b.Err && a.Line == b.Line && a.Fuel == b.Fuel && a.Cells == b.Cells && a.Tables == b.Tables && a.Probes == b.Probes
}

func alike(a, b host.Reply) bool {
	return slices.Equal(a.Vals, b.Vals) && a.Err == b.Err && a.At == b.At && sameOut(a.Out, b.Out)
}

// played: the replies, as many as there are operations.
func played(t *testing.T, fuel, cells int, ops ...host.Op) []host.Reply {
	t.Helper()
	replies, e := host.Play(fuel, cells, ops)
	if e != api.OK || len(replies) != len(ops) {
		t.Fatalf("%d replies to %d operations, %d", len(replies), len(ops), e)
	}
	return replies
}

// row is an operation and its reply.
type row struct {
	host.Op
	want host.Reply
}

func gives(o host.Op, vals ...api.Val) row       { return row{o, host.Reply{Vals: vals}} }
func fails(o host.Op, e api.Errno) row           { return row{o, host.Reply{Err: e}} }
func failsAt(o host.Op, e api.Errno, at int) row { return row{o, host.Reply{Err: e, At: at}} }
func looks(want api.Out) row                     { return row{look(), host.Reply{Out: want}} }
func stats(n, array, hash, free, probes int) row { return statsHint(n, array, hash, free, 0, probes) }
func statsHint(n, array, hash, free, hint, probes int) row {
	return gives(op(host.Stats, tab(n)), numbers(array, hash, free, hint, probes)...)
}

// hold: the rows, one behind the other on one machine.
func hold(t *testing.T, fuel, cells int, rows ...row) {
	t.Helper()
	var ops []host.Op
	for _, r := range rows {
		ops = append(ops, r.Op)
	}
	for i, got := range played(t, fuel, cells, ops...) {
		if !alike(got, rows[i].want) {
			t.Errorf("row %d, %v: %v, want %v", i, ops[i], got, rows[i].want)
		}
	}
}

func TestExample_P19_1(t *testing.T) {
	hold(t, 100, 100,
		gives(load("x = {1, 2}")),
		gives(start()),
		gives(named(host.Get, "x"), tab(1)),
		gives(op(host.Len, tab(1)), number(2)),
		gives(op(host.Index, tab(1), number(2)), number(2)),
		gives(op(host.Store, tab(1), text("k"), number(9))),
		stats(1, 2, 1, 1, 0),
	)
}

// The errors of Play itself, in their order; beside them there are no replies.
func TestErrorsOfPlay_P19_1(t *testing.T) {
	good, strange := look(), host.Op{Kind: 15}
	many := slices.Repeat([]host.Op{good}, 1001)
	manyStrange := slices.Repeat([]host.Op{strange}, 1001)
	for i, c := range []struct {
		fuel, cells int
		ops         []host.Op
		want        api.Errno
	}{
		{0, 0, nil, api.OK}, {0, 0, []host.Op{}, api.OK}, {0, 0, []host.Op{good}, api.OK},
		{1000000, 400000, []host.Op{good}, api.OK}, {0, 0, many[:1000], api.OK},
		{-1, 0, nil, api.ErrArg}, {1000001, 0, nil, api.ErrArg}, {0, -1, nil, api.ErrArg}, {0, 400001, nil, api.ErrArg},
		{-1, 0, manyStrange, api.ErrArg}, {0, 400001, []host.Op{strange}, api.ErrArg}, {math.MinInt64, math.MaxInt64, many, api.ErrArg},
		{0, 0, many, api.ErrBig}, {0, 0, manyStrange, api.ErrBig}, {0, 0, append(slices.Clone(many[:1000]), strange), api.ErrBig},
		{0, 0, []host.Op{strange}, api.ErrForm}, {0, 0, []host.Op{{}}, api.ErrForm}, {0, 0, []host.Op{{Kind: -1}}, api.ErrForm},
		{0, 0, []host.Op{{Kind: math.MaxInt64}}, api.ErrForm}, {0, 0, []host.Op{{Kind: math.MinInt64}}, api.ErrForm},
		{0, 0, []host.Op{good, good, strange}, api.ErrForm}, {0, 0, append(slices.Clone(many[:999]), strange), api.ErrForm},
	} {
		replies, e := host.Play(c.fuel, c.cells, c.ops)
		if e != c.want || e != api.OK && len(replies) != 0 || e == api.OK && len(replies) != len(c.ops) {
			t.Errorf("row %d: %d replies, %d, want %d", i, len(replies), e, c.want)
		}
	}
	for kind := 1; kind <= 14; kind++ {
		if _, e := host.Play(0, 0, []host.Op{{Kind: kind}}); e != api.OK {
			t.Errorf("kind %d: %d", kind, e)
		}
	}
}

func TestLoad_P19_1(t *testing.T) {
	hold(t, 100, 100,
		failsAt(load("x ="), api.ErrText, 3),
		failsAt(load("x = table"), api.ErrName, 4),
		failsAt(load("local a function f() return a end"), api.ErrName, 28),
		failsAt(load(strings.Repeat(" ", 20001)), api.ErrBig, -1),
		gives(load("x = 1")),
		failsAt(load("x = 2"), api.ErrArg, -1),
		failsAt(load("x ="), api.ErrText, 3),
		gives(start()),
		gives(named(host.Get, "x"), number(1)),
	)
}

// Without a program what is called, and globals, are refused; tables are made and asked all the same.
func TestWithoutAProgram_P19_1(t *testing.T) {
	hold(t, 100, 100,
		fails(start(), api.ErrArg),
		fails(op(host.Call, of(api.Lib, 1)), api.ErrArg),
		fails(op(host.Call, of(7, 0)), api.ErrArg),
		fails(op(host.Call), api.ErrForm),
		fails(named(host.Run, "print"), api.ErrArg),
		fails(named(host.Set, "x", number(1)), api.ErrArg),
		fails(named(host.Set, "x"), api.ErrForm),
		gives(named(host.Get, "x"), nothing()),
		gives(named(host.Get, "print"), nothing()),
		looks(api.Out{Fuel: 100}),
		gives(maker(2, 3), tab(1)),
		gives(op(host.Store, tab(1), number(1), of(api.Lib, 23))),
		fails(op(host.Store, tab(1), number(2), of(api.Fun, 1)), api.ErrForm),
		gives(op(host.Pairs, tab(1)), number(1), of(api.Lib, 23)),
		looks(api.Out{Fuel: 100, Cells: 4 + 2 + 12, Tables: 1}),
		gives(load("x = 1")),
		gives(named(host.Set, "x", tab(1))),
		gives(named(host.Get, "x"), tab(1)),
	)
}

func TestStartCallRun_P19_1(t *testing.T) {
	many := make([]api.Val, 202)
	fun := func(n int) api.Val { return of(api.Fun, n) }
	hold(t, 100, 100,
		gives(load("function f(a, b) return b, a end\nfunction bad()\nreturn nil + 1 end\nx = x or 0 x = x + 1 y = f\nreturn x, 'a'")),
		fails(named(host.Run, "y"), api.ErrCall),
		gives(start(), number(1), text("a")),
		gives(start(), number(2), text("a")),
		looks(api.Out{Rets: list(number(2), text("a")), Fuel: 88}),
		gives(op(host.Call, fun(1), number(1), number(2), number(3)), number(2), number(1)),
		gives(named(host.Run, "y", number(1), number(2)), number(2), number(1)),
		gives(named(host.Run, "y"), nothing(), nothing()),
		fails(op(host.Call, many[:201]...), api.ErrCall),
		fails(op(host.Call, many...), api.ErrBig),
		gives(named(host.Run, "y", many[:200]...), nothing(), nothing()),
		fails(named(host.Run, "y", many[:201]...), api.ErrBig),
		looks(api.Out{Err: api.ErrBig, Fuel: 80}),
		fails(op(host.Call, fun(2)), api.ErrType),
		looks(api.Out{Err: api.ErrType, Line: 3, Fuel: 78}),
		fails(op(host.Call), api.ErrForm),
		looks(api.Out{Err: api.ErrType, Line: 3, Fuel: 78}),
		fails(op(host.Call, fun(3)), api.ErrForm),
		fails(op(host.Call, fun(1), tab(1)), api.ErrForm),
		fails(named(host.Run, "y", of(api.Bool, 2)), api.ErrForm),
		fails(named(host.Run, "x", of(api.Lib, 24)), api.ErrForm),
		looks(api.Out{Err: api.ErrForm, Fuel: 78}),
		fails(named(host.Run, "x"), api.ErrCall),
		fails(named(host.Run, "nobody"), api.ErrCall),
		fails(named(host.Run, ""), api.ErrCall),
		fails(op(host.Call, number(1)), api.ErrCall),
		gives(op(host.Call, of(api.Lib, 1), text("a"), number(5))),
		gives(op(host.Call, of(api.Lib, 2), nothing()), text("nil")),
		looks(api.Out{Lines: []string{"a\t5"}, Rets: list(text("nil")), Fuel: 76}),
	)
}

func TestGlobals_P19_1(t *testing.T) {
	hold(t, 100, 100,
		gives(load("x = 1 local y = 2 z = print")),
		gives(named(host.Get, "x"), nothing()),
		gives(named(host.Get, "print"), of(api.Lib, 1)),
		gives(start()),
		gives(named(host.Get, "x"), number(1)),
		gives(named(host.Get, "y"), nothing()),
		gives(named(host.Get, "z"), of(api.Lib, 1)),
		gives(named(host.Get, ""), nothing()),
		gives(named(host.Get, "\xff"), nothing()),
		gives(named(host.Set, "x", text("a"), of(7, 7))),
		gives(named(host.Get, "x"), text("a")),
		gives(named(host.Set, "x", nothing())),
		gives(named(host.Get, "x"), nothing()),
		gives(named(host.Set, "print", number(3))),
		gives(named(host.Get, "print"), number(3)),
		fails(named(host.Set, "x"), api.ErrForm),
		fails(named(host.Set, "x", tab(1)), api.ErrForm),
		fails(named(host.Set, "y", tab(1)), api.ErrForm),
		fails(named(host.Set, "y", number(1)), api.ErrName),
		fails(named(host.Set, "nobody", number(1)), api.ErrName),
		fails(named(host.Set, "nobody"), api.ErrForm),
		gives(named(host.Get, "x"), nothing()),
	)
}

func TestMake_P19_1(t *testing.T) {
	hold(t, 0, 30,
		gives(maker(0, 0), tab(1)),
		fails(maker(-1, 0), api.ErrArg),
		fails(maker(0, -1), api.ErrArg),
		fails(maker(65537, 0), api.ErrArg),
		fails(maker(0, 65537), api.ErrArg),
		fails(maker(65536, 65536), api.ErrCells),
		fails(maker(27, 0), api.ErrCells),
		gives(maker(2, 3), tab(2)),
		stats(1, 0, 0, 0, 0),
		stats(2, 2, 4, 4, 0),
		gives(maker(4, 0), tab(3)),
		fails(maker(0, 0), api.ErrCells),
		looks(api.Out{Cells: 30, Tables: 3}),
		fails(op(host.Len, tab(4)), api.ErrForm),
		gives(op(host.Len, tab(3)), number(0)),
	)
}

func TestTables_P19_1(t *testing.T) {
	long := text(strings.Repeat("x", 10000))
	hold(t, 0, 200,
		gives(maker(0, 0), tab(1)),
		gives(op(host.Next, tab(1), nothing()), nothing(), nothing()),
		gives(op(host.Pairs, tab(1))),
		gives(op(host.Index, tab(1), nothing()), nothing()),
		fails(op(host.Store, tab(1), nothing(), number(1)), api.ErrKey),
		gives(op(host.Store, tab(1), number(1), text("a"))),
		stats(1, 1, 0, 0, 0),
		gives(op(host.Store, tab(1), number(2), text("b"))),
		gives(op(host.Store, tab(1), number(3), long)),
		stats(1, 4, 0, 0, 0),
		gives(op(host.Store, tab(1), tab(1), of(api.Bool, 0))),
		stats(1, 4, 1, 1, 0),
		gives(op(host.Index, tab(1), tab(1)), of(api.Bool, 0)),
		gives(op(host.Index, tab(1), number(3)), long),
		gives(op(host.Index, tab(1), number(4)), nothing()),
		gives(op(host.Index, tab(1), number(5)), nothing()),
		stats(1, 4, 1, 1, 2),
		gives(op(host.Len, tab(1)), number(3)),
		statsHint(1, 4, 1, 1, 3, 2),
		gives(op(host.Next, tab(1), number(3)), tab(1), of(api.Bool, 0)),
		gives(op(host.Next, tab(1), number(4)), tab(1), of(api.Bool, 0)),
		gives(op(host.Next, tab(1), tab(1)), nothing(), nothing()),
		fails(op(host.Next, tab(1), number(5)), api.ErrKey),
		statsHint(1, 4, 1, 1, 3, 4),
		gives(op(host.Pairs, tab(1)), number(1), text("a"), number(2), text("b"), number(3), long, tab(1), of(api.Bool, 0)),
		gives(op(host.Store, tab(1), tab(1), nothing())),
		gives(op(host.Next, tab(1), tab(1)), nothing(), nothing()),
		gives(op(host.Pairs, tab(1)), number(1), text("a"), number(2), text("b"), number(3), long),
		looks(api.Out{Cells: 4 + 4 + 3, Tables: 1, Probes: 6}),
	)
}

// The hint is kept between one Len and the next: what was a border stays the answer while it is one.
func TestLenByTheHint_P19_1(t *testing.T) {
	rows := []row{gives(maker(4, 0), tab(1))}
	for i := range 4 {
		rows = append(rows, gives(op(host.Store, tab(1), number(i+1), number(i))))
	}
	clear := func(n int) row { return gives(op(host.Store, tab(1), number(n), nothing())) }
	hold(t, 0, 20, append(rows,
		clear(4), gives(op(host.Len, tab(1)), number(3)), statsHint(1, 4, 0, 0, 3, 0),
		clear(2), gives(op(host.Len, tab(1)), number(3)),
		clear(3), gives(op(host.Len, tab(1)), number(1)), statsHint(1, 4, 0, 0, 1, 0))...)
}

// A Store that finds no cells is refused, and all stays but the free pointer.
func TestStoreWithoutCells_P19_1(t *testing.T) {
	hold(t, 0, 9,
		gives(maker(2, 1), tab(1)),
		gives(op(host.Store, tab(1), text("a"), number(1))),
		fails(op(host.Store, tab(1), text("b"), number(1)), api.ErrCells),
		stats(1, 2, 1, 0, 2),
		gives(op(host.Index, tab(1), text("a")), number(1)),
		gives(op(host.Index, tab(1), text("b")), nothing()),
		looks(api.Out{Cells: 9, Tables: 1, Probes: 4}),
	)
}

// wrong: values that aren't in form, or of a number that a machine with one table and one function hasn't.
func wrong() []api.Val {
	return []api.Val{of(-1, 0), of(7, 1), of(math.MinInt64, 1), of(math.MaxInt64, 1), of(api.Nil, 1), {Kind: api.Nil, S: "x"}, of(api.Bool, 2), of(api.Bool, -1), {Kind: api.Int, N: 1, S: "x"}, {Kind: api.Str, N: 1}, text(strings.Repeat("x", 10001)), tab(0), tab(2), tab(math.MaxInt64), {Kind: api.Tab, N: 1, S: "x"}, of(api.Fun, 0), of(api.Fun, 2), of(api.Lib, 24), of(api.Lib, math.MinInt64)}
}

// Each value that a kind uses has to be known, ahead of all else; what it doesn't use may be anything.
func TestForm_P19_1(t *testing.T) {
	uses := map[int]int{host.Index: 2, host.Store: 3, host.Next: 2, host.Len: 1, host.Stats: 1, host.Pairs: 1}
	rows := []row{gives(load("function f() end")), gives(maker(1, 0), tab(1))}
	for kind, n := range uses {
		for lacks := range n {
			rows = append(rows, fails(op(kind, list(tab(1), number(1), number(1))[:lacks]...), api.ErrForm))
			rows = append(rows, fails(op(kind, list(number(1), number(1), number(1))[:lacks]...), api.ErrForm))
		}
		for _, v := range wrong() {
			for at := range n {
				vals := list(tab(1), number(1), number(1))
				vals[at] = v
				rows = append(rows, fails(op(kind, vals...), api.ErrForm))
				vals = list(text("no table"), nothing(), number(1))
				vals[at] = v
				rows = append(rows, fails(op(kind, vals...), api.ErrForm))
			}
		}
		for _, first := range list(nothing(), of(api.Bool, 1), number(1), text("x"), of(api.Fun, 1), of(api.Lib, 1)) {
			rows = append(rows, fails(op(kind, first, nothing(), nothing()), api.ErrType))
		}
	}
	rows = append(rows, stats(1, 1, 0, 0, 0), looks(api.Out{Cells: 5, Tables: 1}))
	for _, v := range wrong() {
		rows = append(rows,
			gives(op(host.Index, tab(1), number(1), v), nothing()),
			gives(op(host.Store, tab(1), number(1), nothing(), v)),
			gives(op(host.Next, tab(1), nothing(), v), nothing(), nothing()),
			gives(op(host.Len, tab(1), v), number(0)),
			gives(op(host.Stats, tab(1), v), numbers(1, 0, 0, 0, 0)...),
			gives(op(host.Pairs, tab(1), v)),
		)
	}
	hold(t, 0, 20, rows...)
}

// What a kind doesn't use changes nothing.
func TestUnused_P19_1(t *testing.T) {
	with := func(o host.Op) host.Op {
		if o.Kind != host.Load && o.Kind != host.Run && o.Kind != host.Get && o.Kind != host.Set {
			o.Name = "\xff = ="
		}
		if o.Kind == host.Load || o.Kind == host.Start || o.Kind == host.Get || o.Kind == host.Make || o.Kind == host.Look {
			o.Vals = wrong()
		}
		if o.Kind != host.Make {
			o.A, o.B = math.MinInt64, math.MaxInt64
		}
		return o
	}
	plain := []host.Op{load("x = {5} function f(a) print(a) return a, a end"), start(), op(host.Call, of(api.Fun, 1), number(4)), named(host.Set, "x", number(2)), named(host.Run, "x"), named(host.Get, "x"), maker(3, 3), op(host.Store, tab(2), text("a"), number(1)), op(host.Index, tab(2), text("a")), op(host.Next, tab(2), nothing()), op(host.Len, tab(1)), op(host.Stats, tab(2)), op(host.Pairs, tab(1)), look()}
	var full []host.Op
	for _, o := range plain {
		full = append(full, with(o))
	}
	got := played(t, 50, 50, full...)
	for i, want := range played(t, 50, 50, plain...) {
		if !alike(got[i], want) {
			t.Errorf("%v: %v, want %v", full[i], got[i], want)
		}
	}
}

// Up to 1000 pairs are told.
func TestManyPairs_P19_1(t *testing.T) {
	for _, hash := range []bool{false, true} {
		src := "x = {} function f(from, to) for i = from, to do x[i] = 'v' .. i end end"
		if hash {
			src = strings.Replace(src, "x[i]", "x['k' .. i]", 1)
		}
		got := played(t, 100000, 100000, load(src), start(), named(host.Run, "f", number(1), number(1000)), op(host.Pairs, tab(1)), named(host.Run, "f", number(1001), number(1001)), op(host.Pairs, tab(1)), op(host.Store, tab(1), text("k7"), nothing()), op(host.Store, tab(1), number(7), nothing()), op(host.Pairs, tab(1)))
		if got[5].Err != api.ErrBig || len(got[5].Vals) != 0 {
			t.Errorf("1001 pairs: %d values, %d", len(got[5].Vals), got[5].Err)
		}
		for _, i := range []int{3, 8} {
			if got[i].Err != api.OK || len(got[i].Vals) != 2000 {
				t.Errorf("1000 pairs: %d values, %d", len(got[i].Vals), got[i].Err)
			}
		}
		for at := 0; at < 2000 && !hash; at += 2 {
			n := at/2 + 1
			if vals := got[3].Vals[at : at+2]; !slices.Equal(vals, list(number(n), text("v"+strconv.Itoa(n)))) {
				t.Fatalf("pair %d: %v", n, vals)
			}
		}
	}
}

// Look tells all that the machine has printed, and what its last call came to; other operations have no Out.
func TestLook_P19_1(t *testing.T) {
	hold(t, 17, 21,
		looks(api.Out{Fuel: 17}),
		gives(load("print('a')\nprint(1, nil)\nx = {}\nreturn x")),
		gives(start(), tab(1)),
		looks(api.Out{Lines: []string{"a", "1\tnil"}, Rets: list(tab(1)), Fuel: 11, Cells: 4, Tables: 1}),
		fails(named(host.Run, "x"), api.ErrCall),
		looks(api.Out{Lines: []string{"a", "1\tnil"}, Err: api.ErrCall, Fuel: 11, Cells: 4, Tables: 1}),
		gives(maker(1, 0), tab(2)),
		looks(api.Out{Lines: []string{"a", "1\tnil"}, Err: api.ErrCall, Fuel: 11, Cells: 9, Tables: 2}),
		gives(start(), tab(3)),
		fails(start(), api.ErrFuel),
		looks(api.Out{Lines: []string{"a", "1\tnil", "a", "1\tnil", "a", "1\tnil"}, Err: api.ErrFuel, Line: 4, Cells: 17, Tables: 4}),
	)
}
