package machine_test

import (
	"math"
	"math/rand"
	"slices"
	"strings"
	"testing"

	"trestle/api"
	"trestle/machine"
)

// alike: are two outs the same?
func alike(a, b api.Out) bool {
	return slices.Equal(a.Lines, b.Lines) && slices.Equal(a.Rets, b.Rets) && a.Err == b.Err && a.Line == b.Line && a.Fuel == b.Fuel && a.Cells == b.Cells && a.Tables == b.Tables && a.Probes == b.Probes
}

// differs: what is to be seen of the machine that isn't as the book has it; "": nothing.
func differs(m *machine.Machine, b *book) string {
	if !alike(m.Out(), b.out()) {
		return "Out"
	}
	if m.Table(0) != nil || m.Table(len(b.tables)+1) != nil {
		return "a table that there isn't"
	}
	for i, want := range b.tables {
		got := m.Table(i + 1)
		slots, chained := got.Dump()
		wantSlots, wantChained := want.Dump()
		if got.Stats() != want.Stats() || got.Probes() != want.Probes() || !slices.Equal(slots, wantSlots) || !slices.Equal(chained, wantChained) {
			return "a table"
		}
	}
	for name, v := range b.globals {
		if m.Global(name) != v {
			return "the global " + name
		}
	}
	return ""
}

// both: a machine and a book that are told the same.
type both struct {
	t *testing.T
	m *machine.Machine
	b *book
}

func newBoth(t *testing.T, fuel, cells int) both {
	m, e := machine.New(fuel, cells)
	b, want := newBook(fuel, cells)
	if e != want || e != api.OK {
		t.Fatalf("New(%d, %d): %d, want %d", fuel, cells, e, want)
	}
	return both{t, m, b}
}

func (x both) load(src string) api.Fail {
	x.t.Helper()
	got, want := x.m.Load(src), x.b.load(src)
	if got != want {
		x.t.Fatalf("%s\nLoad: %v, want %v", src, got, want)
	}
	return got
}

// answered: are two answers, and all that is to be seen behind them, the same?
func (x both) answered(what string, list []api.Val, e api.Errno, want []api.Val, wantE api.Errno) {
	x.t.Helper()
	if e != wantE || !slices.Equal(list, want) {
		x.t.Fatalf("%s\n%s: %v, %d, want %v, %d", x.b.src, what, list, e, want, wantE)
	}
	if d := differs(x.m, x.b); d != "" {
		x.t.Fatalf("%s\n%s: %s is another:\n%v\n%v", x.b.src, what, d, x.m.Out(), x.b.out())
	}
}

func (x both) start() {
	x.t.Helper()
	list, e := x.m.Start()
	want, wantE := x.b.start()
	x.answered("Start", list, e, want, wantE)
}

func (x both) call(f api.Val, args ...api.Val) {
	x.t.Helper()
	list, e := x.m.Call(f, args)
	want, wantE := x.b.call(f, args)
	x.answered("Call", list, e, want, wantE)
}

// try: a program on a machine and on the book.
func try(t *testing.T, src string, fuel, cells int) both {
	t.Helper()
	x := newBoth(t, fuel, cells)
	x.load(src)
	x.start()
	return x
}

// programs: sources by chance.
func programs(seed int64, n int, tell func(src string, r *rand.Rand)) {
	m := maker{Rand: rand.New(rand.NewSource(seed))}
	for range n {
		tell(m.program(4+m.Intn(40)), m.Rand)
	}
}

// Whatever a program does, with much fuel and many cells or with few, the machine does what the book does.
func TestByChance_P18_1(t *testing.T) {
	ends := map[api.Errno]int{}
	programs(1, 1200, func(src string, r *rand.Rand) {
		b := try(t, src, 3000, 4000).b
		ends[b.err]++
		try(t, src, r.Intn(3002-b.fuel), 4000)
		try(t, src, 3000, r.Intn(b.h.Live()+40))
	})
	for _, e := range []api.Errno{api.OK, api.ErrArg, api.ErrRune, api.ErrZero, api.ErrType, api.ErrKey, api.ErrCells, api.ErrFuel, api.ErrCall, api.ErrOrder} {
		if ends[e] == 0 {
			t.Errorf("no program ends by %d: %v", e, ends)
		}
	}
}

// some: a value by chance, now and then one that isn't known or isn't in form.
func some(r *rand.Rand, b *book) api.Val {
	switch r.Intn(12) {
	case 0:
		return nothing()
	case 1:
		return boolean(r.Intn(2) == 0)
	case 2, 3:
		return number(r.Intn(7) - 1)
	case 4, 5:
		return text([]string{"", "a", "é", "12", "\xff"}[r.Intn(5)])
	case 6:
		return of(api.Fun, 1+r.Intn(len(b.funcs)+1))
	case 7:
		return of(api.Lib, r.Intn(26))
	case 8:
		return of(r.Intn(9)-1, r.Intn(3))
	}
	return of(api.Tab, 1+r.Intn(len(b.tables)+2)%(len(b.tables)+1))
}

// Whatever is called, in whatever order, a machine answers as the book does; an error leaves it ready for more.
func TestCallsByChance_P18_1(t *testing.T) {
	ends := map[api.Errno]int{}
	programs(2, 700, func(src string, r *rand.Rand) {
		x := newBoth(t, 2000+r.Intn(1000), 1000+r.Intn(2000))
		for turn := range 40 {
			v, w := some(r, x.b), some(r, x.b)
			name := []string{"n", "s", "t", "x", "f", "print", "", "nobody"}[r.Intn(8)]
			switch r.Intn(10) {
			case 0:
				if turn > 5 {
					x.load([]string{src, src, "x = ", "break"}[r.Intn(4)])
				}
			case 1:
				x.start()
			case 2:
				if got, want := x.m.Knows(v), x.b.knows(v); got != want {
					t.Fatalf("Knows(%v): %v", v, got)
				}
			case 3:
				e, want := x.m.SetGlobal(name, v), x.b.setGlobal(name, v)
				x.answered("SetGlobal", nil, e, nil, want)
			case 4:
				got, e := x.m.Make(v.N%9, w.N%5)
				made, want := x.b.make(v.N%9, w.N%5)
				x.answered("Make", []api.Val{got}, e, []api.Val{made}, want)
			case 5:
				if n := len(x.b.tables); n > 0 && x.b.knows(v) && x.b.knows(w) {
					n = 1 + r.Intn(n)
					x.answered("Set", nil, x.m.Table(n).Set(v, w), nil, x.b.tables[n-1].Set(v, w))
				}
			default:
				args := make([]api.Val, r.Intn(5))
				for i := range args {
					args[i] = some(r, x.b)
				}
				x.call(v, args...)
			}
			ends[x.b.err]++
		}
	})
	for _, e := range []api.Errno{api.OK, api.ErrArg, api.ErrForm, api.ErrType, api.ErrKey, api.ErrFuel, api.ErrCall} {
		if ends[e] < 20 {
			t.Errorf("few calls end by %d: %v", e, ends)
		}
	}
}

// row is a program and what it comes to.
type row struct {
	src         string
	fuel, cells int
	want        api.Out
}

func runs(t *testing.T, rows []row) {
	t.Helper()
	for _, c := range rows {
		got, fail := machine.Run(c.src, c.fuel, c.cells)
		if fail != (api.Fail{}) || !alike(got, c.want) {
			t.Errorf("%.300s: %v, %v, want %v", c.src, got, fail, c.want)
		}
		try(t, c.src, c.fuel, c.cells)
	}
}

func lines(all ...string) []string { return all }

func TestExamples_P18_1(t *testing.T) {
	runs(t, []row{
		{"print(1 + 2, 'a' .. 3, #'é') return {}", 100, 100, api.Out{Lines: lines("3\ta3\t2"), Rets: []api.Val{of(api.Tab, 1)}, Fuel: 97, Cells: 5, Tables: 1}},
		{"x = 1 + nil", 9, 9, api.Out{Err: api.ErrType, Line: 1, Fuel: 8}},
		{"f()", 9, 9, api.Out{Err: api.ErrCall, Line: 1, Fuel: 8}},
		{"while true do end", 9, 9, api.Out{Err: api.ErrFuel, Line: 1}},
		{"function f() f() end f()", 100, 20, api.Out{Err: api.ErrCells, Line: 1, Fuel: 89}},
		{"local t = {} for i = 1, 10 do t[i] = i end print(stats(t)) print(#t)", 100, 100, api.Out{Lines: lines("16\t0\t0", "10"), Fuel: 73, Cells: 20, Tables: 1}},
		{"for k, v in pairs({5, x = 1}) do print(k, v) end", 50, 50, api.Out{Lines: lines("1\t5", "x\t1"), Fuel: 39, Cells: 8, Tables: 1, Probes: 2}},
		{"function d(a, b) return a > b end local t = {1, 3, 2} table.sort(t, d) print(table.concat(t, ','))", 100, 100, api.Out{Lines: lines("3,2,1"), Fuel: 84, Cells: 8, Tables: 1}},
		{"print(1 + 2, 'a' .. 3)", 100, 100, api.Out{Lines: lines("3\ta3"), Fuel: 98, Cells: 1}},
		{"local t = {} for i = 1, 10 do t[i] = i end print(stats(t))", 100, 100, api.Out{Lines: lines("16\t0\t0"), Fuel: 75, Cells: 20, Tables: 1}},
		{"for p, c in utf8.codes('aé') do print(p, c) end", 100, 100, api.Out{Lines: lines("1\t97", "2\t233"), Fuel: 89}},
		{"local t = {3, 1, 2} table.sort(t) print(table.concat(t, ','))", 100, 100, api.Out{Lines: lines("1,2,3"), Fuel: 89, Cells: 8, Tables: 1}},
	})
	if got, fail := machine.Run("x =", 9, 9); fail != (api.Fail{Code: api.ErrText, At: 3}) || !alike(got, api.Out{}) {
		t.Errorf("x =: %v, %v", got, fail)
	}
}

// Steps: of each statement, call, turn; and where one lacks.
func TestSteps_P18_1(t *testing.T) {
	ends := func(fuel int) api.Out { return api.Out{Fuel: 100 - fuel} }
	runs(t, []row{
		{"", 100, 9, ends(0)},
		{";;", 100, 9, ends(0)},
		{"x = 1 + 2 * 3 - #'abc'", 100, 9, ends(1)},
		{"local a, b, c", 100, 9, ends(1)},
		{"do do end end", 100, 9, ends(2)},
		{"if x then y = 1 elseif nil then y = 2 else y = 3 end", 100, 9, ends(2)},
		{"if not x then y = 1 else y = 2 end", 100, 9, ends(2)},
		{"if x then y = 1 end", 100, 9, ends(1)},
		{"while x do end", 100, 9, ends(1)},
		{"x = true while x do x = nil end", 100, 9, ends(4)},
		{"while true do break end", 100, 9, ends(3)},
		{"for i = 1, 0 do end", 100, 9, ends(1)},
		{"for i = 1, 1 do end", 100, 9, ends(2)},
		{"for i = 1, 3 do end", 100, 9, ends(4)},
		{"for i = 1, 3 do x = i end", 100, 9, ends(7)},
		{"for i = 3, 1, -1 do break end", 100, 9, ends(3)},
		{"function f() end", 100, 9, ends(1)},
		{"function f() end f()", 100, 9, ends(3)},
		{"function f() return f end f()()()", 100, 9, ends(8)},
		{"function f() end for i in f do end", 100, 12, ends(3)},
		{"function f(a, i) if i ~= a then return (i or 0) + 1 end end for i in f, 2 do end", 100, 40, ends(2 + 3*2 + 2*2)},
		{"return probes", 100, 9, api.Out{Rets: []api.Val{of(api.Lib, 10)}, Fuel: 99}},
		{"return", 1, 9, api.Out{}},
		{"return", 0, 9, api.Out{Err: api.ErrFuel, Line: 1}},
		{"\n\nprint()", 1, 9, api.Out{Err: api.ErrFuel, Line: 3}},
		{"print() \n print()", 2, 9, api.Out{Lines: lines(""), Err: api.ErrFuel, Line: 2}},
		{"function f()\nend\nf()", 2, 9, api.Out{Err: api.ErrFuel, Line: 3}},
		{"function f()\nreturn end\nf()", 3, 9, api.Out{Err: api.ErrFuel, Line: 2}},
		{"for i = 1, 3 do\nend", 1, 9, api.Out{Err: api.ErrFuel, Line: 1}},
		{"for i = 1, 3 do\nend", 3, 9, api.Out{Err: api.ErrFuel, Line: 1}},
		{"for i = 1, 3 do\nx = i end", 5, 9, api.Out{Err: api.ErrFuel, Line: 2}},
		{"for i = -9223372036854775807 - 1, 9223372036854775807 do\nx = i end", 100, 9, api.Out{Err: api.ErrFuel, Line: 2}},
	})
}

// Cells: of calls while they are under way, of tables and texts for good.
func TestCells_P18_1(t *testing.T) {
	runs(t, []row{
		{"", 9, 4, api.Out{Fuel: 9}},
		{"", 9, 3, api.Out{Err: api.ErrCells, Fuel: 9}},
		{"", 0, 0, api.Out{Err: api.ErrCells}},
		{"local a, b", 9, 6, api.Out{Fuel: 8}},
		{"local a, b", 9, 5, api.Out{Err: api.ErrCells, Fuel: 9}},
		{"for i = 1, 0 do end", 9, 8, api.Out{Fuel: 8}},
		{"for i = 1, 0 do end", 9, 7, api.Out{Err: api.ErrCells, Fuel: 9}},
		{"function f(a) local b end\nf()", 9, 10, api.Out{Fuel: 5}},
		{"function f(a) local b end\nf()", 9, 9, api.Out{Err: api.ErrCells, Line: 2, Fuel: 6}},
		{"function f() return g() end function g()\nreturn nil + 1 end\n\nf()", 20, 12, api.Out{Err: api.ErrType, Line: 2, Fuel: 13}},
		{"x = {}", 9, 8, api.Out{Fuel: 8, Cells: 4, Tables: 1}},
		{"x = {}", 9, 7, api.Out{Err: api.ErrCells, Line: 1, Fuel: 8}},
		{"x = {1, 2, a = 1, b = 1, c = 1}", 9, 22, api.Out{Fuel: 8, Cells: 18, Tables: 1, Probes: 3}},
		{"x = {1, 2, a = 1, b = 1, c = 1}", 9, 21, api.Out{Err: api.ErrCells, Line: 1, Fuel: 8}},
		{"x = 'abc' .. 'defg'", 9, 5, api.Out{Fuel: 8, Cells: 1}},
		{"x = 'abcd' .. 'efgh'", 9, 6, api.Out{Fuel: 8, Cells: 2}},
		{"x = 'abcd' .. 'efgh'", 9, 5, api.Out{Err: api.ErrCells, Line: 1, Fuel: 8}},
		{"x = 'a' .. 'b' .. 'c'", 9, 6, api.Out{Fuel: 8, Cells: 2}},
		{"x = 'abcdefghijklmnopq' x = tostring(x) x = type(x) x = #x", 9, 4, api.Out{Fuel: 3}},
		{"x = tostring(12345678) x = tostring(nil)", 9, 7, api.Out{Fuel: 5, Cells: 3}},
		{"x = tostring(12345678)", 9, 5, api.Out{Err: api.ErrCells, Line: 1, Fuel: 7}},
		{"x = utf8.char(8364, 8364, 8364) x = utf8.char()", 9, 7, api.Out{Fuel: 5, Cells: 3}},
		{"x = utf8.char(8364, 8364, 8364)", 9, 5, api.Out{Err: api.ErrCells, Line: 1, Fuel: 7}},
		{"x = table.concat({'abcd', 'efg'}, '-') x = table.concat({})", 99, 17, api.Out{Fuel: 93, Cells: 13, Tables: 2}},
		{"x = table.concat({'abcd', 'efg'}, '-')", 99, 11, api.Out{Err: api.ErrCells, Line: 1, Fuel: 95, Cells: 6, Tables: 1}},
	})
}

// Lists: how long they may be, and what is said first of one that is too long.
func TestLists_P18_1(t *testing.T) {
	full := "function all() return table.unpack({}, 1, 200) end "
	runs(t, []row{
		{full + "return all()", 99, 99, api.Out{Rets: make([]api.Val, 200), Fuel: 94, Cells: 4, Tables: 1, Probes: 0}},
		{full + "return 1, all()", 99, 99, api.Out{Err: api.ErrBig, Line: 1, Fuel: 94, Cells: 4, Tables: 1}},
		{full + "print(1, all())", 99, 99, api.Out{Err: api.ErrBig, Line: 1, Fuel: 94, Cells: 4, Tables: 1}},
		{full + "(nil)(1, all())", 99, 99, api.Out{Err: api.ErrBig, Line: 1, Fuel: 94, Cells: 4, Tables: 1}},
		{full + "(nil)(all())", 99, 99, api.Out{Err: api.ErrCall, Line: 1, Fuel: 94, Cells: 4, Tables: 1}},
		{full + "all(1, all())", 99, 99, api.Out{Err: api.ErrBig, Line: 1, Fuel: 94, Cells: 4, Tables: 1}},
		{full + "local a = 1, all()", 99, 99, api.Out{Err: api.ErrBig, Line: 1, Fuel: 94, Cells: 4, Tables: 1}},
		{full + "local a, b, c = 1, all()", 99, 99, api.Out{Err: api.ErrBig, Line: 1, Fuel: 94, Cells: 4, Tables: 1}},
		{full + "local a, b = 1, all()", 99, 99, api.Out{Fuel: 94, Cells: 4, Tables: 1}},
		{full + "local a, b, c = all()", 99, 99, api.Out{Fuel: 94, Cells: 4, Tables: 1}},
		{full + "a, b, c = 1, all()", 99, 99, api.Out{Err: api.ErrBig, Line: 1, Fuel: 94, Cells: 4, Tables: 1}},
		{full + "for i in all, 1, all() do end", 99, 99, api.Out{Fuel: 91, Cells: 8, Tables: 2}},
		{full + "for i in all, all() do end", 99, 99, api.Out{Err: api.ErrBig, Line: 1, Fuel: 94, Cells: 4, Tables: 1}},
		{full + "return {1, all()}", 99, 99, api.Out{Rets: []api.Val{of(api.Tab, 1)}, Fuel: 94, Cells: 9, Tables: 2}},
		{full + "return (all())", 99, 99, api.Out{Rets: make([]api.Val, 1), Fuel: 94, Cells: 4, Tables: 1}},
		{full + "return all(), (all())", 99, 99, api.Out{Rets: make([]api.Val, 2), Fuel: 91, Cells: 8, Tables: 2}},
	})
}

// Lines: of the innermost call under way, when an error is met.
func TestErrorLines_P18_1(t *testing.T) {
	failing := func(line, fuel int, e api.Errno) api.Out { return api.Out{Err: e, Line: line, Fuel: fuel} }
	runs(t, []row{
		{"\n\nx = nil + 1", 20, 99, failing(3, 19, api.ErrType)},
		{"x = {\n} x = 1 +\nnil", 20, 99, api.Out{Err: api.ErrType, Line: 2, Fuel: 18, Cells: 4, Tables: 1}},
		{"function f()\nlocal a = 1\nreturn -'a'\nend\nf()", 20, 99, failing(3, 15, api.ErrType)},
		{"function f()\nreturn\nend\nx = f() ..\n'a'", 20, 99, failing(4, 16, api.ErrType)},
		{"function f()\nend\n\nx = f() ..\n'a'", 20, 99, failing(4, 17, api.ErrType)},
		{"if nil then\nelse\nif 1 < 'a' then end end", 20, 99, failing(3, 18, api.ErrType)},
		{"for i = 1,\n2 do\nx = i // (2 - i) end", 20, 99, failing(3, 15, api.ErrZero)},
		{"for i =\n1, 2, 0 do end", 20, 99, failing(1, 19, api.ErrArg)},
		{"for i =\n1, 'a' do end", 20, 99, failing(1, 19, api.ErrType)},
		{"function f()\n\nreturn 5 end for i in\nf do end", 20, 99, failing(3, 0, api.ErrFuel)},
		{"for i in\n5 do end", 20, 99, failing(1, 19, api.ErrCall)},
		{"table.sort({1,\n'a'})", 20, 99, api.Out{Err: api.ErrType, Line: 1, Fuel: 17, Cells: 6, Tables: 1}},
		{"function f()\n return\n nil < 1 end\ntable.sort({1,\n2}, f)", 20, 99, api.Out{Err: api.ErrType, Line: 2, Fuel: 14, Cells: 6, Tables: 1}},
		{"\ntable.sort({1,\n2}, next)", 20, 99, api.Out{Err: api.ErrType, Line: 2, Fuel: 16, Cells: 6, Tables: 1}},
		{"\ntable.sort({1,\n2}, pairs)", 3, 99, api.Out{Err: api.ErrFuel, Line: 2, Cells: 6, Tables: 1}},
	})
}

// What the instructions do, shown by programs.
func TestInstructions_P18_1(t *testing.T) {
	for src, want := range map[string]string{
		"print(nil, true, false, 5, 'a', f, print, table.sort, {}) function f() end":                                                        "nil\ttrue\tfalse\t5\ta\tnil\tbuiltin: 1\tbuiltin: 17\ttable: 1",
		"function g() end function f() end print(f, g)":                                                                                     "function: 2\tfunction: 1",
		"local a, b, c = 1, 2 print(a, b, c)":                                                                                               "1\t2\tnil",
		"local a, b = 1, 2, 3 print(a, b) local a = a + 1 print(a)":                                                                         "1\t2|2",
		"function f(a, b) return b, a end print(f(1, 2, 3)) print(f(1)) print((f(1, 2))) print(f(1, 2), f(3, 4))":                           "2\t1|nil\t1|2|2\t4\t3",
		"function f(a) local b if a then b = 1 end return b end print(f(1), f())":                                                           "1\tnil",
		"x = {} x.a, x['b'], x[1] = 1, 2 print(x.a, x.b, x[1])":                                                                             "1\t2\tnil",
		"local i, t = 1, {} i, t[i] = i + 1, 20 print(i, t[1], t[2])":                                                                       "2\t20\tnil",
		"local a, b = 1, 2 a, b = b, a print(a, b)":                                                                                         "2\t1",
		"x, x, x = 1, 2, 3 print(x)":                                                                                                        "3",
		"local t = {} t[1], t[1], x = 5, 6, 7 print(t[1], x)":                                                                               "6\t7",
		"print(not nil, not false, not 0, not '')":                                                                                          "true\ttrue\tfalse\tfalse",
		"print(#'', #'aé', #{1, 2, nil}, -(5), - -5, -(-9223372036854775807 - 1))":                                                          "0\t3\t2\t-5\t5\t-9223372036854775808",
		"print(9223372036854775807 + 1, 0 - 9223372036854775807 - 2, 4611686018427387904 * 2)":                                              "-9223372036854775808\t9223372036854775807\t-9223372036854775808",
		"print(7 // 2, -7 // 2, 7 // -2, 7 % 3, -7 % 3, 7 % -3, 0 // 5)":                                                                    "3\t-4\t-4\t1\t2\t-2\t0",
		"print('a' .. 'b', 1 .. 2, 'a' .. -1, '' .. '')":                                                                                    "ab\t12\ta-1\t",
		"print(1 == 1, 1 == '1', 'a' == 'a', nil == false, {} == {}, print == print, print ~= print, 1 ~= 2)":                               "true\tfalse\ttrue\tfalse\tfalse\ttrue\tfalse\ttrue",
		"print(1 < 2, 2 < 2, 2 <= 2, 3 <= 2, 2 > 1, 2 > 2, 2 >= 2, 1 >= 2)":                                                                 "true\tfalse\ttrue\tfalse\ttrue\tfalse\ttrue\tfalse",
		"print('a' < 'ab', 'b' < 'ab', 'a' <= 'a', 'Z' > 'a', '\\xff' >= 'é', '' < 'a')":                                                    "true\tfalse\ttrue\tfalse\ttrue\ttrue",
		"print(1 and 2, nil and 2, false and 2, 1 or 2, nil or 2, false or nil, 0 and '', 1 and nil or 3)":                                  "2\tnil\tfalse\t1\t2\tnil\t\t3",
		"function f() x = 1 return true end print(false and f(), true or f(), x)":                                                           "false\ttrue\tnil",
		"for i = 1, 3 do print(i) i = 7 end":                                                                                                "1|2|3",
		"for i = 3, 1, -2 do print(i) end for i = 1, 2, 5 do print(i) end for i = 2, 1 do print(i) end for i = 1, 2, -1 do print(i) end":    "3|1|1",
		"for i = 9223372036854775806, 9223372036854775807 do print(i) end":                                                                  "9223372036854775806|9223372036854775807",
		"for i = -9223372036854775807, -9223372036854775807 - 1, -1 do print(i) end":                                                        "-9223372036854775807|-9223372036854775808",
		"for i = -9223372036854775807 - 1, 9223372036854775807 do print(i) if i ~= -9223372036854775807 - 1 then break end end":             "-9223372036854775808|-9223372036854775807",
		"for i = 9223372036854775807, -9223372036854775807 - 1, -9223372036854775807 do print(i) end":                                       "9223372036854775807|0|-9223372036854775807",
		"for i = 1, 2 do for j = i, 2 do print(i, j) end end":                                                                               "1\t1|1\t2|2\t2",
		"for i = 1, 9 do local x if i == 3 then break end x = i print(x) end print('end')":                                                  "1|2|end",
		"function f(a, b) if b < a then return b + 1, b, 'x' end end for i, j, k, l in f, 2, 0 do print(i, j, k, l) j = 9 i = 9 end":        "1\t0\tx\tnil|2\t1\tx\tnil",
		"function f() return false end x = 0 for i in f do print(i) x = x + 1 if x == 2 then break end end":                                 "false|false",
		"for i, v in ipairs({4, 5, nil, 7}) do print(i, v) end":                                                                             "1\t4|2\t5",
		"for k, v in next, {7, a = 8} do print(k, v) end":                                                                                   "1\t7|a\t8",
		"x = 3 while x > 0 do x = x - 1 if x == 1 then break end print(x) end print(x)":                                                     "2|1",
		"function f() return 1, 2, 3 end local t = {f(), f()} print(#t, t[1], t[2], t[4]) t = {f(), (f())} print(#t) t = {(f())} print(#t)": "4\t1\t1\t3|2|1",
		"function f() end local t = {f(), f()} print(stats(t)) t = {f()} print(stats(t)) t = {1, 2, f()} print(stats(t), #t)":               "1\t0\t0|0\t0\t0|2\t2",
		"local t = {x = 1, 2, [3] = 4, 5, y = 6; 7} print(stats(t)) print(t[1], t[2], t[3], t.x, t.y)":                                      "3\t4\t4|2\t5\t7\t1\t6",
		"local t = {[1] = 'a', 'b'} print(t[1]) t = {'b', [1] = 'a'} print(t[1])":                                                           "b|b",
		"local t = {" + strings.Repeat("0, ", 49) + "1, [50] = 2} print(t[50]) t = {" + strings.Repeat("0, ", 49) + "[50] = 2, 1} print(t[50]) t = {" + strings.Repeat("0, ", 50) + "[50] = 2, [51] = 3, 1} print(t[50], t[51], #t)": "2|1|2\t1\t51",
		"local t = {" + strings.Repeat("7, ", 120) + "table.unpack({1, 2})} print(#t, t[120], t[121], t[122])":                                                                                                                       "122\t7\t1\t2",
		"function fact(n) if n == 0 then return 1 end return n * fact(n - 1) end print(fact(20))":                                                                                                                                    "2432902008176640000",
		"function even(n) if n == 0 then return true end return odd(n - 1) end function odd(n) return n ~= 0 and even(n - 1) end print(even(10), odd(7), even(3))":                                                                   "true\ttrue\tfalse",
		"print = type x = print(nil) y = x":           "",
		"type = 5 print(type) type = nil print(type)": "5|nil",
		"do local a = 1 end local b print(b)":         "nil",
		"return 1, print('x')":                        "x",
	} {
		got, fail := machine.Run(src, 3000, 3000)
		if fail.Code != api.OK || got.Err != api.OK || strings.Join(got.Lines, "|") != want {
			t.Errorf("%.300s: %q, %d, %v", src, got.Lines, got.Err, fail)
		}
		try(t, src, 3000, 3000)
	}
}

// Which error each instruction ends with.
func TestErrors_P18_1(t *testing.T) {
	for e, sources := range map[api.Errno][]string{
		api.ErrType:  {"x = (nil).y", "x = ('a').y", "x = (5)[1]", "x = (print).y", "x.y = 1", "local t = {} t.x.y = 1", "x = #nil", "x = #5", "x = #print", "x = -'1'", "x = -nil", "x = 1 + '1'", "x = '1' + 1", "x = nil - 1", "x = 1 * {}", "x = 1 // 'a'", "x = true % 2", "x = 1 .. nil", "x = {} .. 'a'", "x = true .. ''", "x = 1 < '1'", "x = nil <= nil", "x = {} > {}", "x = true >= false", "x = print < print", "for i = 'a', 1 do end", "for i = 1, '2' do end", "for i = 1, 2, '1' do end", "for i = nil, 1, 0 do end"},
		api.ErrZero:  {"x = 1 // 0", "x = 1 % 0", "x = 0 // 0"},
		api.ErrArg:   {"for i = 1, 2, 0 do end", "for i = 2, 1, 0 do end"},
		api.ErrCall:  {"x()", "(5)()", "('a')()", "({})()", "(nil)()", "(true)()", "for i in {} do end", "for i in nil do end", "local t = {} t.f()"},
		api.ErrKey:   {"local t = {} t[nil] = 1", "local t = {[nil] = 1}", "local t = {} t[nil] = nil", "local t = {} t.x, t[nil] = 1, 2"},
		api.ErrBig:   {"local s = 'x' while true do s = s .. s end", "local t = {} for i = 1, 200 do t[i] = i end print(t, table.unpack(t))"},
		api.ErrCells: {"while true do x = {" + strings.Repeat("1, ", 100) + "} end", "function f(a, b, c, d, e, g, h) return 1 + f() end f()"},
		api.ErrFuel:  {"while true do end", "while 1 do x = 1 end", "for i = 1, 9223372036854775807 do end", "function f() return 0 end for i in f do end"},
	} {
		for _, src := range sources {
			got, fail := machine.Run(src, 900, 3000)
			if fail.Code != api.OK || got.Err != e || len(got.Rets) > 0 {
				t.Errorf("%s: %v, %v, want the error %d", src, got, fail, e)
			}
			try(t, src, 900, 3000)
		}
	}
}

// An error keeps what was done ahead of it, and nothing of what was under way.
func TestAheadOfAnError_P18_1(t *testing.T) {
	x := try(t, "a = 1 t = {} function f(n) t[n] = n if n == 3 then b = 2 return nil + 1 end return 1, 2, {f(n + 1)} end function ok() return a, b end a = 5\nprint(a)\nx = 1, f(1)\na = 6", 200, 200)
	out := x.m.Out()
	if out.Err != api.ErrType || out.Line != 1 || !slices.Equal(out.Lines, lines("5")) || x.m.Global("a") != number(5) || x.m.Global("b") != number(2) || out.Tables != 3 {
		t.Errorf("behind the error: %v", out)
	}
	x.call(of(api.Fun, 2))
	if out := x.m.Out(); !slices.Equal(out.Rets, []api.Val{number(5), number(2)}) || out.Err != api.OK || out.Line != 0 {
		t.Errorf("a call behind an error: %v", out)
	}
	x.start()
}

// The machine's calls at their edges.
func TestNew_P18_1(t *testing.T) {
	for _, c := range []struct {
		fuel, cells int
		e           api.Errno
	}{{0, 0, 0}, {1000000, 400000, 0}, {-1, 0, 1}, {0, -1, 1}, {1000001, 0, 1}, {0, 400001, 1}, {math.MinInt64, math.MaxInt64, 1}, {math.MaxInt64, 9, 1}, {9, math.MinInt64, 1}} {
		m, e := machine.New(c.fuel, c.cells)
		if e != c.e || (m == nil) != (e != api.OK) {
			t.Errorf("New(%d, %d): %v, %d", c.fuel, c.cells, m, e)
		}
		if out := m.Out(); e == api.OK && !alike(out, api.Out{Fuel: c.fuel}) {
			t.Errorf("New(%d, %d): %v", c.fuel, c.cells, out)
		}
		out, fail := machine.Run("x", c.fuel, c.cells)
		want := api.Fail{Code: api.ErrText, At: 1}
		if c.e != api.OK {
			want = api.Fail{Code: api.ErrArg, At: -1}
		}
		if fail != want || !alike(out, api.Out{}) {
			t.Errorf("Run(%d, %d): %v, %v", c.fuel, c.cells, out, fail)
		}
	}
}

func TestLoad_P18_1(t *testing.T) {
	x := newBoth(t, 50, 50)
	for _, src := range []string{"x =", "break", "x = table", "'", "x = " + strings.Repeat("(", 120), strings.Repeat(" ", 20001)} {
		x.load(src)
		if list, e := x.m.Start(); e != api.ErrArg || list != nil || !alike(x.m.Out(), api.Out{Fuel: 50}) {
			t.Errorf("%.20s: Start: %v, %d, %v", src, list, e, x.m.Out())
		}
	}
	x.load("print(tostring) x, sort, insert, concat = 1 function type() end")
	if x.m.Global("print") != of(api.Lib, 1) || x.m.Global("tostring") != of(api.Lib, 3) || x.m.Global("type") != of(api.Lib, 2) {
		t.Errorf("the library ahead of the start: %v, %v, %v", x.m.Global("print"), x.m.Global("tostring"), x.m.Global("type"))
	}
	for _, name := range []string{"x", "sort", "insert", "concat", "next", "table.sort", "table", "y", ""} {
		if x.m.Global(name) != nothing() {
			t.Errorf("Global(%q): %v", name, x.m.Global(name))
		}
	}
	for src, want := range map[string]api.Fail{"": {Code: api.ErrArg, At: -1}, "x": {Code: api.ErrText, At: 1}, "y = 1": {Code: api.ErrArg, At: -1}} {
		if fail := x.m.Load(src); fail != want {
			t.Errorf("Load(%q) behind another: %v", src, fail)
		}
	}
	x.start()
	if x.m.Global("type") != of(api.Fun, 1) || x.m.Global("x") != number(1) || x.m.Global("y") != nothing() {
		t.Errorf("behind the start: %v, %v", x.m.Global("type"), x.m.Global("x"))
	}
	// Every function of the library that stands as a global, by its name.
	for n, name := range strings.Fields("print type tostring tonumber next pairs ipairs rawlen stats probes") {
		if out, _ := machine.Run("return "+name, 9, 9); !slices.Equal(out.Rets, []api.Val{of(api.Lib, n+1)}) {
			t.Errorf("%s: %v", name, out)
		}
	}
}

func TestKnows_P18_1(t *testing.T) {
	x := newBoth(t, 50, 50)
	ask := func(when string, want map[api.Val]bool) {
		t.Helper()
		for v, known := range want {
			if x.m.Knows(v) != known || x.b.knows(v) != known {
				t.Errorf("%s: Knows(%v): %v", when, v, x.m.Knows(v))
			}
		}
	}
	ask("without a program", map[api.Val]bool{nothing(): true, boolean(true): true, of(api.Bool, 2): false, number(math.MinInt64): true, text("a"): true, text(strings.Repeat("x", 10000)): true, text(strings.Repeat("x", 10001)): false, of(api.Tab, 1): false, of(api.Fun, 1): false, of(api.Lib, 1): true, of(api.Lib, 23): true, of(api.Lib, 11): true, of(api.Lib, 24): false, of(api.Lib, 0): false, of(7, 1): false, of(-1, 0): false, {Kind: api.Int, N: 1, S: "x"}: false, of(api.Tab, 0): false, of(api.Tab, math.MaxInt64): false, of(api.Fun, math.MaxInt64): false})
	x.load("function f() end function g() end")
	x.m.Make(0, 0)
	x.b.make(0, 0)
	ask("with one", map[api.Val]bool{of(api.Tab, 1): true, of(api.Tab, 2): false, of(api.Fun, 1): true, of(api.Fun, 2): true, of(api.Fun, 3): false, of(api.Fun, 0): false, of(api.Tab, -1): false, {Kind: api.Fun, N: 1, S: "x"}: false})
}

func TestCall_P18_1(t *testing.T) {
	x := newBoth(t, 50, 50)
	if list, e := x.m.Call(of(api.Lib, 1), nil); e != api.ErrArg || list != nil || !alike(x.m.Out(), api.Out{Fuel: 50}) {
		t.Errorf("Call without a program: %v, %d, %v", list, e, x.m.Out())
	}
	if list, e := x.m.Call(of(7, 1), []api.Val{of(7, 1)}); e != api.ErrArg || list != nil || !alike(x.m.Out(), api.Out{Fuel: 50}) {
		t.Errorf("a wrong Call without a program: %v, %d, %v", list, e, x.m.Out())
	}
	x.load("function f(a, b) return b, a end\nfunction bad()\nreturn nil + 1 end")
	known, wrong := of(api.Lib, 2), of(api.Tab, 1)
	many := make([]api.Val, 201)
	for i, c := range []struct {
		f    api.Val
		args []api.Val
		want []api.Val
		e    api.Errno
		line int
		fuel int
	}{
		{of(api.Fun, 1), []api.Val{number(1), number(2), number(3)}, []api.Val{number(2), number(1)}, 0, 0, 2},
		{of(api.Fun, 1), nil, make([]api.Val, 2), 0, 0, 2},
		{of(api.Fun, 1), many[:200], make([]api.Val, 2), 0, 0, 2},
		{of(api.Fun, 1), many, nil, api.ErrBig, 0, 0},
		{of(api.Fun, 2), nil, nil, api.ErrType, 3, 2},
		{known, many[:200], []api.Val{text("nil")}, 0, 0, 1},
		{known, many, nil, api.ErrBig, 0, 0},
		{known, nil, nil, api.ErrType, 0, 1},
		{known, []api.Val{wrong}, nil, api.ErrForm, 0, 0},
		{known, append(slices.Clone(many), wrong), nil, api.ErrForm, 0, 0},
		{wrong, many, nil, api.ErrForm, 0, 0},
		{wrong, nil, nil, api.ErrForm, 0, 0},
		{of(api.Fun, 3), nil, nil, api.ErrForm, 0, 0},
		{number(5), nil, nil, api.ErrCall, 0, 0},
		{nothing(), many, nil, api.ErrBig, 0, 0},
		{nothing(), many[:200], nil, api.ErrCall, 0, 0},
	} {
		fuel := x.m.Out().Fuel
		x.call(c.f, c.args...)
		if out := x.m.Out(); out.Err != c.e || out.Line != c.line || !slices.Equal(out.Rets, c.want) || out.Fuel != fuel-c.fuel || out.Cells != 0 {
			t.Errorf("row %d: %v", i, out)
		}
	}
	fuel := x.m.Out().Fuel
	for range fuel {
		x.call(known, nothing())
	}
	x.call(known, nothing())
	if out := x.m.Out(); out.Err != api.ErrFuel || out.Line != 0 || out.Fuel != 0 {
		t.Errorf("without fuel: %v", out)
	}
	x.start()
	x.call(number(5))
}

func TestGlobals_P18_1(t *testing.T) {
	x := newBoth(t, 50, 50)
	if e := x.m.SetGlobal("x", nothing()); e != api.ErrArg {
		t.Errorf("SetGlobal without a program: %d", e)
	}
	if e := x.m.SetGlobal("x", of(7, 7)); e != api.ErrArg || x.m.Global("x") != nothing() {
		t.Errorf("a wrong SetGlobal without a program: %d", e)
	}
	x.load("function f() return x end x = 1 local y = 2")
	for _, c := range []struct {
		name string
		v    api.Val
		e    api.Errno
	}{{"x", of(api.Tab, 1), api.ErrForm}, {"y", of(api.Tab, 1), api.ErrForm}, {"y", number(1), api.ErrName}, {"", number(1), api.ErrName}, {"print", number(1), api.ErrName}, {"table", number(1), api.ErrName}, {"x", text("a"), api.OK}, {"f", of(api.Lib, 23), api.OK}, {"x", of(api.Fun, 1), api.OK}, {"x", of(api.Bool, 3), api.ErrForm}} {
		if e, want := x.m.SetGlobal(c.name, c.v), x.b.setGlobal(c.name, c.v); e != c.e || e != want {
			t.Errorf("SetGlobal(%q, %v): %d", c.name, c.v, e)
		}
	}
	x.call(of(api.Fun, 1))
	if out := x.m.Out(); !slices.Equal(out.Rets, []api.Val{of(api.Fun, 1)}) || x.m.Global("f") != of(api.Lib, 23) {
		t.Errorf("behind SetGlobal: %v", out)
	}
}

func TestTables_P18_1(t *testing.T) {
	m, _ := machine.New(50, 30)
	for i, c := range []struct {
		array, hash int
		v           api.Val
		e           api.Errno
		cells       int
	}{{0, 0, of(api.Tab, 1), 0, 4}, {-1, 0, nothing(), api.ErrArg, 4}, {0, 65537, nothing(), api.ErrArg, 4}, {30, 0, nothing(), api.ErrCells, 4}, {2, 3, of(api.Tab, 2), 0, 22}, {65536, 65536, nothing(), api.ErrCells, 22}, {4, 0, of(api.Tab, 3), 0, 30}, {0, 0, nothing(), api.ErrCells, 30}} {
		v, e := m.Make(c.array, c.hash)
		if out := m.Out(); v != c.v || e != c.e || out.Cells != c.cells || out.Err != api.OK {
			t.Errorf("row %d: %v, %d, %v", i, v, e, out)
		}
	}
	if m.Table(1) == nil || m.Table(2) == m.Table(3) || m.Table(2).Stats().Array != 2 || m.Table(2).Stats().Hash != 4 || m.Table(4) != nil || m.Table(0) != nil || m.Table(math.MinInt64) != nil || m.Table(math.MaxInt64) != nil {
		t.Error("Table")
	}
	// What is set by the host the program reads, and the other way round: it is one table.
	m, _ = machine.New(50, 50)
	m.Load("x = 0 function f() x[2] = x[1] y = {} return #x end")
	v, _ := m.Make(2, 0)
	m.SetGlobal("x", v)
	m.Table(1).Set(number(1), text("a"))
	if list, e := m.Call(of(api.Fun, 1), nil); e != api.OK || !slices.Equal(list, []api.Val{number(2)}) || m.Table(1).Get(number(2)) != text("a") || m.Out().Tables != 2 || m.Table(2) == nil {
		t.Errorf("a table of both: %v, %d, %v", list, e, m.Out())
	}
	m.Table(1).Get(text("x"))
	if m.Out().Probes != m.Table(1).Probes()+m.Table(2).Probes() {
		t.Errorf("Probes: %v", m.Out())
	}
}
