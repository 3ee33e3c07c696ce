package machine_test

import (
	"math"
	"slices"
	"strings"
	"testing"

	"trestle/api"
	"trestle/machine"
)

// asked is a call of a function of the library: what it returns, the steps behind that of the call itself, the cells that it leaves.
type asked struct {
	n            int
	args         []api.Val
	want         []api.Val
	e            api.Errno
	steps, cells int
}

func vals(list ...api.Val) []api.Val { return list }
func strs(list ...string) []api.Val {
	var all []api.Val
	for _, s := range list {
		all = append(all, text(s))
	}
	return all
}
func ints(list ...int) []api.Val {
	var all []api.Val
	for _, n := range list {
		all = append(all, number(n))
	}
	return all
}

// with: a value, and others behind it.
func with(v api.Val, list ...api.Val) []api.Val { return append([]api.Val{v}, list...) }

// The tables of stocked.
var (
	row3  = of(api.Tab, 1) // 3, 1, 2
	texts = of(api.Tab, 2) // "b", "a"
	empty = of(api.Tab, 3)
	named = of(api.Tab, 4) // x = 7, and 1 = 5
	mixed = of(api.Tab, 5) // 1, "a", nil, {}
)

// The functions of stocked.
var (
	yes, no, less, more, fails = of(api.Fun, 1), of(api.Fun, 2), of(api.Fun, 3), of(api.Fun, 4), of(api.Fun, 5)
)

// stocked: a machine and a book with functions and tables.
func stocked(t *testing.T, fuel int) both {
	x := newBoth(t, fuel, 300000)
	x.load("function yes() return true, nil end function no() end function less(a, b) return a < b end function more(a, b) return a > b, 1 end function fails(a, b) return a.x end")
	fill := func(list []api.Val, names ...string) {
		v, _ := x.m.Make(len(list), len(names))
		x.b.make(len(list), len(names))
		for i, w := range list {
			x.m.Table(v.N).Set(number(i+1), w)
			x.b.tables[v.N-1].Set(number(i+1), w)
		}
		for _, name := range names {
			x.m.Table(v.N).Set(text(name), number(7))
			x.b.tables[v.N-1].Set(text(name), number(7))
		}
	}
	fill(ints(3, 1, 2))
	fill(strs("b", "a"))
	fill(nil)
	fill(ints(5), "x")
	fill(vals(number(1), text("a"), nothing(), of(api.Tab, 3)))
	return x
}

func libraryRows(t *testing.T, rows []asked) {
	t.Helper()
	for i, c := range rows {
		x := stocked(t, 1000)
		cells := x.m.Out().Cells
		x.call(of(api.Lib, c.n), c.args...)
		out := x.m.Out()
		if out.Err != c.e || !slices.Equal(out.Rets, c.want) || out.Fuel != 999-c.steps || out.Cells != cells+c.cells || out.Line != 0 {
			t.Errorf("row %d: Lib %d of %.80v: %v (%d steps, %d cells)", i, c.n, c.args, out, 999-out.Fuel, out.Cells-cells)
		}
	}
}

func TestLibraryOfValues_P18_1(t *testing.T) {
	nul := nothing()
	libraryRows(t, []asked{
		{n: 1}, {n: 1, args: vals(nul, number(1), row3)},
		{n: 2, e: api.ErrType}, {n: 2, args: vals(nul), want: strs("nil")}, {n: 2, args: vals(boolean(false)), want: strs("boolean")}, {n: 2, args: ints(5, 6), want: strs("number")}, {n: 2, args: strs("a"), want: strs("string")}, {n: 2, args: vals(row3), want: strs("table")}, {n: 2, args: vals(yes), want: strs("function")}, {n: 2, args: vals(of(api.Lib, 23)), want: strs("function")},
		{n: 3, e: api.ErrType}, {n: 3, args: vals(nul), want: strs("nil"), cells: 1}, {n: 3, args: vals(boolean(true)), want: strs("true"), cells: 1}, {n: 3, args: ints(math.MinInt64), want: strs("-9223372036854775808"), cells: 3}, {n: 3, args: ints(12345678), want: strs("12345678"), cells: 2}, {n: 3, args: strs("12345678"), want: strs("12345678")}, {n: 3, args: vals(row3), want: strs("table: 1"), cells: 2}, {n: 3, args: vals(no, row3), want: strs("function: 2"), cells: 2}, {n: 3, args: vals(of(api.Lib, 3)), want: strs("builtin: 3"), cells: 2},
		{n: 4, e: api.ErrType}, {n: 4, args: vals(nul), want: vals(nul)}, {n: 4, args: ints(5), want: ints(5)}, {n: 4, args: strs("0x10"), want: ints(16)}, {n: 4, args: strs("-9223372036854775808"), want: ints(math.MinInt64)}, {n: 4, args: strs("9223372036854775808"), want: vals(nul)}, {n: 4, args: strs(""), want: vals(nul)}, {n: 4, args: strs(" 1"), want: vals(nul)}, {n: 4, args: strs("-0x1"), want: ints(-1)}, {n: 4, args: vals(boolean(true)), want: vals(nul)}, {n: 4, args: vals(row3), want: vals(nul)},
		{n: 8, e: api.ErrType}, {n: 8, args: ints(5), e: api.ErrType}, {n: 8, args: vals(nul), e: api.ErrType}, {n: 8, args: strs("aé"), want: ints(3)}, {n: 8, args: vals(row3), want: ints(3)}, {n: 8, args: vals(named), want: ints(1)}, {n: 8, args: vals(empty), want: ints(0)}, {n: 8, args: vals(yes), e: api.ErrType},
		{n: 9, e: api.ErrType}, {n: 9, args: strs("a"), e: api.ErrType}, {n: 9, args: vals(row3), want: ints(3, 0, 0)}, {n: 9, args: vals(named), want: ints(1, 1, 1)}, {n: 9, args: vals(empty), want: ints(0, 0, 0)},
		{n: 10, want: ints(1)}, {n: 10, args: ints(5), want: ints(1)},
	})
}

func TestLibraryOfTables_P18_1(t *testing.T) {
	nul, low, high := nothing(), number(math.MinInt64), number(math.MaxInt64)
	libraryRows(t, []asked{
		{n: 5, e: api.ErrType}, {n: 5, args: strs("a"), e: api.ErrType}, {n: 5, args: vals(row3), want: ints(1, 3)}, {n: 5, args: with(row3, number(1)), want: ints(2, 1)}, {n: 5, args: with(row3, number(3)), want: vals(nul)}, {n: 5, args: vals(empty), want: vals(nul)}, {n: 5, args: with(row3, text("x")), e: api.ErrKey}, {n: 5, args: with(row3, number(4)), e: api.ErrKey}, {n: 5, args: with(named, number(1)), want: vals(text("x"), number(7))}, {n: 5, args: with(named, text("x"), number(1)), want: vals(nul)},
		{n: 6, e: api.ErrType}, {n: 6, args: ints(1), e: api.ErrType}, {n: 6, args: vals(row3, row3), want: vals(of(api.Lib, 5), row3, nul)},
		{n: 7, e: api.ErrType}, {n: 7, args: strs("a"), e: api.ErrType}, {n: 7, args: vals(named), want: vals(of(api.Lib, 11), named, number(0))},
		{n: 11, e: api.ErrType}, {n: 11, args: vals(row3), e: api.ErrType}, {n: 11, args: with(row3, text("1")), e: api.ErrType}, {n: 11, args: vals(number(1), number(1)), e: api.ErrType}, {n: 11, args: with(row3, number(0)), want: ints(1, 3)}, {n: 11, args: with(row3, number(2)), want: ints(3, 2)}, {n: 11, args: with(row3, number(3)), want: vals(nul)}, {n: 11, args: with(row3, high), want: vals(nul)}, {n: 11, args: with(row3, number(-5)), want: vals(nul)},
		{n: 12, e: api.ErrType}, {n: 12, args: vals(row3), e: api.ErrType}, {n: 12, args: vals(text("a"), nul), e: api.ErrType}, {n: 12, args: vals(row3, number(1), nul, nul), e: api.ErrType}, {n: 12, args: with(row3, text("a"), nul), e: api.ErrType}, {n: 12, args: with(row3, nul, nul), e: api.ErrType}, {n: 12, args: with(row3, number(9)), cells: 1}, {n: 12, args: with(row3, nul)}, {n: 12, args: with(row3, number(1), number(9)), steps: 3, cells: 1}, {n: 12, args: with(row3, number(4), number(9)), cells: 1}, {n: 12, args: with(row3, number(5), number(9)), e: api.ErrArg}, {n: 12, args: with(row3, number(0), number(9)), e: api.ErrArg}, {n: 12, args: with(empty, number(1)), cells: 1}, {n: 12, args: with(empty, number(1), nul)},
		{n: 13, e: api.ErrType}, {n: 13, args: strs("a"), e: api.ErrType}, {n: 13, args: with(row3, text("a")), e: api.ErrType}, {n: 13, args: vals(row3), want: ints(2)}, {n: 13, args: vals(row3, nul), want: ints(2)}, {n: 13, args: with(row3, number(1)), want: ints(3), steps: 2}, {n: 13, args: with(row3, number(4)), want: vals(nul)}, {n: 13, args: with(row3, number(5)), e: api.ErrArg}, {n: 13, args: with(row3, number(0)), e: api.ErrArg}, {n: 13, args: vals(empty), want: vals(nul)}, {n: 13, args: with(row3, low), e: api.ErrArg},
		{n: 14, e: api.ErrType}, {n: 14, args: strs("a"), e: api.ErrType}, {n: 14, args: vals(row3), want: strs("312"), steps: 3, cells: 1}, {n: 14, args: with(row3, text(", ")), want: strs("3, 1, 2"), steps: 3, cells: 1}, {n: 14, args: with(row3, text("...")), want: strs("3...1...2"), steps: 3, cells: 2}, {n: 14, args: with(row3, nul, number(2)), want: strs("12"), steps: 2, cells: 1}, {n: 14, args: with(row3, nul, nul, number(2)), want: strs("31"), steps: 2, cells: 1}, {n: 14, args: with(row3, text("-"), number(3), number(2)), want: strs(""), cells: 1}, {n: 14, args: with(row3, number(1)), e: api.ErrType}, {n: 14, args: with(row3, text("a"), text("1")), e: api.ErrType}, {n: 14, args: with(row3, text("a"), number(1), text("1")), e: api.ErrType}, {n: 14, args: vals(mixed), e: api.ErrType, steps: 3}, {n: 14, args: with(mixed, nul, nul, number(2)), want: strs("1a"), steps: 2, cells: 1}, {n: 14, args: vals(empty), want: strs(""), cells: 1}, {n: 14, args: with(row3, nul, low, high), e: api.ErrType, steps: 1}, {n: 14, args: with(row3, text(strings.Repeat("x", 9999)), number(1), number(2)), e: api.ErrBig, steps: 1 + 1}, {n: 14, args: with(row3, text(strings.Repeat("x", 9998)), number(1), number(2)), want: strs("3" + strings.Repeat("x", 9998) + "1"), steps: 2, cells: 1251},
		{n: 15, e: api.ErrType}, {n: 15, args: strs("a"), e: api.ErrType}, {n: 15, args: vals(row3), want: ints(3, 1, 2)}, {n: 15, args: with(row3, number(2)), want: ints(1, 2)}, {n: 15, args: with(row3, nul, number(2)), want: ints(3, 1)}, {n: 15, args: with(row3, number(3), number(5)), want: vals(number(2), nul, nul)}, {n: 15, args: with(row3, number(2), number(1))}, {n: 15, args: with(row3, text("1")), e: api.ErrType}, {n: 15, args: with(row3, number(1), text("1")), e: api.ErrType}, {n: 15, args: with(row3, number(1), number(200)), want: append(ints(3, 1, 2), make([]api.Val, 197)...)}, {n: 15, args: with(row3, number(0), number(200)), e: api.ErrBig}, {n: 15, args: with(row3, low, high), e: api.ErrBig}, {n: 15, args: vals(empty)},
		{n: 16, e: api.ErrType}, {n: 16, args: with(row3, number(1), number(2)), e: api.ErrType}, {n: 16, args: with(row3, number(1), number(2), nul, row3), e: api.ErrType}, {n: 16, args: with(text("a"), ints(1, 2, 3)...), e: api.ErrType}, {n: 16, args: with(row3, append(ints(1, 2, 3), text("a"))...), e: api.ErrType}, {n: 16, args: with(row3, ints(1, 2, 2)...), want: vals(row3), steps: 2}, {n: 16, args: with(row3, ints(1, 3, 2)...), want: vals(row3), steps: 3, cells: 1}, {n: 16, args: with(row3, append(ints(1, 2, 1), empty)...), want: vals(empty), steps: 2, cells: 2}, {n: 16, args: with(row3, append(ints(2, 1, 1), texts)...), want: vals(texts)}, {n: 16, args: vals(row3, low, high, number(1)), e: api.ErrBig}, {n: 16, args: vals(row3, number(1), number(2), high), e: api.ErrBig},
	})
}

func TestSort_P18_1(t *testing.T) {
	libraryRows(t, []asked{
		{n: 17, e: api.ErrType}, {n: 17, args: strs("a"), e: api.ErrType}, {n: 17, args: vals(row3, row3), e: api.ErrType}, {n: 17, args: with(row3, text("a")), e: api.ErrType}, {n: 17, args: with(row3, boolean(false)), e: api.ErrType},
		{n: 17, args: vals(empty)}, {n: 17, args: vals(named)}, {n: 17, args: vals(empty, fails)},
		{n: 17, args: vals(row3), steps: 2}, {n: 17, args: vals(texts), steps: 1}, {n: 17, args: vals(texts, nothing()), steps: 1},
		{n: 17, args: vals(row3, less), steps: 2 * 3}, {n: 17, args: vals(row3, more), steps: 3 * 3}, {n: 17, args: vals(row3, yes), steps: 2 * 3}, {n: 17, args: vals(row3, no), steps: 3 * 2},
		{n: 17, args: vals(row3, of(api.Lib, 2)), steps: 2 * 2}, {n: 17, args: vals(row3, of(api.Lib, 1)), steps: 3 * 2}, {n: 17, args: vals(texts, of(api.Lib, 17)), e: api.ErrType, steps: 2}, {n: 17, args: vals(row3, of(api.Lib, 19)), steps: 2 * 2, cells: 2},
	})
	x := stocked(t, 1000)
	x.call(of(api.Lib, 17), row3, fails)
	if out := x.m.Out(); out.Err != api.ErrType || out.Line != 1 || out.Fuel != 1000-4 {
		t.Errorf("a function that fails: %v", out)
	}
	x.call(of(api.Lib, 17), mixed)
	if out := x.m.Out(); out.Err != api.ErrType || out.Line != 0 {
		t.Errorf("values without an order: %v", out)
	}
	for _, c := range []struct {
		src, want string
		e         api.Errno
	}{
		{"local t = {3, 1, 2, 5, 4, 9, 7} table.sort(t) print(table.concat(t, ' '))", "1 2 3 4 5 7 9", 0},
		{"function f(a, b) return a > b end local t = {3, 1, 2, 5, 4, 9, 7} table.sort(t, f) print(table.concat(t, ' '))", "9 7 5 4 3 2 1", 0},
		{"local t = {'b', '', 'é', 'ab', 'a'} table.sort(t) print(table.concat(t, ' '))", " a ab b é", 0},
		{"function f(a, b) return #a < #b end local t = {{1, 1}, {}, {1}} table.sort(t, f) print(#t[1], #t[2], #t[3])", "0 1 2", 0},
		{"function f() return true end table.sort({1, 2, 3, 4}, f)", "", api.ErrOrder},
		{"function f() return 0 end table.sort({1, 2, 3, 4}, f)", "", api.ErrOrder},
		{"function no() end local t = {1, 2, 3, 4} table.sort(t, no) print(table.concat(t, ' '))", "1 3 2 4", 0},
		{"function f(a, b) return false, true end local t = {2, 1} table.sort(t, f) print(table.concat(t, ' '))", "2 1", 0},
		{"function f(a, b) n = (n or 0) + 1 local u = {b, a} table.sort(u) return a < b end local t = {4, 3, 2, 1} table.sort(t, f) print(table.concat(t, ' '), n > 3)", "1 2 3 4 true", 0},
		{"function inner(a, b) return a < b end function f(a, b) table.sort(a, inner) return a[1] < b[1] end local t = {{5, 4}, {3, 2}, {9, 1}} table.sort(t, f) print(t[1][2], t[2][2], t[3][1])", "9 3 4", 0},
		{"function f(a, b) return nobody() end table.sort({1, 2}, f)", "", api.ErrCall},
		{"local t = {table.sort} t[2] = t table.sort(t, table.sort)", "", api.ErrFuel},
	} {
		got, fail := machine.Run(c.src, 1000, 1000)
		line := ""
		if len(got.Lines) > 0 {
			line = strings.ReplaceAll(got.Lines[0], "\t", " ")
		}
		if fail.Code != api.OK || got.Err != c.e || line != c.want {
			t.Errorf("%s: %v, %v", c.src, got, fail)
		}
		try(t, c.src, 1000, 1000)
	}
}

func TestLibraryOfTexts_P18_1(t *testing.T) {
	nul, low, high := nothing(), number(math.MinInt64), number(math.MaxInt64)
	aé := text("aé")
	libraryRows(t, []asked{
		{n: 18, e: api.ErrType}, {n: 18, args: ints(1), e: api.ErrType}, {n: 18, args: with(aé, text("1")), e: api.ErrType}, {n: 18, args: with(aé, number(1), text("1")), e: api.ErrType}, {n: 18, args: vals(aé), want: ints(2)}, {n: 18, args: vals(aé, nul, nul, nul), want: ints(2)}, {n: 18, args: with(aé, number(2)), want: ints(1)}, {n: 18, args: with(aé, number(1), number(1)), want: ints(1)}, {n: 18, args: with(aé, nul, number(1)), want: ints(1)}, {n: 18, args: strs("a\xffb"), want: vals(nul, number(2))}, {n: 18, args: with(aé, number(3)), want: vals(nul, number(3))}, {n: 18, args: with(aé, number(5)), e: api.ErrArg}, {n: 18, args: with(aé, low, high), e: api.ErrArg}, {n: 18, args: strs(""), want: ints(0)},
		{n: 19, want: strs(""), cells: 1}, {n: 19, args: ints(97, 233), want: strs("aé"), cells: 1}, {n: 19, args: ints(8364, 8364, 97, 97), want: strs("€€aa"), cells: 2}, {n: 19, args: vals(number(-1), text("a")), e: api.ErrType}, {n: 19, args: vals(nul), e: api.ErrType}, {n: 19, args: ints(97, -1), e: api.ErrRune}, {n: 19, args: ints(0xD800), e: api.ErrRune}, {n: 19, args: vals(high), e: api.ErrRune},
		{n: 20, e: api.ErrType}, {n: 20, args: ints(1), e: api.ErrType}, {n: 20, args: with(aé, text("1")), e: api.ErrType}, {n: 20, args: with(aé, number(1), text("1")), e: api.ErrType}, {n: 20, args: vals(aé), want: ints(97)}, {n: 20, args: with(aé, number(2)), want: ints(233)}, {n: 20, args: with(aé, number(-2)), want: ints(233)}, {n: 20, args: with(aé, number(1), number(-1)), want: ints(97, 233)}, {n: 20, args: with(aé, nul, number(2)), want: ints(97, 233)}, {n: 20, args: with(aé, number(2), number(1))}, {n: 20, args: with(aé, number(0)), e: api.ErrArg}, {n: 20, args: with(aé, number(4)), e: api.ErrArg}, {n: 20, args: strs(""), e: api.ErrArg}, {n: 20, args: strs("\xff"), e: api.ErrRune}, {n: 20, args: with(text(strings.Repeat("x", 201)), number(1), number(-1)), e: api.ErrBig}, {n: 20, args: with(text(strings.Repeat("x", 200)), number(1), number(-1)), want: ints(slices.Repeat([]int{120}, 200)...)},
		{n: 21, e: api.ErrType}, {n: 21, args: vals(aé), e: api.ErrType}, {n: 21, args: vals(number(1), number(1)), e: api.ErrType}, {n: 21, args: with(aé, number(1), text("1")), e: api.ErrType}, {n: 21, args: with(aé, number(1)), want: ints(1)}, {n: 21, args: with(aé, number(2)), want: ints(2)}, {n: 21, args: with(aé, number(3)), want: ints(4)}, {n: 21, args: with(aé, number(4)), want: vals(nul)}, {n: 21, args: with(aé, number(0)), want: ints(4)}, {n: 21, args: with(aé, number(-1)), want: ints(2)}, {n: 21, args: with(aé, number(-3)), want: vals(nul)}, {n: 21, args: with(aé, number(0), number(3)), want: ints(2)}, {n: 21, args: with(aé, number(1), number(3)), e: api.ErrArg}, {n: 21, args: with(aé, number(1), number(5)), e: api.ErrArg}, {n: 21, args: with(aé, low), want: vals(nul)}, {n: 21, args: with(aé, high), want: vals(nul)},
		{n: 22, e: api.ErrType}, {n: 22, args: ints(1), e: api.ErrType}, {n: 22, args: vals(aé, nul), want: vals(of(api.Lib, 23), aé, number(0))}, {n: 22, args: strs("\xff"), want: vals(of(api.Lib, 23), text("\xff"), number(0))},
		{n: 23, e: api.ErrType}, {n: 23, args: vals(aé), e: api.ErrType}, {n: 23, args: vals(number(0), number(0)), e: api.ErrType}, {n: 23, args: with(aé, number(0)), want: ints(1, 97)}, {n: 23, args: with(aé, number(1)), want: ints(2, 233)}, {n: 23, args: with(aé, number(2)), want: vals(nul)}, {n: 23, args: with(aé, number(4)), e: api.ErrArg}, {n: 23, args: with(aé, number(-1)), e: api.ErrArg}, {n: 23, args: with(text("a\xff"), number(1)), e: api.ErrRune}, {n: 23, args: strs("", ""), e: api.ErrType}, {n: 23, args: with(text(""), number(0)), want: vals(nul)},
	})
}

// print: what it shows, and how much of it there may be.
func TestPrint_P18_1(t *testing.T) {
	x := stocked(t, 1000)
	show := of(api.Lib, 1)
	x.call(show, nothing(), boolean(true), number(-5), text("a\tb\n\xff"), row3, yes, show)
	x.call(show)
	x.call(show, text(""), text(""))
	if got := x.m.Out().Lines; !slices.Equal(got, lines("nil\ttrue\t-5\ta\tb\n\xff\ttable: 1\tfunction: 1\tbuiltin: 1", "", "\t")) {
		t.Errorf("Lines: %q", got)
	}
	x = stocked(t, 1000)
	line := text(strings.Repeat("x", 9999))
	for range 9 {
		x.call(show, line)
	}
	x.call(show, text(strings.Repeat("y", 5000)), text(strings.Repeat("y", 5000)))
	if out := x.m.Out(); out.Err != api.ErrBig || len(out.Lines) != 9 {
		t.Errorf("a byte too many: %d, %d lines", out.Err, len(out.Lines))
	}
	x.call(show, text(strings.Repeat("y", 5000)), text(strings.Repeat("y", 4997)))
	x.call(show)
	if out := x.m.Out(); out.Err != api.OK || len(out.Lines) != 11 {
		t.Errorf("just as many as may be: %d, %d lines", out.Err, len(out.Lines))
	}
	x.call(show)
	x.call(show, line)
	if out := x.m.Out(); out.Err != api.ErrBig || len(out.Lines) != 11 || out.Fuel != 1000-14 {
		t.Errorf("one line too many: %d, %d lines", out.Err, len(out.Lines))
	}
}

// Where layer 15 makes steps the fuel is that of the machine, beside an error too.
func TestStepsOfTablib_P18_1(t *testing.T) {
	for fuel := range 8 {
		for i, c := range []struct {
			n    int
			args []api.Val
			need int
		}{
			{12, with(row3, number(1), number(9)), 3}, {13, with(row3, number(1)), 2}, {14, vals(row3), 3}, {16, with(row3, ints(1, 3, 2)...), 3}, {17, vals(row3), 2}, {17, vals(row3, less), 6},
		} {
			x := stocked(t, fuel)
			x.call(of(api.Lib, c.n), c.args...)
			out := x.m.Out()
			want, e := fuel-1-c.need, api.OK
			if want < 0 {
				want, e = 0, api.ErrFuel
			}
			if out.Fuel != want || out.Err != e {
				t.Errorf("row %d with %d: %v", i, fuel, out)
			}
		}
	}
}

// Defaults are found when they are asked for: the border leaves its hint, or reads nodes, only then.
func TestDefaults_P18_1(t *testing.T) {
	for _, c := range []struct {
		n      int
		args   []api.Val
		probes int
		e      api.Errno
	}{
		{14, with(empty, nothing(), number(1), number(0)), 0, 0},
		{14, with(empty, nothing(), number(2)), 0, 0},
		{14, with(named, nothing(), number(9)), 1, 0},
		{14, with(named, nothing(), number(9), number(8)), 0, 0},
		{14, with(named, number(1)), 0, api.ErrType},
		{14, with(named, nothing(), text("a")), 0, api.ErrType},
		{15, with(named, number(9)), 1, 0},
		{15, with(named, number(9), number(8)), 0, 0},
		{15, with(named, text("a")), 0, api.ErrType},
		{17, with(named, text("a")), 0, api.ErrType},
		{17, vals(named), 1, 0},
		{13, vals(named), 2, 0},
		{13, with(named, number(1)), 1, 0},
		{13, with(named, text("a")), 0, api.ErrType},
	} {
		x := stocked(t, 100)
		before := x.m.Out().Probes
		x.call(of(api.Lib, c.n), c.args...)
		if out := x.m.Out(); out.Err != c.e || out.Probes-before != c.probes {
			t.Errorf("Lib %d of %v: %d, %d probes", c.n, c.args, out.Err, out.Probes-before)
		}
	}
}
