package machine_test

import (
	"math"
	"slices"
	"strings"
	"testing"

	"trestle/api"
	"trestle/machine"
)

func missing() *machine.Machine { return nil }

// Of no machine nothing is known, and all else is refused.
func TestNilMachine_P18_1(t *testing.T) {
	m := missing()
	if fail := m.Load(""); fail != (api.Fail{Code: api.ErrArg, At: -1}) {
		t.Errorf("Load: %v", fail)
	}
	if fail := m.Load("x"); fail != (api.Fail{Code: api.ErrArg, At: -1}) {
		t.Errorf("Load of a text that is refused: %v", fail)
	}
	if list, e := m.Start(); list != nil || e != api.ErrArg {
		t.Errorf("Start: %v, %d", list, e)
	}
	if list, e := m.Call(of(7, 7), make([]api.Val, 300)); list != nil || e != api.ErrArg {
		t.Errorf("Call: %v, %d", list, e)
	}
	if e := m.SetGlobal("x", of(7, 7)); e != api.ErrArg {
		t.Errorf("SetGlobal: %d", e)
	}
	if v, e := m.Make(1, 1); v != nothing() || e != api.ErrArg {
		t.Errorf("Make: %v, %d", v, e)
	}
	if m.Knows(nothing()) || m.Knows(of(api.Lib, 1)) || m.Global("print") != nothing() || m.Table(1) != nil || !alike(m.Out(), api.Out{}) {
		t.Error("Knows, Global, Table, Out")
	}
}

// wrong: values that aren't in form, or of numbers that no machine has.
func wrong() []api.Val {
	return []api.Val{of(-1, 0), of(7, 1), of(math.MinInt64, 1), of(math.MaxInt64, 1), of(api.Nil, 1), {Kind: api.Nil, S: "x"}, of(api.Bool, 2), {Kind: api.Int, N: 1, S: "x"}, {Kind: api.Str, N: 1}, text(strings.Repeat("x", 10001)), of(api.Tab, 0), of(api.Tab, math.MaxInt64), of(api.Fun, -1), of(api.Fun, math.MaxInt64), of(api.Lib, 0), of(api.Lib, math.MaxInt64), of(api.Lib, math.MinInt64)}
}

// pokes: every call, with much that is wrong; what it answers isn't asked.
func pokes(m *machine.Machine) {
	numbers := []int{math.MinInt64, -1, 0, 1, 2, 65536, 65537, math.MaxInt64}
	for _, v := range append(wrong(), nothing(), of(api.Lib, 1), of(api.Fun, 1), of(api.Tab, 1), text("x")) {
		m.Knows(v)
		m.Call(v, nil)
		m.Call(v, wrong())
		m.Call(of(api.Lib, 2), []api.Val{v})
		m.SetGlobal("x", v)
		m.SetGlobal("\xff", v)
	}
	for _, n := range numbers {
		m.Table(n)
		for _, k := range numbers {
			m.Make(n, k)
		}
	}
	m.Call(of(api.Lib, 1), make([]api.Val, 100000))
	m.Global("")
	m.Global(strings.Repeat("x", 100000))
	m.Start()
	m.Out()
}

func TestNoPanic_P1(t *testing.T) {
	loaded, _ := machine.New(1000, 1000)
	loaded.Load("x = 1 function f(a) return a end")
	fresh, _ := machine.New(0, 0)
	bare := new(machine.Machine)
	bareLoaded := new(machine.Machine)
	bareLoaded.Load("x = {} function f() return {} end")
	for _, m := range []*machine.Machine{missing(), bare, bareLoaded, fresh, loaded} {
		pokes(m)
		m.Load("\xff")
		m.Load(strings.Repeat("x", 100000))
		m.Load("x = 1")
		pokes(m)
	}
	for _, n := range []int{math.MinInt64, -1, 0, 1, math.MaxInt64} {
		for _, k := range []int{math.MinInt64, -1, 0, 1, math.MaxInt64} {
			machine.Run("x = {1, 2} print(x)", n, k)
		}
	}
}

// Who sets into a table that was handed out may set a table or a function that there isn't: a program that meets it ends, and nothing panics.
func TestForeignValues_P1(t *testing.T) {
	sources := []string{"return x[1].y", "x[1].y = 1", "x[1][2] = nil", "return #x[1]", "x[1]()", "x[1](1, 2)", "return x[1] == x[1], x[1] .. ''", "return x[1] < x[1]", "for k, v in pairs(x[1]) do end", "for k, v in ipairs(x[1]) do end", "for k in x[1] do end", "print(x[1])", "print(tostring(x[1]), type(x[1]))", "table.sort(x[1])", "table.sort({2, 1}, x[1])", "table.insert(x[1], 1)", "table.insert(x[1], 1, 1)", "table.remove(x[1])", "table.remove(x[1], 1)", "return table.concat(x[1])", "return table.unpack(x[1])", "return table.unpack(x[1], 1, 3)", "table.move(x[1], 1, 2, 3)", "table.move({1}, 1, 1, 1, x[1])", "return stats(x[1])", "return next(x[1])", "return next(x[1], 1)", "return rawlen(x[1])", "x[x[1]] = 1", "return {[x[1]] = x[1], x[1]}", "y = x[1]", "return x[1]"}
	for _, src := range sources {
		for _, v := range []api.Val{of(api.Tab, 99), of(api.Tab, math.MaxInt64), of(api.Fun, 1), of(api.Fun, math.MaxInt64), of(api.Lib, 24), of(api.Lib, math.MaxInt64)} {
			m, _ := machine.New(500, 500)
			m.Load(src)
			made, _ := m.Make(1, 0)
			m.SetGlobal("x", made)
			m.Table(1).Set(number(1), v)
			m.Start()
			if out := m.Out(); src == "x[1]()" && out.Err != api.ErrCall || out.Fuel == 500 {
				t.Errorf("%s with %v: %v", src, v, out)
			}
		}
	}
}

// What is handed in stays as it is, and isn't kept; what is answered is no memory of the machine's.
func TestMemory_R3(t *testing.T) {
	m, _ := machine.New(1000, 1000)
	m.Load("function keep(a, b) x = {a, b} print(a) return a, b, x end function again() return x[1], x[2] end x = nil")
	spare := []api.Val{number(1), text("a"), number(3), number(4)}
	for _, f := range []api.Val{of(api.Fun, 1), of(api.Lib, 1), of(api.Lib, 19), of(api.Lib, 2), of(api.Lib, 3)} {
		m.Call(f, spare[:2])
		if !slices.Equal(spare, []api.Val{number(1), text("a"), number(3), number(4)}) {
			t.Fatalf("Call of %v has changed what was handed in: %v", f, spare)
		}
	}
	list, _ := m.Call(of(api.Fun, 1), spare[:2])
	want := slices.Clone(list)
	spare[0], spare[1] = number(8), number(9)
	out := m.Out()
	for _, one := range [][]api.Val{list, list[:cap(list)], out.Rets} {
		for i := range one {
			one[i] = text("changed")
		}
	}
	out.Lines[0] = "changed"
	_ = append(out.Lines, "more")
	if out := m.Out(); !slices.Equal(out.Rets, want) || out.Lines[0] != "1" {
		t.Errorf("Out: %v, want %v", out, want)
	}
	if list, _ := m.Call(of(api.Fun, 2), nil); !slices.Equal(list, []api.Val{number(1), text("a")}) {
		t.Errorf("what was kept: %v", list)
	}
	one, two := m.Out(), m.Out()
	if &one.Rets[0] == &two.Rets[0] || &one.Lines[0] == &two.Lines[0] {
		t.Error("two answers share memory")
	}
}
