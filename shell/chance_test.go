package shell_test

import (
	"fmt"
	"math"
	"math/rand"
	"slices"
	"strings"
	"testing"
	"unicode/utf8"

	"trestle/api"
	"trestle/host"
	"trestle/lex"
	"trestle/machine"
)

// writer writes operations as lines, in one of the many ways in which they may stand.
type writer struct{ *rand.Rand }

func (w writer) of(all ...string) string { return all[w.Intn(len(all))] }

func (w writer) numeral(n uint64) string {
	if n > math.MaxInt64 || w.Intn(3) == 0 {
		return fmt.Sprintf(w.of("0x%x", "0X%X", "0x00%x"), n)
	}
	return fmt.Sprintf(w.of("%d", "%d", "0%d"), n)
}

// number: a number below 0 is a minus and a Number, or one that wraps round.
func (w writer) number(n int) string {
	if n < 0 && w.Intn(3) > 0 || w.Intn(30) == 0 {
		return "-" + w.blank() + w.numeral(-uint64(n))
	}
	return w.numeral(uint64(n))
}

// literal: a text in quotes of either kind, each byte as it stands or in one of its escapes.
func (w writer) literal(s string) string {
	if w.Intn(3) == 0 {
		return lex.Quote(s)
	}
	quote := w.of("'", "\"")
	out := quote
	for i := range len(s) {
		c := s[i]
		switch {
		case c == '\n' || c == '\\' || string(c) == quote || len(s) < 50 && w.Intn(4) == 0:
			out += fmt.Sprintf(w.of(`\x%02x`, `\x%02X`, `\%03d`), c)
		default:
			out += s[i : i+1]
		}
	}
	return out + quote
}

func (w writer) value(v api.Val) string {
	switch v.Kind {
	case api.Nil:
		return "nil"
	case api.Bool:
		return []string{"false", "true"}[v.N]
	case api.Int:
		return w.number(v.N)
	case api.Str:
		return w.literal(v.S)
	}
	return map[int]string{api.Tab: "tab", api.Fun: "fun", api.Lib: "lib"}[v.Kind] + w.gap() + w.numeral(uint64(v.N))
}

func (w writer) blank() string { return w.of("", "", " ", "\t", " \r ") }
func (w writer) gap() string   { return w.of(" ", " ", " ", "  ", "\t", "\r") }

// words: the commands' names, by their kinds.
func words() map[int]string {
	return map[int]string{host.Load: "load", host.Start: "start", host.Call: "call", host.Run: "run", host.Get: "get", host.Set: "set", host.Make: "make",
		host.Index: "index", host.Store: "store", host.Next: "next", host.Len: "len", host.Stats: "stats", host.Pairs: "pairs", host.Look: "look"}
}

func (w writer) line(o host.Op) string {
	parts := []string{words()[o.Kind]}
	switch o.Kind {
	case host.Load:
		parts = append(parts, w.literal(o.Name))
	case host.Run, host.Get, host.Set:
		parts = append(parts, o.Name)
	case host.Make:
		parts = append(parts, w.number(o.A), w.number(o.B))
	}
	for _, v := range o.Vals {
		parts = append(parts, w.value(v))
	}
	line := w.blank()
	for i, p := range parts {
		// A quote or a minus ends what stands ahead of it; of all others a blank has to part them.
		if i > 0 && !strings.ContainsAny(p[:1], "'\"-") {
			line += w.gap()
		}
		line += p + w.blank()
	}
	return line + w.of("", "", "", " -- a remark", "--'")
}

// byHand: for each operation the lines of its reply, from the replies of the host.
func byHand(ops []host.Op, replies []host.Reply) [][]string {
	all := make([][]string, len(ops))
	printed := 0
	for i, r := range replies {
		add := func(line string) {
			if len(line) > 10000 {
				line = "error 14"
			}
			all[i] = append(all[i], line)
		}
		switch {
		case ops[i].Kind == host.Look:
			o := r.Out
			add(fmt.Sprintf("ok fuel %d cells %d tables %d probes %d err %d line %d", o.Fuel, o.Cells, o.Tables, o.Probes, o.Err, o.Line))
			for ; printed < len(o.Lines); printed++ {
				add("print " + quoteByHand(o.Lines[printed]))
			}
			add("ret" + listByHand(o.Rets))
		case r.Err == api.OK:
			add("ok" + listByHand(r.Vals))
		case ops[i].Kind == host.Load:
			add(fmt.Sprintf("error %d at %d", r.Err, r.At))
		default:
			add(fmt.Sprintf("error %d", r.Err))
		}
	}
	return all
}

func listByHand(vals []api.Val) string {
	var all strings.Builder
	for _, v := range vals {
		all.WriteString(" " + valueByHand(v))
	}
	return all.String()
}

func valueByHand(v api.Val) string {
	switch v.Kind {
	case api.Nil:
		return "nil"
	case api.Bool:
		return fmt.Sprint(v.N == 1)
	case api.Int:
		return fmt.Sprint(v.N)
	case api.Str:
		return quoteByHand(v.S)
	}
	return fmt.Sprintf("%s %d", []string{"tab", "fun", "lib"}[v.Kind-api.Tab], v.N)
}

func quoteByHand(s string) string {
	var out strings.Builder
	for len(s) > 0 {
		r, size := utf8.DecodeRuneInString(s)
		switch {
		case r == utf8.RuneError && size == 1:
			fmt.Fprintf(&out, `\x%02x`, s[0])
		case strings.ContainsRune("\\\"", r):
			out.WriteString("\\" + s[:1])
		case r == '\n':
			out.WriteString(`\n`)
		case r == '\r':
			out.WriteString(`\r`)
		case r < 32 || r == 127:
			fmt.Fprintf(&out, `\%03d`, r)
		default:
			out.WriteString(s[:size])
		}
		s = s[size:]
	}
	return `"` + out.String() + `"`
}

// source: a program of a few functions and statements; now and then one that is refused.
func (w writer) source() string {
	if w.Intn(8) == 0 {
		return w.of("x =", "break", "x = table", "local a function f() return a end", "\xff", "x = 'a", strings.Repeat("x", 41)+" = 1")
	}
	out := "function f(a, b) x = a y = {b} return a, b, y end\nfunction put(t, k, v) t[k] = v end\nfunction get(t, k) return t[k] end\nfunction deep(n) return 1 + deep(n + 1) end\nn = n or 0 x = x or {} y = 'é'\n"
	for range 1 + w.Intn(8) {
		out += "do " + w.of("x = {1, 2, 3}", "x[#x + 1] = n", "n = n + 1", "x.k = n", "x[n * 1000] = 'a' .. n", "print(#x, n, y)", "for k, v in pairs(x) do x[k] = nil end", "y = utf8.char(n + 97, 233)", "table.sort(x)", "return x, n", "return x.k + 1", "while n < 7 do n = n + 1 x[n] = y end", "x = {a = x, [1] = n, y, y}", "print(f(y, x))", "print('\\n\\0\\xff', probes())", "print(stats(x))", "x[2] = nil", "print(table.unpack(x))") + " end\n"
	}
	return out
}

// known: a value that the machine mostly has.
func (w writer) known() api.Val {
	switch w.Intn(11) {
	case 0:
		return api.Val{}
	case 1:
		return api.Val{Kind: api.Bool, N: w.Intn(2)}
	case 2, 3, 4:
		return api.Val{Kind: api.Int, N: w.Intn(9) - 1}
	case 5:
		return api.Val{Kind: api.Int, N: []int{1000, math.MaxInt64, math.MinInt64, math.MinInt64 + 1, 1 << 40}[w.Intn(5)]}
	case 6, 7:
		return api.Val{Kind: api.Str, S: w.of("", "a", "k", "é", "12", "\xff", "\x00", "nil", "'", "\"", "\\", "\n\r\t", "--", "\x7f\u20ac\xe2\x82", strings.Repeat("\x01", 100))}
	case 8:
		return api.Val{Kind: api.Fun, N: 1 + w.Intn(5)}
	case 9:
		return api.Val{Kind: api.Lib, N: w.Intn(25)}
	}
	return w.table()
}

// table: one that there mostly is; now and then of a number that there can't be.
func (w writer) table() api.Val {
	return api.Val{Kind: api.Tab, N: []int{1, 2, 3, 1, 2, 3, 1, 2, 3, 1, 2, 0, 9}[w.Intn(13)]}
}

func (w writer) vals(n int) []api.Val {
	var all []api.Val
	for range n {
		all = append(all, w.known())
	}
	return all
}

func (w writer) op() host.Op {
	o := host.Op{Kind: 1 + w.Intn(14), Name: w.of("x", "y", "n", "f", "put", "get", "print", "deep", "nobody", "tab", "é", "load")}
	switch o.Kind {
	case host.Load:
		return host.Op{Kind: host.Load, Name: w.source()}
	case host.Start, host.Look:
		return host.Op{Kind: o.Kind}
	case host.Get:
	case host.Call:
		o.Name, o.Vals = "", w.vals(1+w.Intn(4))
	case host.Run:
		o.Vals = w.vals(w.Intn(4))
		if w.Intn(2) == 0 {
			o.Name, o.Vals = "put", append([]api.Val{w.table()}, w.vals(2)...)
		}
	case host.Set:
		o.Vals = w.vals(1)
	case host.Make:
		return host.Op{Kind: host.Make, A: w.Intn(9) - 1, B: w.Intn(5) - 1}
	default:
		n := map[int]int{host.Index: 2, host.Store: 3, host.Next: 2}[o.Kind]
		o.Name, o.Vals = "", append([]api.Val{w.table()}, w.vals(max(0, n-1))...)
		if w.Intn(20) == 0 {
			o.Vals[0] = w.known()
		}
	}
	return o
}

// ops: so many operations; mostly a program and two tables are there early.
func (w writer) ops(n int) []host.Op {
	all := []host.Op{{Kind: host.Make, A: w.Intn(5), B: w.Intn(5)}, {Kind: host.Load, Name: w.source()}, {Kind: host.Start}, {Kind: host.Make}}
	if w.Intn(5) == 0 {
		all = nil
	}
	for len(all) < n {
		all = append(all, w.op())
	}
	return all
}

func (w writer) lines(ops []host.Op) []string {
	var all []string
	for _, o := range ops {
		line := w.line(o)
		for len(line) > 2000 {
			line = w.line(o)
		}
		all = append(all, line)
	}
	return all
}

// Whatever is asked, however it is written, with much fuel and many cells or with few, the shell tells the machine that the host tells.
func TestByChance_P10(t *testing.T) {
	w := writer{rand.New(rand.NewSource(1))}
	ends := map[string]int{}
	for range 2000 {
		ops := w.ops(60)
		fuel, cells := w.Intn(400), w.Intn(400)
		replies, e := host.Play(fuel, cells, ops)
		if e != api.OK {
			t.Fatal(e)
		}
		for i, r := range replies {
			ends[fmt.Sprintf("%s %d", words()[ops[i].Kind], r.Err)]++
		}
		lines := w.lines(ops)
		got, want := ran(t, fuel, cells, strings.Join(lines, "\n")), slices.Concat(byHand(ops, replies)...)
		if !slices.Equal(got, want) {
			t.Fatalf("%q:\n%q, want\n%q", lines, got, want)
		}
	}
	for _, end := range strings.Split("load 0,load 1,load 4,load 5,start 0,start 1,start 8,start 10,start 11,call 0,call 1,call 2,call 8,call 10,call 11,call 13,run 0,run 1,run 2,run 8,run 9,run 10,run 11,run 13,get 0,set 0,set 1,set 2,set 5,make 0,make 1,make 10,index 0,index 2,index 8,store 0,store 2,store 8,store 9,store 10,next 0,next 2,next 8,next 9,len 0,len 2,len 8,stats 0,stats 2,stats 8,pairs 0,pairs 2,pairs 8,look 0", ",") {
		if ends[end] < 10 {
			t.Errorf("%s only %d times", end, ends[end])
		}
	}
}

// What a program comes to is told as the machine itself tells it.
func TestMachine_P10(t *testing.T) {
	w := writer{rand.New(rand.NewSource(2))}
	runs := 0
	for range 1500 {
		src, fuel, cells := w.source(), w.Intn(300), w.Intn(300)
		out, fail := machine.Run(src, fuel, cells)
		ops := []host.Op{{Kind: host.Load, Name: src}, {Kind: host.Start}, {Kind: host.Look}}
		want := []string{fmt.Sprintf("error %d at %d", fail.Code, fail.At)}
		if fail.Code == api.OK {
			runs++
			want = slices.Concat(byHand(ops, []host.Reply{{}, {Vals: out.Rets, Err: out.Err}, {Out: out}})...)
		} else {
			ops = ops[:1]
		}
		if got := ran(t, fuel, cells, strings.Join(w.lines(ops), "\n")); !slices.Equal(got, want) {
			t.Fatalf("%s\n%q, want %q", src, got, want)
		}
	}
	if runs < 1000 {
		t.Errorf("only %d programs ran", runs)
	}
}

// Many operations, and replies that are too long among them.
func TestMany_P10(t *testing.T) {
	w := writer{rand.New(rand.NewSource(3))}
	long := 0
	for turn := range 4 {
		ops := []host.Op{{Kind: host.Load, Name: "function fill(t, n) for i = 1, n do t[i * i] = 'value ' .. i end end function all(t) print(table.unpack(t)) return table.unpack(t) end"}, {Kind: host.Start}, {Kind: host.Make}}
		tab := api.Val{Kind: api.Tab, N: 1}
		for len(ops) < 1000 {
			n := api.Val{Kind: api.Int, N: w.Intn(100 + 300*turn)}
			ops = append(ops, []host.Op{{Kind: host.Call, Vals: []api.Val{{Kind: api.Fun, N: 1}, tab, n}}, {Kind: host.Pairs, Vals: []api.Val{tab}}, {Kind: host.Look}, {Kind: host.Run, Name: "all", Vals: []api.Val{tab}}, {Kind: host.Store, Vals: []api.Val{tab, n, {Kind: api.Str, S: strings.Repeat("\x02", 200)}}}}[w.Intn(5)])
		}
		replies, _ := host.Play(1000000, 400000, ops)
		want := slices.Concat(byHand(ops, replies)...)
		if got := ran(t, 1000000, 400000, strings.Join(w.lines(ops), "\n")); !slices.Equal(got, want) {
			t.Fatalf("turn %d: %d lines, want %d", turn, len(got), len(want))
		}
		for _, line := range want {
			if line == "error 14" {
				long++
			}
		}
		for _, r := range replies {
			if r.Err == api.ErrBig {
				long--
			}
		}
	}
	if long < 50 {
		t.Errorf("only %d long replies", long)
	}
}
