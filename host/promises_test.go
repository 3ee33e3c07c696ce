package host_test

import (
	"math"
	"math/rand"
	"slices"
	"strconv"
	"strings"
	"testing"
	"unicode/utf8"

	"trestle/api"
	"trestle/host"
	"trestle/machine"
	"trestle/parse"
)

// What programs come to, reckoned by hand: their lines, their errors, steps and cells.
func TestPrograms_P3(t *testing.T) {
	for _, c := range []struct {
		src         string
		fuel, cells int
		want        api.Out
	}{
		{"print(1 + 2, 'a' .. 3)", 100, 100, api.Out{Lines: []string{"3\ta3"}, Fuel: 98, Cells: 1}},
		{"local t = {} for i = 1, 10 do t[i] = i end print(stats(t))", 100, 100, api.Out{Lines: []string{"16\t0\t0"}, Fuel: 75, Cells: 20, Tables: 1}},
		{"x = 1 + nil", 9, 9, api.Out{Err: api.ErrType, Line: 1, Fuel: 8}},
		{"function f() f() end f()", 100, 20, api.Out{Err: api.ErrCells, Line: 1, Fuel: 89}},
		{"for p, c in utf8.codes('aé') do print(p, c) end", 100, 100, api.Out{Lines: []string{"1\t97", "2\t233"}, Fuel: 89}},
		{"local t = {3, 1, 2} table.sort(t) print(table.concat(t, ','))", 100, 100, api.Out{Lines: []string{"1,2,3"}, Fuel: 89, Cells: 8, Tables: 1}},
		{"x = 1\n\nx = 2\nx()\nx = 3", 3, 9, api.Out{Err: api.ErrCall, Line: 4}},
		{"x = 1\n\nx = 2\nx()\nx = 3", 2, 9, api.Out{Err: api.ErrFuel, Line: 4}},
		{"x = 1\n\nx = 2", 1, 3, api.Out{Err: api.ErrCells, Fuel: 1}},
		{"", 0, 4, api.Out{}},
	} {
		got := played(t, c.fuel, c.cells, load(c.src), start(), look())
		if got[0].Err != api.OK || got[1].Err != c.want.Err || !slices.Equal(got[1].Vals, c.want.Rets) || !sameOut(got[2].Out, c.want) {
			t.Errorf("%s: %v, want %v", c.src, got, c.want)
		}
	}
}

// Whatever fuel and cells there are, a program does the same by the host as it does by the machine, up to where it is refused more.
func TestEachFuelAndCell_P3(t *testing.T) {
	c := chance{Rand: rand.New(rand.NewSource(11)), probes: true}
	try := func(src string, fuel, cells int) {
		want, fail := machine.Run(src, fuel, cells)
		got := played(t, fuel, cells, load(src), start(), look())
		if got[0].Err != fail.Code || got[0].At != fail.At {
			t.Fatalf("%s: %v, want %v", src, got[0], fail)
		}
		if fail.Code == api.OK && (!sameOut(got[2].Out, want) || got[1].Err != want.Err || !slices.Equal(got[1].Vals, want.Rets)) {
			t.Fatalf("%s\n%d fuel, %d cells: %v, want %v", src, fuel, cells, got, want)
		}
	}
	for range 30 {
		src := c.source()
		for n := range 100 {
			try(src, n, 300)
			try(src, 300, n)
		}
	}
}

// loose: the same tokens with other blanks, and comments, between them.
func loose(r *rand.Rand, plain string) string {
	words := strings.Split(plain, " ")
	for i := range words {
		words[i] += []string{" ", "\n", "\t \r\n", " -- a remark\n"}[r.Intn(4)]
	}
	return strings.Join(words, "")
}

// Programs of one tree do the same but for lines, whatever is asked of them.
func TestOneTree_P3(t *testing.T) {
	c := chance{Rand: rand.New(rand.NewSource(12)), probes: true}
	runs := 0
	for range 400 {
		src := c.source()
		plain, _ := parse.Text(src)
		if played(t, 0, 0, load(src))[0].Err != api.OK {
			continue
		}
		runs++
		ops := append([]host.Op{load(src), start(), look()}, c.ops(30)...)
		fuel, cells := c.Intn(300), c.Intn(300)
		want := played(t, fuel, cells, ops...)
		for _, other := range []string{plain, loose(c.Rand, plain)} {
			ops[0] = load(other)
			for i, got := range played(t, fuel, cells, ops...) {
				got.Out.Line, want[i].Out.Line = 0, 0
				if !alike(got, want[i]) {
					t.Fatalf("%s\n%v: %v, want %v", other, ops[i], got, want[i])
				}
			}
		}
	}
	if runs < 200 {
		t.Errorf("only %d programs", runs)
	}
}

// mirror is what a table has to be, reckoned without slots, nodes or chains.
type mirror struct {
	vals        map[api.Val]api.Val // what is present
	held        map[api.Val]bool    // the keys that nodes hold, live or dead
	array, hash int
	rehashes    int
}

func (m *mirror) inArray(k api.Val) bool { return k.Kind == api.Int && k.N >= 1 && k.N <= m.array }

func (m *mirror) store(k, v api.Val) {
	grows := !m.inArray(k) && !m.held[k] && v.Kind != api.Nil
	if v.Kind == api.Nil {
		delete(m.vals, k)
	} else {
		m.vals[k] = v
	}
	switch {
	case grows && len(m.held) == m.hash:
		m.rehash()
	case grows:
		m.held[k] = true
	}
}

// rehash: the greatest power of two of whose numbers more than half are there; the least one with room for the rest.
func (m *mirror) rehash() {
	m.rehashes++
	m.array, m.held = 0, map[api.Val]bool{}
	for size := 1; size <= 65536; size *= 2 {
		there := 0
		for k := range m.vals {
			if k.Kind == api.Int && k.N >= 1 && k.N <= size {
				there++
			}
		}
		if 2*there > size {
			m.array = size
		}
	}
	for k := range m.vals {
		if !m.inArray(k) {
			m.held[k] = true
		}
	}
	m.hash = 0
	for m.hash < len(m.held) {
		m.hash = max(1, 2*m.hash)
	}
}

// wantPairs: are these the pairs that are there, the array's first and rising?
func (m *mirror) wantPairs(t *testing.T, vals []api.Val) {
	t.Helper()
	if len(vals) != 2*len(m.vals) {
		t.Fatalf("%d values for %d pairs", len(vals), len(m.vals))
	}
	last, told := 0, map[api.Val]bool{}
	for i := 0; i < len(vals); i += 2 {
		k := vals[i]
		if told[k] || m.vals[k] != vals[i+1] || m.inArray(k) && k.N <= last {
			t.Fatalf("the pair %v, %v", k, vals[i+1])
		}
		told[k] = true
		if m.inArray(k) {
			last = k.N
		} else {
			last = math.MaxInt64
		}
	}
}

func (m *mirror) border(n int) bool {
	_, here := m.vals[number(n)]
	_, above := m.vals[number(n+1)]
	return (n == 0 || here) && !above
}

// key: of few keys, so that they come again.
func key(r *rand.Rand, spread int) api.Val {
	switch r.Intn(6) {
	case 0:
		return text(strings.Repeat("k", r.Intn(spread)))
	case 1:
		return []api.Val{of(api.Bool, 0), of(api.Bool, 1), tab(1), of(api.Lib, 3), of(api.Fun, 2), number(0), number(-1), number(math.MaxInt64), number(math.MinInt64), text("\xff")}[r.Intn(10)]
	}
	return number(1 + r.Intn(spread))
}

// A table is a map, set by operations or by a program; its sizes change at a rehash alone, and are the census of the keys then.
func TestTableIsAMap_P4(t *testing.T) {
	r := rand.New(rand.NewSource(13))
	rehashes := 0
	for turn := range 200 {
		m := mirror{vals: map[api.Val]api.Val{}, held: map[api.Val]bool{}, array: r.Intn(6), hash: []int{0, 1, 2, 4, 8}[r.Intn(5)]}
		ops := []host.Op{load("function put(t, k, v) t[k] = v end function get(t, k) return t[k] end"), maker(m.array, m.hash)}
		var keys, vals []api.Val
		spread := 2 + turn%40
		for range 110 {
			k, v := key(r, spread), number(r.Intn(9))
			if r.Intn(3) == 0 {
				v = nothing()
			}
			put := []host.Op{op(host.Store, tab(1), k, v), op(host.Call, of(api.Fun, 1), tab(1), k, v)}[r.Intn(2)]
			get := []host.Op{op(host.Index, tab(1), k), op(host.Call, of(api.Fun, 2), tab(1), k)}[r.Intn(2)]
			ops = append(ops, put, get, op(host.Stats, tab(1)), op(host.Pairs, tab(1)), op(host.Len, tab(1)), look())
			keys, vals = append(keys, k), append(vals, v)
		}
		got := played(t, 100000, 100000, ops...)[2:]
		for i, k := range keys {
			m.store(k, vals[i])
			of := got[6*i : 6*i+6]
			if of[0].Err != api.OK || !slices.Equal(of[1].Vals, list(vals[i])) {
				t.Fatalf("%v: %v, want %v", k, of, vals[i])
			}
			if !slices.Equal(of[2].Vals[:2], numbers(m.array, m.hash)) || of[5].Out.Cells != 4+m.array+3*m.hash {
				t.Fatalf("behind %v: stats %v, %d cells, want %d, %d", k, of[2].Vals, of[5].Out.Cells, m.array, m.hash)
			}
			m.wantPairs(t, of[3].Vals)
			if !m.border(of[4].Vals[0].N) {
				t.Fatalf("%v is no border", of[4].Vals)
			}
		}
		rehashes += m.rehashes
	}
	if rehashes < 500 {
		t.Errorf("only %d rehashes", rehashes)
	}
}

// What is read of a table's nodes is the same whether an operation or a program reads.
func TestOneTableOfBoth_P4(t *testing.T) {
	r := rand.New(rand.NewSource(14))
	src := "x = nil function put(t, k, v) t[k] = v end function get(t, k) return t[k] end function len(t) return #t end"
	for range 200 {
		byOps := []host.Op{load(src), maker(r.Intn(3), r.Intn(5))}
		byCalls := slices.Clone(byOps)
		for range 60 {
			k, v := key(r, 20), key(r, 3)
			kind := []int{host.Store, host.Index, host.Len}[r.Intn(3)]
			vals := list(tab(1), k, v)
			byOps = append(byOps, op(kind, vals...), op(host.Stats, tab(1)), op(host.Pairs, tab(1)))
			fun := map[int]api.Val{host.Store: of(api.Fun, 1), host.Index: of(api.Fun, 2), host.Len: of(api.Fun, 3)}[kind]
			byCalls = append(byCalls, op(host.Call, append(list(fun), vals...)...), op(host.Stats, tab(1)), op(host.Pairs, tab(1)))
		}
		want := played(t, 10000, 10000, byOps...)
		for i, got := range played(t, 10000, 10000, byCalls...) {
			if !alike(got, want[i]) {
				t.Fatalf("%v: %v, want %v", byCalls[i], got, want[i])
			}
		}
	}
}

// bytes: a text of any bytes, in part valid.
func bytes(r *rand.Rand) string {
	parts := []string{"a", "é", "€", "\U0001F600", "\xff", "\x80", "\xe2\x82", "\xed\xa0\x80", "\x00", "\n", "\"", "\uFFFD", "\t", "\\", "\xf4\x90\x80\x80"}
	s := ""
	for range r.Intn(9) {
		s += parts[r.Intn(len(parts))]
	}
	return s
}

// A text comes out with the bytes with which it went in, by whatever way.
func TestBytes_P8(t *testing.T) {
	r := rand.New(rand.NewSource(15))
	for range 600 {
		s := text(bytes(r))
		hold(t, 100, 100,
			gives(load("x = 0 function same(a) x = a return a end function tell(a) print(a) t = {a} t[a] = a return t[a], t[1], #a end")),
			gives(named(host.Set, "x", s)),
			gives(named(host.Get, "x"), s),
			fails(named(host.Run, "x", s, s), api.ErrCall),
			gives(op(host.Call, of(api.Fun, 1), s), s),
			gives(named(host.Get, "x"), s),
			gives(op(host.Call, of(api.Fun, 2), s), s, s, number(len(s.S))),
			gives(op(host.Pairs, tab(1)), number(1), s, s, s),
			gives(op(host.Index, tab(1), s), s),
			gives(op(host.Next, tab(1), number(1)), s, s),
			gives(op(host.Store, tab(1), number(1), s)),
			gives(op(host.Index, tab(1), number(1)), s),
			gives(op(host.Call, of(api.Lib, 1), s)),
		)
		out := played(t, 100, 100, load(""), op(host.Call, of(api.Lib, 1), s), look())[2].Out
		if !slices.Equal(out.Lines, []string{s.S}) {
			t.Errorf("%q: %q", s.S, out.Lines)
		}
	}
}

// Going through a text by the library is going through it rune by rune, up to a byte that belongs to none.
func TestRunes_P8(t *testing.T) {
	r := rand.New(rand.NewSource(16))
	step := of(api.Lib, 23)
	for range 600 {
		s := bytes(r)
		rows := []row{gives(load("function tell(s) for p, c in utf8.codes(s) do print(p, c) end end"))}
		var lines []string
		place, last, e := 0, 0, api.OK
		for place < len(s) && e == api.OK {
			code, size := utf8.DecodeRuneInString(s[place:])
			if code == utf8.RuneError && size == 1 {
				e = api.ErrRune
				rows = append(rows, fails(op(host.Call, step, text(s), number(last)), e))
				break
			}
			rows = append(rows, gives(op(host.Call, step, text(s), number(last)), numbers(place+1, int(code))...))
			lines = append(lines, strconv.Itoa(place+1)+"\t"+strconv.Itoa(int(code)))
			last, place = place+1, place+size
		}
		if e == api.OK {
			rows = append(rows, gives(op(host.Call, step, text(s), number(last)), nothing()))
		}
		hold(t, 1000, 100, append(rows, fails(op(host.Call, of(api.Fun, 1), text(s)), e))...)
		out := played(t, 1000, 100, load(rows[0].Name), op(host.Call, of(api.Fun, 1), text(s)), look())[2].Out
		if !slices.Equal(out.Lines, lines) || out.Err != e {
			t.Errorf("%q: %q, %d, want %q, %d", s, out.Lines, out.Err, lines, e)
		}
	}
}

// Every operation with much that is wrong, with and without a program: it ends, and none panics.
func TestNoPanic_P1(t *testing.T) {
	all := []int{math.MinInt64, -1, 0, 1, 2, 65536, 65537, 400000, 1000000, math.MaxInt64}
	sources := []string{"", "x = {} function f(a) return a end", "\xff", strings.Repeat("x", 100000), strings.Repeat("(", 20000), strings.Repeat("do ", 6000), "x = '" + strings.Repeat("x", 10001) + "'"}
	vals := append(wrong(), nothing(), number(1), text("x"), tab(1), of(api.Fun, 1), of(api.Lib, 17))
	var ops []host.Op
	for kind := 1; kind <= 14; kind++ {
		for _, src := range sources {
			ops = append(ops, named(kind, src), named(kind, src, vals...))
		}
		for _, v := range vals {
			ops = append(ops, named(kind, "x", v), named(kind, "f", tab(1), v), named(kind, "x", tab(1), v, v), named(kind, "x", v, v, v, v))
		}
		ops = append(ops, named(kind, "x", make([]api.Val, 100000)...))
	}
	for _, n := range all {
		for _, k := range all {
			ops = append(ops, maker(n, k))
		}
	}
	for len(ops) > 0 {
		some := ops[:min(900, len(ops))]
		ops = ops[len(some):]
		for _, n := range all {
			for _, k := range all {
				replies, e := host.Play(n, k, some)
				if good := n >= 0 && n <= 1000000 && k >= 0 && k <= 400000; good != (e == api.OK) || good && len(replies) != len(some) {
					t.Errorf("Play(%d, %d): %d replies, %d", n, k, len(replies), e)
				}
			}
		}
	}
	host.Play(0, 0, make([]host.Op, 1000000))
}

// With all the fuel and cells that there may be, what would go on for ever ends, and what is asked behind it is answered.
func TestEnds_P1(t *testing.T) {
	for src, want := range map[string]api.Errno{
		"while true do end":                                         api.ErrFuel,
		"function f() return f() end f()":                           api.ErrCells,
		"function f(a, b) table.sort({1, 2}, f) end f()":            api.ErrCells,
		"while true do print() end":                                 api.ErrBig,
		"local t = {} while true do t[#t + 1] = t end":              api.ErrCells,
		"x = {} for i = 1, 60000 do x[i] = i end return nil + 1":    api.ErrType,
		"local t = {} for i = 1, 1000000 do t[i * 1000] = i end":    api.ErrBig,
		"local t = {table.sort} t[2] = t table.sort(t, table.sort)": api.ErrFuel,
	} {
		got := played(t, 1000000, 400000, load(src), start(), look(), named(host.Run, "print"), op(host.Pairs, tab(1)), op(host.Len, tab(1)), look())
		if got[1].Err != want || got[2].Out.Err != want || got[6].Out.Err == api.OK {
			t.Errorf("%s: %d, %d, %d", src, got[1].Err, got[2].Out.Err, got[6].Out.Err)
		}
	}
}

// spoil: all that a list has room for is written over.
func spoil(vals []api.Val) {
	for i := range vals[:cap(vals)] {
		vals[:cap(vals)][i] = text("spoilt")
	}
}

func spoilReply(r host.Reply) {
	spoil(r.Vals)
	spoil(r.Out.Rets)
	for i := range r.Out.Lines[:cap(r.Out.Lines)] {
		r.Out.Lines[:cap(r.Out.Lines)][i] = "spoilt"
	}
}

func copied(r host.Reply) host.Reply {
	r.Vals, r.Out.Rets, r.Out.Lines = slices.Clone(r.Vals), slices.Clone(r.Out.Rets), slices.Clone(r.Out.Lines)
	return r
}

// What is handed in stays as it is, its spare room too; what is answered shares no memory with it, nor one reply with another.
func TestMemory_R3(t *testing.T) {
	lists(17, 200, 50, func(c chance, ops []host.Op) {
		ops = append(ops, load("function f(a) print(a) return a, a end"), op(host.Call, of(api.Fun, 1), text("a")), look(), look())
		var before []host.Op
		for i := range ops {
			room := append(slices.Clone(ops[i].Vals), text("room"), text("more room"))
			ops[i].Vals = room[:len(room)-2]
			o := ops[i]
			o.Vals = slices.Clone(room)
			before = append(before, o)
		}
		got := played(t, 500, 500, ops...)
		for i, o := range ops {
			full := o.Vals[:len(o.Vals)+2]
			if o.Kind != before[i].Kind || o.Name != before[i].Name || o.A != before[i].A || o.B != before[i].B || !slices.Equal(full, before[i].Vals) {
				t.Fatalf("operation %d was changed: %v", i, full)
			}
		}
		var want []host.Reply
		for i := range got {
			want = append(want, copied(got[i]))
		}
		for i := range ops {
			spoil(ops[i].Vals)
			ops[i] = host.Op{}
		}
		for i := range got {
			if !alike(got[i], want[i]) {
				t.Fatalf("reply %d changed with another's memory: %v, want %v", i, got[i], want[i])
			}
			spoilReply(got[i])
		}
	})
	// One answer's memory is no other answer's.
	ops := []host.Op{load("x = {1, 2} print('a') return x, 1"), start(), look(), op(host.Pairs, tab(1)), named(host.Get, "x"), look()}
	one, two := played(t, 50, 50, ops...), played(t, 50, 50, ops...)
	three := played(t, 50, 50, ops...)
	for i := range ops {
		spoilReply(one[i])
		if !alike(two[i], three[i]) {
			t.Errorf("reply %d: %v, want %v", i, two[i], three[i])
		}
	}
}
