package check_test

import (
	"math/rand"
	"slices"
	"strconv"
	"strings"
	"testing"

	"trestle/api"
	"trestle/check"
	"trestle/lex"
	"trestle/parse"
)

type node = parse.Node

func ofName(at int) api.Fail { return api.Fail{Code: api.ErrName, At: at} }
func ofSize(at int) api.Fail { return api.Fail{Code: api.ErrSize, At: at} }
func ofText(at int) api.Fail { return api.Fail{Code: api.ErrText, At: at} }

func number(n int) api.Val  { return api.Val{Kind: api.Int, N: n} }
func text(s string) api.Val { return api.Val{Kind: api.Str, S: s} }

// many: n times one, with between between two; each % in it is the number of the one, from 1 on.
func many(n int, between, one string) string {
	var all []string
	for i := range n {
		all = append(all, strings.ReplaceAll(one, "%", strconv.Itoa(i+1)))
	}
	return strings.Join(all, between)
}

func sameReport(a, b check.Report) bool {
	return slices.Equal(a.Globals, b.Globals) && slices.EqualFunc(a.Funcs, b.Funcs, func(f, g check.Func) bool {
		return f.Name == g.Name && f.At == g.At && f.Params == g.Params && f.Slots == g.Slots && slices.Equal(f.Consts, g.Consts)
	})
}

// The library by the chapter's words.
const library = "print 1, type 2, tostring 3, tonumber 4, next 5, pairs 6, ipairs 7, rawlen 8, stats 9, probes 10, table.insert 12, table.remove 13, table.concat 14, table.unpack 15, table.move 16, table.sort 17, utf8.len 18, utf8.char 19, utf8.codepoint 20, utf8.offset 21, utf8.codes 22"

var numbers = libraryByHand()

func libraryByHand() map[string]int {
	all := map[string]int{}
	for _, row := range strings.Split(library, ", ") {
		name, n, _ := strings.Cut(row, " ")
		all[name], _ = strconv.Atoi(n)
	}
	return all
}

// step: a node on the way down from the chunk's Block, and which of its Kids the way goes on with.
type step struct {
	n   node
	kid int
}

// place: a node, the way down to it, and whether it is a Name that is brought, or the end of what a node brings.
type place struct {
	node
	way           []step
	brought, done bool
}

// places: all places of a tree in the order in which the check goes through them.
func places(n node, way []step) []place {
	all := []place{{node: n, way: way}}
	down := func(i int) []step { return append(slices.Clone(way), step{n, i}) }
	kids := func(from, to int) {
		for i := from; i < to; i++ {
			all = append(all, places(n.Kids[i], down(i))...)
		}
	}
	names := func(to int) {
		for i := range to {
			all = append(all, place{node: n.Kids[i], way: down(i), brought: true})
		}
		all = append(all, place{node: n, way: way, done: true})
	}
	last := len(n.Kids) - 1
	switch n.Kind {
	case parse.Local:
		kids(n.N, len(n.Kids))
		names(n.N)
	case parse.For:
		kids(1, last)
		names(1)
		kids(last, last+1)
	case parse.ForIn:
		kids(n.N, last)
		names(n.N)
		kids(last, last+1)
	case parse.Function:
		names(n.N)
		kids(n.N, n.N+1)
	case parse.Index:
		if !keptIndex(n) {
			kids(0, 2)
		}
	default:
		kids(0, len(n.Kids))
	}
	return all
}

func kept(s string) bool { return s == "table" || s == "utf8" }

func keptIndex(n node) bool {
	return n.Kind == parse.Index && n.Kids[0].Kind == parse.Name && kept(n.Kids[0].Text)
}

func texts(nodes []node) []string {
	var all []string
	for _, n := range nodes {
		all = append(all, n.Text)
	}
	return all
}

// there: the locals that are there at the place: of its function, and, in a Function, those of the chunk at that.
func (p place) there() (own, chunk []string) {
	for _, s := range p.way {
		isBlock := s.kid == len(s.n.Kids)-1
		switch {
		case s.n.Kind == parse.Block:
			for _, ahead := range s.n.Kids[:s.kid] {
				if ahead.Kind == parse.Local {
					own = append(own, texts(ahead.Kids[:ahead.N])...)
				}
			}
		case s.n.Kind == parse.For && isBlock:
			own = append(own, "", "", "", s.n.Kids[0].Text)
		case s.n.Kind == parse.ForIn && isBlock:
			own = append(append(own, "", "", ""), texts(s.n.Kids[:s.n.N])...)
		case s.n.Kind == parse.Function && isBlock:
			own, chunk = texts(s.n.Kids[:s.n.N]), own
		}
	}
	return own, chunk
}

// after: how many locals of the function whose node brings them are there behind its names.
func (p place) after() int {
	own, _ := p.there()
	switch p.Kind {
	case parse.Function:
		return p.N
	case parse.For:
		return len(own) + 4
	case parse.ForIn:
		return len(own) + 3 + p.N
	}
	return len(own) + p.N
}

// function: the Function that it stands in (or is, where its parameters are brought); -1: the chunk.
func (p place) function() int {
	for _, s := range p.way {
		if s.n.Kind == parse.Function {
			return s.n.At
		}
	}
	if p.Kind == parse.Function && p.done {
		return p.At
	}
	return -1
}

func (p place) within(kinds ...int) bool {
	return slices.ContainsFunc(p.way, func(s step) bool { return slices.Contains(kinds, s.n.Kind) })
}

func (p place) isTarget() bool {
	if len(p.way) == 0 {
		return false
	}
	s := p.way[len(p.way)-1]
	return s.n.Kind == parse.Assign && s.kid < s.n.N
}

// survey: the constants and Functions that were met, by the Function (-1: the chunk).
type survey struct {
	consts map[int][]api.Val
	slots  map[int]int
	funcs  []node
	globes []string
}

func (s *survey) global(name string) {
	if !slices.Contains(s.globes, name) {
		s.globes = append(s.globes, name)
	}
}

// look: the place's fault; api.OK: none.
func (s *survey) look(p place) api.Errno {
	kids := len(p.Kids)
	size := func(is bool) api.Errno {
		if is {
			return api.ErrSize
		}
		return api.OK
	}
	name := func(is bool) api.Errno {
		if is {
			return api.ErrName
		}
		return api.OK
	}
	switch {
	case p.brought:
		return name(kept(p.Text))
	case p.done:
		n := p.after()
		s.slots[p.function()] = max(s.slots[p.function()], n)
		return size(n > 60)
	}
	switch p.Kind {
	case parse.Function:
		s.funcs = append(s.funcs, p.node)
		s.global(p.Text)
		if len(s.funcs) == 101 {
			return api.ErrSize
		}
		if kept(p.Text) {
			return api.ErrName
		}
		return size(p.N > 50)
	case parse.Local, parse.Assign:
		return size(p.N > 50 || kids-p.N > 50)
	case parse.ForIn:
		return size(p.N > 50 || kids-1-p.N > 50)
	case parse.Call:
		return size(kids > 51)
	case parse.Return:
		return size(kids > 50)
	case parse.Table:
		return size(kids > 200)
	case parse.Break:
		return name(!p.within(parse.While, parse.For, parse.ForIn))
	case parse.Index:
		return name(keptIndex(p.node) && (p.isTarget() || p.Kids[1].Kind != parse.Str || numbers[p.Kids[0].Text+"."+p.Kids[1].Text] == 0))
	case parse.Name:
		return name(s.refuses(p))
	case parse.Int:
		return size(s.constant(p, number(p.N)))
	case parse.Str:
		return size(s.constant(p, text(p.Text)))
	}
	return api.OK
}

// refuses: may the Name not stand there? If it may and is a global, it is met.
func (s *survey) refuses(p place) bool {
	own, chunk := p.there()
	switch {
	case kept(p.Text):
		return true
	case slices.Contains(own, p.Text):
		return false
	case slices.Contains(chunk, p.Text):
		return true
	}
	s.global(p.Text)
	return false
}

// constant: is it one too many?
func (s *survey) constant(p place, v api.Val) bool {
	f := p.function()
	if !slices.Contains(s.consts[f], v) {
		s.consts[f] = append(s.consts[f], v)
	}
	return len(s.consts[f]) > 250
}

// checkByHand: Check by the chapter's words: what is there at each place is looked for on the way down to it.
func checkByHand(src string) (check.Report, api.Fail) {
	tree, fail := parse.Parse(src)
	if fail != (api.Fail{}) {
		return check.Report{}, fail
	}
	if parse.Height(tree) > 100 {
		return check.Report{}, ofSize(tree.At)
	}
	s := &survey{consts: map[int][]api.Val{}, slots: map[int]int{}}
	for _, p := range places(tree, nil) {
		if code := s.look(p); code != api.OK {
			return check.Report{}, api.Fail{Code: code, At: p.At}
		}
	}
	r := check.Report{Funcs: []check.Func{{At: tree.At, Slots: s.slots[-1], Consts: s.consts[-1]}}, Globals: s.globes}
	for _, f := range s.funcs {
		r.Funcs = append(r.Funcs, check.Func{Name: f.Text, At: f.At, Params: f.N, Slots: s.slots[f.At], Consts: s.consts[f.At]})
	}
	return r, api.Fail{}
}

// checkCheck: what holds of every text.
func checkCheck(t *testing.T, src string) (check.Report, api.Fail) {
	t.Helper()
	r, fail := check.Check(src)
	want, wantFail := checkByHand(src)
	if fail != wantFail || !sameReport(r, want) {
		t.Fatalf("P13.1: Check(%.400q) = %v, %v, want %v, %v", src, r, fail, want, wantFail)
	}
	return r, fail
}

func TestExamples_P13_1(t *testing.T) {
	one := func(slots int, consts []api.Val, globals ...string) check.Report {
		return check.Report{Funcs: []check.Func{{Slots: slots, Consts: consts}}, Globals: globals}
	}
	for src, want := range map[string]check.Report{
		"local a, b = 1 for i = 1, b do local c end print(a)": one(7, []api.Val{number(1)}, "print"),
		"function f() return a end local a":                   {Funcs: []check.Func{{Slots: 1}, {Name: "f"}}, Globals: []string{"f", "a"}},
		"local a = a":                                         one(1, nil, "a"),
		"x = table.sort":                                      one(0, nil, "x"),
	} {
		r, fail := checkCheck(t, src)
		if fail != (api.Fail{}) || !sameReport(r, want) {
			t.Errorf("Check(%q) = %v, %v, want %v", src, r, fail, want)
		}
	}
	for src, want := range map[string]api.Fail{
		"local a function f() return a end": ofName(28), "break": ofName(0), "while x do function f() end": ofText(11), "x = table": ofName(4), "table.sort = 1": ofName(0), "x = table.foo": ofName(4), "local table": ofName(6),
	} {
		r, fail := checkCheck(t, src)
		if fail != want || !sameReport(r, check.Report{}) {
			t.Errorf("Check(%q) = %v, %v, want %v", src, r, fail, want)
		}
	}
}

// wantGlobals: a text that has a Report with these Globals.
func wantGlobals(t *testing.T, src, globals string) {
	t.Helper()
	r, fail := checkCheck(t, src)
	if fail != (api.Fail{}) || !slices.Equal(r.Globals, strings.Fields(globals)) {
		t.Errorf("Check(%q): Globals %v, %v, want %s", src, r.Globals, fail, globals)
	}
}

// Which Names are locals, where they begin and end, and in which order the others are met.
func TestGlobals_P13_1(t *testing.T) {
	for src, globals := range map[string]string{
		"": "", "x = y": "x y", "x = x": "x", "a, b = c, d": "a b c d", "a[b].c = d": "a b d", "f(a, b)": "f a b", "f(b)(a)": "f b a", "x = a + b * -c": "x a b c", "x = {a, b = c, [d] = e}": "x a c d e",
		"local a a = b": "b", "local a, b = b, a": "b a", "local a = a a = a": "a", "local a local a = a": "", "local a = 1 local b = a": "",
		"do local a a = 1 end a = b": "a b", "do local a end": "", "local a do a = 1 end": "", "local a do local a end a = 1": "", "do a = 1 end local a": "a",
		"while a do local a a = b end a = 1": "a b", "while x do local y end y = 1": "x y",
		"if a then local a a = 1 elseif b then a = b else local b a = b end": "a b", "if x then local a else a = 1 end": "x a", "if a then end local a": "a", "if a then local b elseif b then end": "a b",
		"for i = i, j, k do i = 1 end i = 2": "i j k", "for i = 1, 2 do local j end j = i": "j i", "for i = 1, 2 do local i i = 1 end": "", "local i for i = i, i do end i = 1": "",
		"for a, b in a, b, c do a = b end a = c": "a b c", "for k, v in pairs(t) do print(k, v) end": "pairs t print", "for k in next do local v end k = v": "next k v",
		"return a, b": "a b", "return (a)": "a", "return a.b.c": "a",
		"function f() end": "f", "function f(a) return a, b end": "f b", "function f(a, a) return a end": "f", "function f() return f end": "f", "g = 1 function f() end function g() end": "g f",
		"local f function f() end f = 1": "f", "local f function f() end g = f": "f g", "local f function f(f) f = 1 end": "f", "function f() local a a = 1 end a = 1": "f a", "function f(a) end a = 1": "f a",
		"function f() a = 1 end function g() b = a end": "f a g b", "do local a end function f() a = 1 end": "f a", "for a = 1, 2 do end function f() a = 1 end": "f a", "function f() a = 1 end local a function g() end a = 1": "f a g",
		"local a function f() local a = 1 return a end": "f", "local a function f() for a = 1, 2 do print(a) end end": "f print", "local a function f() for a in x do print(a) end end": "f x print",
		"x = a.table": "x a", "x = a['table']": "x a", "x = {table = 1, utf8 = 2}": "x", "x = 'table'": "x", "x = Table": "x Table", "tables = utf8s": "tables utf8s",
		"x = table.insert y = table['remove'] z = utf8.len": "x y z", "table.sort(a)": "a", "utf8.char(table.concat)": "", "x = (table.sort)": "x", "table.sort.x = 1": "", "table.sort[a], b = c": "a b c", "table.insert(table.insert.a, b)": "b",
		"print = 1 type = print": "print type", "sort = insert": "sort insert", "local print print(x)": "x", "function print() end": "print", "local type, next function f(pairs) return pairs end": "f",
		"é = 世": "é 世", "_ = __": "_ __", "a = A": "a A",
	} {
		wantGlobals(t, src, globals)
	}
}

// Where a Name may not stand.
func TestNames_P13_1(t *testing.T) {
	for src, at := range map[string]int{
		"x = table": 4, "x = utf8": 4, "table = 1": 0, "utf8 = 1": 0, "x, utf8 = 1": 3, "table()": 0, "utf8(1)": 0, "f(table)": 2, "x = {table}": 5, "x = {[table] = 1}": 6, "x = {a = utf8}": 9, "x = a[table]": 6, "x = -utf8": 5, "x = a .. table": 9, "x = #table": 5, "return utf8": 7, "return 1, (table)": 11,
		"while table do end": 6, "if utf8 then end": 3, "if x then elseif table then end": 17, "for i = table, 1 do end": 8, "for i = 1, utf8 do end": 11, "for i = 1, 2, table do end": 14, "for k in table do end": 9, "local x = utf8": 10,
		"local utf8": 6, "local a, table": 9, "for utf8 = 1, 2 do end": 4, "for table in x do end": 4, "for a, utf8 in x do end": 7, "function f(table) end": 11, "function f(a, utf8) end": 14, "function table() end": 0, " function utf8(table) end": 1,
		"x = table.foo": 4, "x = table.len": 4, "x = utf8.sort": 4, "x = table.print": 4, "x = utf8.print": 4, "x = table.Sort": 4, "x = table['']": 4, "x = table['sort ']": 4, "x = table['table.sort']": 4, "x = table['sort\\0']": 4, "x = table[1]": 4, "x = table[x]": 4, "x = table[sort]": 4, "x = table[('sort')]": 4, "x = table['so' .. 'rt']": 4, "x = table[nil]": 4, "x = table[table]": 4, "x = table[utf8.len]": 4, "x = table[table.sort]": 4,
		"x = (table).sort": 5, "x = (utf8)['len']": 5, "x = table().sort": 4, "x = table.foo.sort": 4, "x = a.table.sort + utf8.sort": 19,
		"table.sort = 1": 0, "table['sort'] = 1": 0, "utf8.len, x = 1": 0, "x, utf8.len = 1": 3, "table.foo = 1": 0, "table[1] = 1": 0, "table[x] = table": 0, "table.foo.x = 1": 0, "a[table.sort], table.sort = 1": 15, "a[table.sort.x], b = utf8": 21,
		"break": 0, "do break end": 3, "if x then break end": 10, "while x do end break": 15, "for i = 1, 2 do end break": 20, "for i in x do end break": 18, "function f() break end": 13, "while x do break end do break end": 24, "function f() while x do break end break end": 34, "while x do end function f() break end": 28,
	} {
		if r, fail := checkCheck(t, src); fail != ofName(at) || !sameReport(r, check.Report{}) {
			t.Errorf("Check(%q) = %v, %v, want ErrName at %d", src, r, fail, at)
		}
	}
	for _, src := range []string{
		"while x do break end", "for i = 1, 2 do break end", "for i in x do break end", "while x do do break end end", "while x do if y then break else break end end", "while x do while y do end break end", "while x do for i = 1, 2 do end for i in y do end break end", "function f() while x do break end end",
	} {
		if _, fail := checkCheck(t, src); fail != (api.Fail{}) {
			t.Errorf("Check(%q): %v", src, fail)
		}
	}
}

// A Function can't name those of the chunk's locals that are there at it.
func TestChunkLocals_P13_1(t *testing.T) {
	for src, at := range map[string]int{
		"local a function f() return a end": 28, "local a function f() a = 1 end": 21, "local a, b function f() return b end": 31, "local a = 1 function f() a() end": 25, "local a function f() return a.b end": 28, "local a function f() x[a] = 1 end": 23, "local a function f() return {a = a} end": 33,
		"local a function f() local a = a end": 31, "local a function f() for a = a, 1 do end end": 29, "local a function f() for i = 1, 2, a do end end": 35, "local a function f() for a in a do end end": 30, "local a function f() do local a end a = 1 end": 36, "local a function f() if a then local a end end": 24, "local a function f() while a do end end": 27,
		"local f function f() return f end": 28, "local f function f() f() end": 21, "function f() a = 1 end local a function g() a = 1 end": 44, "local a do local b end function f() b = a end": 40, "local a function f(b) return b, a end": 32, "local a local a function f() return a end": 36, "a = 1 local a function f() return a end": 34,
		"local a function f(a) end function g() return a end": 46, "local a function f(a) return a end a = 1 function g(b) b = a end": 59,
	} {
		if _, fail := checkCheck(t, src); fail != ofName(at) {
			t.Errorf("Check(%q): %v, want ErrName at %d", src, fail, at)
		}
	}
}

// Slots: a text, and the most locals of each of its functions.
func TestSlots_P13_1(t *testing.T) {
	for src, want := range map[string][]int{
		"": {0}, "local a": {1}, "local a, b local c": {3}, "local a, a, a": {3}, "local a local a": {2}, "do local a end do local b, c end": {2}, "do local a do local b end end local c": {2}, "do local a, b end local c": {2}, "local c do local a, b end": {3},
		"for i = 1, 2 do end": {4}, "for i = 1, 2 do local a end": {5}, "for a in x do end": {4}, "for a, b, c in x do end": {6}, "for i = 1, 2 do for j = 1, 2 do end end": {8}, "for i = 1, 2 do end for j = 1, 2 do end": {4}, "for i = 1, 2 do for a, b in x do local c end end local d": {10}, "local d for i = 1, 2 do local a end": {6}, "for i = 1, 2 do local a, b end local c, d, e": {6},
		"while x do local a end": {1}, "while x do local a end local b": {1}, "if x then local a elseif y then local b, c else local d end local e": {2}, "if x then local a end if y then local b local c end": {2},
		"function f() end": {0, 0}, "function f(a, b) end": {0, 2}, "function f(a, a) end": {0, 2}, "function f(a) local b, c end": {0, 3}, "function f(a) for i = 1, 2 do end end": {0, 5}, "local a, b function f(c) local d end local e": {3, 2}, "function f(a) end function g(a, b) end": {0, 1, 2}, "local a function f() local a end do local b end": {2, 1}, "local a return a": {1}, "do local a return a end": {1},
	} {
		r, fail := checkCheck(t, src)
		var got []int
		for _, f := range r.Funcs {
			got = append(got, f.Slots)
		}
		if fail != (api.Fail{}) || !slices.Equal(got, want) {
			t.Errorf("Check(%q): Slots %v, %v, want %v", src, got, fail, want)
		}
	}
}

// Consts: those of the chunk, in the order in which they are met.
func TestConsts_P13_1(t *testing.T) {
	for src, want := range map[string][]api.Val{
		"": nil, "x = nil y = true z = false": nil, "x = 1": {number(1)}, "x = 2, 1, 2": {number(2), number(1)}, "x = 0x10, 16, 016": {number(16)}, "x = 1, '1'": {number(1), text("1")}, "x = '', 0": {text(""), number(0)}, "x = 'a', \"a\", '\\97'": {text("a")}, "x = 0xffffffffffffffff, -1": {number(-1), number(1)},
		"x = '\\xff', '\\0'": {text("\xff"), text("\x00")}, "x = 'a', 'A'": {text("a"), text("A")},
		"a.b = c.d": {text("b"), text("d")}, "a.b[1] = a[2].b": {text("b"), number(1), number(2)}, "x = {a = 1, [2] = 'b', 3}": {text("a"), number(1), number(2), text("b"), number(3)}, "f(1)(2).g(3)": {number(1), number(2), text("g"), number(3)}, "x = 1 + 2 * 3 .. 4": {number(1), number(2), number(3), number(4)},
		"local a, b = 1, 2": {number(1), number(2)}, "for i = 3, 2, 1 do x = 0 end": {number(3), number(2), number(1), number(0)}, "for k in 2, 1 do x = 3 end": {number(2), number(1), number(3)}, "while 1 do x = 2 end": {number(1), number(2)}, "if 1 then x = 2 elseif 3 then x = 4 else x = 5 end": {number(1), number(2), number(3), number(4), number(5)}, "return 2, 1": {number(2), number(1)},
		"x = table.sort": nil, "x = table['sort']": nil, "x = table.sort.sort": {text("sort")}, "x = utf8.len('len')": {text("len")}, "x = table.sort, 'sort'": {text("sort")}, "x = a['sort'], utf8.len": {text("sort")}, "x = table.sort[1]": {number(1)},
		"x = 1 function f() return 2 end y = 3": {number(1), number(3)}, "function f() return 1 end x = 1": {number(1)},
	} {
		r, fail := checkCheck(t, src)
		if fail != (api.Fail{}) || !slices.Equal(r.Funcs[0].Consts, want) {
			t.Errorf("Check(%q): %v, %v, want Consts %v", src, r, fail, want)
		}
	}
	r, fail := checkCheck(t, "x = 1 function f(a) return a.b, 2, 1 end x = 3, 2 function g() end x = 4")
	want := [][]api.Val{{number(1), number(3), number(2), number(4)}, {text("b"), number(2), number(1)}, nil}
	if fail != (api.Fail{}) || !slices.EqualFunc(r.Funcs, want, func(f check.Func, c []api.Val) bool { return slices.Equal(f.Consts, c) }) {
		t.Errorf("the functions' own Consts: %v, %v, want %v", r, fail, want)
	}
}

// The functions of a text: their names, places and parameters.
func TestFuncs_P13_1(t *testing.T) {
	want := []check.Func{{At: 3}, {Name: "f", At: 3, Params: 2, Slots: 2}, {Name: "f", At: 24}, {Name: "é", At: 48, Params: 1, Slots: 1}}
	r, fail := checkCheck(t, "\n\t function f(a, b) end function f() end\n x = y function é(a) end ")
	if fail != (api.Fail{}) || !sameReport(r, check.Report{Funcs: want, Globals: []string{"f", "x", "y", "é"}}) {
		t.Errorf("%v, %v, want %v", r, fail, want)
	}
	for src, at := range map[string]int{"": 0, "  ": 2, " --c": 4, " ;x = 1": 1} {
		if r, fail := checkCheck(t, src); fail != (api.Fail{}) || len(r.Funcs) != 1 || r.Funcs[0].At != at || r.Funcs[0].Name != "" || r.Funcs[0].Params != 0 {
			t.Errorf("Check(%q) = %v, %v, want the chunk at %d", src, r, fail, at)
		}
	}
}

// A limit: a text with n of something, the most that there may be, and where the fault is with one more.
type limit struct {
	what string
	text func(n int) string
	most int
	at   int
}

// filled: a text with the list of n of one for the @.
func filled(frame, between, one string) func(n int) string {
	return func(n int) string { return strings.Replace(frame, "@", many(n, between, one), 1) }
}

func limits() []limit {
	consts := func(frame string) func(n int) string {
		return func(n int) string { return strings.Replace(frame, "@", many(n, " ", "x=%"), 1) }
	}
	return []limit{
		{"parameters", filled(" function f(@) end", ",", "a%"), 50, 1},
		{"names of a Local", filled(" local @", ",", "a"), 50, 1},
		{"expressions of a Local", filled(" local a = @", ",", "b"), 50, 1},
		{"targets", filled(" @ = 1", ",", "a"), 50, 1},
		{"targets that are Indexes", filled(" @ = 1", ",", "a.b"), 50, 1},
		{"expressions of an Assign", filled(" a = @", ",", "b"), 50, 1},
		{"names of a ForIn", filled(" for @ in x do end", ",", "a"), 50, 1},
		{"expressions of a ForIn", filled(" for a in @ do end", ",", "x"), 50, 1},
		{"arguments", filled(" f(@)", ",", "x"), 50, 1},
		{"arguments of a Call within", filled(" x = f(@)", ",", "x"), 50, 5},
		{"arguments of a library's function", filled(" table.sort(@)", ",", "x"), 50, 1},
		{"values of a Return", filled(" return @", ",", "x"), 50, 1},
		{"values of a Return in a Function", filled(" function f() return @ end", ",", "x"), 50, 14},
		{"Items", filled(" x = {@}", ",", "x"), 200, 5},
		{"Fields", filled(" x = {@}", ";", "a = 1"), 200, 5},
		{"Functions", filled(" x = 1 @", "\n", "function f() end"), 100, 7 + 17*100},
		{"Paren", func(n int) string { return " x = " + strings.Repeat("(", n) + "1" + strings.Repeat(")", n) }, 97, 1},
		{"Do", func(n int) string { return " x = 1 " + strings.Repeat("do ", n) + strings.Repeat("end ", n) }, 49, 1},
		{"Unary", func(n int) string { return " return " + strings.Repeat("#", n) + "x" }, 97, 1},
		{"Ints", consts("@"), 250, 9*4 + 90*5 + 151*6 + 2},
		{"Ints of a Function", consts("function f() @ end"), 250, -1},
		{"Ints of the chunk around a Function", consts("function f() x = 1, 2, 3, 'a', 'b' end x = 1 x = 2 @ x = 3"), 250, -1},
		{"Strs", filled("x=@", " x=", "'%'"), 250, -1},
		{"keys", filled("x=@", " x=", "x.a%"), 250, -1},
		{"keys of Fields", filled("x={@}", "} x={", "a%=nil"), 250, -1},
		{"locals of the chunk", filled("@", " ", "local a%"), 60, -1},
		{"locals of a Function", filled("function f(a, b, c) local d, e @ end", " ", "local a%"), 55, -1},
		{"locals in Blocks", filled("local a do local b do local c @ end end", " ", "local a%"), 57, -1},
		{"locals of one name", filled("@", " ", "local a"), 60, 60 * 8},
		{"locals ahead of a For", filled("@ for i = 1, 2 do end", " ", "local a"), 56, 57 * 8},
		{"locals ahead of a For with a Local", filled("@ for i = 1, 2 do local b end", " ", "local a"), 55, 56*8 + 16},
		{"locals ahead of a ForIn", filled("@ for i, j in x do end", " ", "local a"), 55, 56 * 8},
		{"locals in a For in a ForIn", filled("for i, j in x do for k = 1, 2 do @ end end", " ", "local a"), 51, 33 + 51*8},
		{"names of a ForIn behind locals", filled("local a, b, c, d, e, f, g, h, i, j for @ in x do end", ",", "a"), 47, 35},
		{"names of a ForIn within a For", filled("for a = 1, 2 do for b = 1, 2 do for @ in x do end end end", ",", "a"), 49, 32},
		{"nested Fors", func(n int) string {
			return strings.Repeat("for i = 1, 2 do ", n) + strings.Repeat("end ", n)
		}, 15, 15 * 16},
	}
}

func TestLimits_P13_1(t *testing.T) {
	for _, l := range limits() {
		if _, fail := checkCheck(t, l.text(l.most)); fail != (api.Fail{}) {
			t.Errorf("%d %s: %v", l.most, l.what, fail)
		}
		for more := 1; more < 4; more++ {
			src := l.text(l.most + more)
			_, fail := checkCheck(t, src)
			if fail.Code != api.ErrSize || more == 1 && l.at >= 0 && fail.At != l.at {
				t.Errorf("%d %s: %v, want ErrSize at %d", l.most+more, l.what, fail, l.at)
			}
		}
	}
}

// Where the constant, or the local, stands that is one too many.
func TestLimitPlaces_P13_1(t *testing.T) {
	for _, x := range []struct {
		src  string
		fail api.Fail
	}{
		{many(250, " ", "x=%") + " x='1'", ofSize(9*4 + 90*5 + 151*6 + 2)},
		{many(250, " ", "x=%") + " x=250 x=1 x=0xfa", api.Fail{}},
		{many(249, " ", "x=%") + " x=y.z x=y.z x='z'", api.Fail{}},
		{many(249, " ", "x=%") + " x=y.z.w", ofSize(9*4 + 90*5 + 150*6 + 6)},
		{many(250, " ", "x=%") + " x=table.sort x=table['insert']", api.Fail{}},
		{many(250, " ", "x=%") + " function f() return 'a' end", api.Fail{}},
		{many(250, " ", "x=%") + " function f() return 'a' end x='b'", ofSize(9*4 + 90*5 + 151*6 + 30)},
		{many(125, " ", "x=% x='%'"), api.Fail{}},
		{many(125, " ", "x=% x='%'") + " x=''", ofSize(9*10 + 90*12 + 26*14 + 2)},
		{"function f() " + many(250, " ", "x=%") + " end function g() " + many(250, " ", "x=-%") + " end x='a'", api.Fail{}},
		{"do " + many(60, " ", "local a") + " end " + many(60, " ", "local a"), api.Fail{}},
		{many(60, " ", "local a") + " function f(a, b) " + many(58, " ", "local a") + " end", api.Fail{}},
		{many(60, " ", "local a") + " function f(a, b) " + many(59, " ", "local a") + " end", ofSize(60*8 + 17 + 58*8)},
		{many(60, " ", "local a") + " function f(" + many(50, ",", "a") + ") end", api.Fail{}},
		{many(59, " ", "local a") + " local b, c", ofSize(59 * 8)},
		{many(60, " ", "local a") + " do end while x do end if x then end", api.Fail{}},
	} {
		if _, fail := checkCheck(t, x.src); fail != x.fail {
			t.Errorf("Check(%.60q): %v, want %v", x.src, fail, x.fail)
		}
	}
}

// Several faults in one text: the one that is met first.
func TestFirstFault_P13_1(t *testing.T) {
	fifty, more := many(50, ",", "a"), many(51, ",", "a")
	deep := strings.Repeat("(", 98) + "1" + strings.Repeat(")", 98)
	for _, x := range []struct {
		src  string
		fail api.Fail
	}{
		{" break x = " + deep, ofSize(1)}, {" local table x = " + deep, ofSize(1)}, {"x = " + deep + " end", ofText(len(deep) + 5)},
		{"break x = 'a", ofText(10)}, {"break x = " + strings.Repeat("n", 41), api.Fail{Code: api.ErrBig, At: 10}}, {strings.Repeat("break ", 4000), api.Fail{Code: api.ErrBig, At: -1}},
		{"break table = 1", ofName(0)}, {"x = table break", ofName(4)}, {"do break end x = utf8", ofName(3)},
		{many(100, " ", "function f() end") + " function table(" + more + ") end", ofSize(1700)}, {"function table(" + more + ") break end", ofName(0)}, {"function f(" + more + ",table) break end", ofSize(0)}, {"function f(table) break end", ofName(11)}, {"function f(a, utf8, table) x = table end", ofName(14)},
		{"local table = utf8", ofName(14)}, {"local table, a = 1, utf8", ofName(20)}, {"local table, " + more + " = utf8", ofSize(0)}, {"local table = " + more, ofSize(0)}, {"local table, utf8", ofName(6)}, {"local " + fifty + " local b, c, d, e, f, g, h, i, j, k, table", ofName(142)}, {"local " + fifty + " local b, c, d, e, f, g, h, i, j, k, l = table", ofName(146)},
		{"for table = utf8, 1 do break end", ofName(12)}, {"for table = 1, utf8 do end", ofName(15)}, {"for table = 1, 2, utf8 do end", ofName(18)}, {"for table = 1, 2 do x = utf8 end", ofName(4)}, {many(57, " ", "local a") + " for table = 1, 2 do end", ofName(57*8 + 4)}, {many(57, " ", "local a") + " for i = 1, table do end", ofName(57*8 + 11)}, {many(57, " ", "local a") + " for i = 1, 2 do x = table end", ofSize(57 * 8)},
		{"for a, table in utf8 do x = table end", ofName(16)}, {"for a, table in x do x = utf8 end", ofName(7)}, {"for table, " + more + " in utf8 do end", ofSize(0)}, {"for table in " + more + ", utf8 do end", ofSize(0)}, {many(57, " ", "local a") + " for i in x do x = table end", ofSize(57 * 8)},
		{"table, x = utf8", ofName(0)}, {"x, table.sort = utf8", ofName(3)}, {"x = utf8, table", ofName(4)}, {"table, " + more + " = 1", ofSize(0)}, {"table = " + more, ofSize(0)}, {"x[table], table.sort = 1", ofName(2)}, {"x[table].y = utf8", ofName(2)},
		{"table(" + more + ")", ofSize(0)}, {"x(table, " + fifty + ")", ofSize(0)}, {"table(utf8)", ofName(0)}, {"x(utf8, table)", ofName(2)}, {"x(table)(" + more + ")", ofSize(0)},
		{"return table, " + more, ofSize(0)}, {"return table, " + fifty, ofSize(0)}, {"return x(" + more + "), " + fifty, ofSize(0)}, {"return x(" + more + "), table", ofSize(7)},
		{"x = {table, " + many(200, ",", "1") + "}", ofSize(4)}, {"x = {[table] = utf8}", ofName(6)}, {"x = {utf8, f(" + more + ")}", ofName(5)}, {"x = {f(" + more + "), utf8}", ofSize(5)},
		{"while table do break end break", ofName(6)}, {"while x do x = table end x = utf8", ofName(15)}, {"if table then break else break end", ofName(3)}, {"if x then break elseif table then end", ofName(10)}, {"if x then x = 1 elseif table then break end", ofName(23)}, {"if x then else break end break", ofName(15)},
		{"x = table[utf8]", ofName(4)}, {"x = y[utf8] + table", ofName(6)}, {"x = table.foo.bar(utf8)", ofName(4)}, {many(250, " ", "x=%") + " x='a' .. table", ofSize(9*4 + 90*5 + 151*6 + 2)}, {many(250, " ", "x=%") + " x=table .. 'a'", ofName(9*4 + 90*5 + 151*6 + 2)}, {many(250, " ", "x=%") + " x=table.foo", ofName(9*4 + 90*5 + 151*6 + 2)},
		{"local a function f() break return a end", ofName(21)}, {"local a function f() return a, table end", ofName(28)}, {"local a function f(a) return a, table end", ofName(32)}, {"local a function table() return a end", ofName(8)},
	} {
		if _, fail := checkCheck(t, x.src); fail != x.fail {
			t.Errorf("Check(%.100q): %v, want %v", x.src, fail, x.fail)
		}
	}
}

// maker makes a source text by chance, token by token.
type maker struct {
	*rand.Rand
	tokens []string
	names  int  // how many names there are to choose from
	faulty bool // may there be faults that were put there?
	plain  bool // without the signs "." and "{"
	loops  int  // around
	left   int  // how many nodes may still be made, about
}

func (m *maker) say(tokens ...string) { m.tokens = append(m.tokens, tokens...) }

func (m *maker) some() bool {
	m.left--
	return m.left > 0 && m.Intn(3) > 0
}

// seldom: is it a time for a fault?
func (m *maker) seldom() bool { return m.faulty && m.Intn(60) == 0 }

func (m *maker) ident() string {
	if m.seldom() {
		return []string{"table", "utf8"}[m.Intn(2)]
	}
	return []string{"a", "b", "c", "print", "sort", "é", "x1", "len", "A", "_", "zz", "type"}[m.Intn(m.names)]
}

// list: one to some, seldom about as many as there may be.
func (m *maker) list(one func()) {
	one()
	if m.seldom() {
		for range 47 + m.Intn(5) {
			m.say(",")
			one()
		}
		return
	}
	for m.some() {
		m.say(",")
		one()
	}
}

func (m *maker) name() { m.say(m.ident()) }

func (m *maker) exp() {
	switch m.Intn(12) {
	case 0:
		m.say([]string{"nil", "true", "false"}[m.Intn(3)])
	case 1, 2:
		m.say(strconv.Itoa(m.Intn(30)))
	case 3, 4:
		m.say([]string{"'a'", "'len'", "'1'", "''", "'\\xff'", "'table'"}[m.Intn(6)])
	case 5:
		m.say([]string{"not", "#", "-"}[m.Intn(3)])
		m.exp()
	case 6, 7:
		if m.some() {
			m.exp()
			m.say([]string{"+", "..", "and", "==", "//"}[m.Intn(5)])
			m.exp()
			return
		}
		m.name()
	case 8:
		if !m.plain && m.some() {
			m.table()
			return
		}
		m.name()
	default:
		m.suffixed()
	}
}

func (m *maker) table() {
	m.say("{")
	for m.some() {
		switch m.Intn(3) {
		case 0:
			m.say("[")
			m.exp()
			m.say("]", "=")
		case 1:
			m.say(m.ident(), "=")
		}
		m.exp()
		m.say(",")
	}
	m.say("}")
}

// library: an Index of a kept name, mostly of a function of the library.
func (m *maker) library() {
	of := []string{"table", "utf8"}[m.Intn(2)]
	key := []string{"sort", "insert", "concat", "len", "codes"}[m.Intn(5)]
	if !m.faulty && check.Library(of+"."+key) == 0 {
		of, key = "utf8", "char"
	}
	if m.plain || m.Intn(2) == 0 {
		m.say(of, "[", "'"+key+"'", "]")
	} else {
		m.say(of, ".", key)
	}
}

func (m *maker) stem() {
	switch {
	case m.Intn(5) == 0:
		m.library()
	case m.Intn(5) == 0:
		m.say("(")
		m.exp()
		m.say(")")
	default:
		m.name()
	}
}

func (m *maker) suffixed() {
	m.stem()
	for m.some() {
		m.suffix(m.Intn(3))
	}
}

func (m *maker) suffix(which int) {
	switch {
	case which == 0:
		m.say("(")
		if m.some() {
			m.list(m.exp)
		}
		m.say(")")
	case which == 1 && !m.plain:
		m.say(".", m.ident())
	default:
		m.say("[")
		m.exp()
		m.say("]")
	}
}

func (m *maker) target() {
	if m.Intn(2) == 0 {
		m.name()
		return
	}
	if m.seldom() {
		m.library()
		return
	}
	m.suffixed()
	m.suffix(1 + m.Intn(2))
}

func (m *maker) block() {
	for m.some() {
		m.statement()
		m.say(";")
	}
	if m.Intn(5) == 0 {
		m.say("return")
		if m.some() {
			m.list(m.exp)
		}
		m.say(";")
	}
}

func (m *maker) body() {
	m.say("do")
	m.loops++
	m.block()
	m.loops--
	m.say("end")
}

func (m *maker) statement() {
	switch m.Intn(10) {
	case 0, 1:
		m.list(m.target)
		m.say("=")
		m.list(m.exp)
	case 2:
		m.suffixed()
		m.suffix(0)
	case 3:
		m.say("do")
		m.block()
		m.say("end")
	case 4:
		m.say("while")
		m.exp()
		m.body()
	case 5:
		m.choice()
	case 6:
		m.say("for", m.ident(), "=")
		m.exp()
		m.say(",")
		m.exp()
		if m.Intn(2) == 0 {
			m.say(",")
			m.exp()
		}
		m.body()
	case 7:
		m.say("for")
		m.list(m.name)
		m.say("in")
		m.list(m.exp)
		m.body()
	default:
		m.simple()
	}
}

// simple: a break, where one may stand, or a Local.
func (m *maker) simple() {
	if m.loops > 0 && m.Intn(3) == 0 || m.seldom() {
		m.say("break")
		return
	}
	m.say("local")
	m.list(m.name)
	if m.Intn(2) == 0 {
		m.say("=")
		m.list(m.exp)
	}
}

func (m *maker) choice() {
	m.say("if")
	m.exp()
	m.say("then")
	m.block()
	for m.some() {
		m.say("elseif")
		m.exp()
		m.say("then")
		m.block()
	}
	if m.Intn(2) == 0 {
		m.say("else")
		m.block()
	}
	m.say("end")
}

func (m *maker) function() {
	m.say("function", m.ident(), "(")
	if m.some() {
		m.list(m.name)
	}
	m.say(")")
	m.left += 10
	m.block()
	m.say("end")
}

// made: a source text by chance, its tokens with a blank, or more, between two.
func (m *maker) made(nodes int) string {
	m.tokens, m.left, m.names = nil, nodes, 1+m.Intn(12)
	for range 1 + m.Intn(6) {
		m.left = max(m.left, nodes/3)
		if m.Intn(2) == 0 {
			m.function()
		} else {
			m.statement()
			m.say(";")
		}
	}
	blanks := []string{" ", " ", " ", "\n", " --c\n"}
	var b strings.Builder
	for _, token := range m.tokens {
		b.WriteString(blanks[m.Intn(len(blanks))] + token)
	}
	return b.String()
}

func TestMadeTexts_P13_1(t *testing.T) {
	m := &maker{Rand: rand.New(rand.NewSource(1))}
	fails := map[api.Errno]int{}
	for i := range 8000 {
		m.faulty = i%2 == 0
		_, fail := checkCheck(t, m.made(1+i%120))
		fails[fail.Code]++
	}
	if fails[api.OK] < 2000 || fails[api.ErrName] < 2000 || fails[api.ErrSize] < 100 || fails[api.ErrText] > 0 {
		t.Errorf("the texts that were made had these errors: %v", fails)
	}
}

// crowd: a text of many small parts, so that limits are met in many ways.
func crowd(r *rand.Rand) string {
	var parts []string
	open, locals, consts := 0, 1+r.Intn(6), 1+r.Intn(8)
	for range r.Intn(600) {
		switch k := r.Intn(20); {
		case k < locals:
			parts = append(parts, "local "+many(1+r.Intn(3), ",", "a%"))
		case k < locals+2:
			parts = append(parts, []string{"do", "for a = 1, 2 do", "for a, b in x do", "while x do"}[r.Intn(4)])
			open++
		case k < 12 && open > 0:
			parts = append(parts, "end")
			open--
		case k > 19-consts:
			parts = append(parts, strings.ReplaceAll([]string{"x=%", "x='%'", "x=y.b%", "y.b%()"}[r.Intn(4)], "%", strconv.Itoa(r.Intn(150))))
		case open == 0 && r.Intn(3) == 0:
			parts = append(parts, "function f"+strconv.Itoa(r.Intn(3))+"("+many(r.Intn(4), ",", "a%")+") x = "+strconv.Itoa(r.Intn(9))+" end")
		}
	}
	return strings.Join(parts, "\n") + strings.Repeat(" end", open)
}

func TestCrowdedTexts_P13_1(t *testing.T) {
	r := rand.New(rand.NewSource(2))
	fails := map[api.Errno]int{}
	for range 1000 {
		_, fail := checkCheck(t, crowd(r))
		fails[fail.Code]++
	}
	if fails[api.OK] < 200 || fails[api.ErrSize] < 200 || len(fails) != 2 {
		t.Errorf("the texts that were made had these errors: %v", fails)
	}
}

func TestLibrary_P13_2(t *testing.T) {
	all := numbers
	if len(all) != 21 {
		t.Fatalf("%d functions", len(all))
	}
	for name, n := range all {
		if got := check.Library(name); got != n {
			t.Errorf("Library(%q) = %d, want %d", name, got, n)
		}
		_, behind, _ := strings.Cut(name, ".")
		for _, wrong := range []string{name + " ", " " + name, name + "\x00", strings.ToUpper(name), name + "." + name, name[1:], name[:len(name)-1], behind, "." + name, "table." + name, "utf8." + name, strings.Replace(name, ".", "", 1) + ".", strings.Replace(name, ".", "..", 1) + "x", strings.Replace(name, ".", "['", 1) + "']"} {
			if got, want := check.Library(wrong), all[wrong]; got != want {
				t.Errorf("Library(%q) = %d, want %d", wrong, got, want)
			}
		}
	}
	for _, wrong := range []string{"", "-", "table", "utf8", "insert", "table.", ".", "\xff", "ipairs.next", "utf8.sort", "table.len", "11", "23", strings.Repeat("print", 1<<16)} {
		if got := check.Library(wrong); got != 0 {
			t.Errorf("Library(%.20q) = %d", wrong, got)
		}
	}
}

// renamed: the text with the Name x written y throughout.
func renamed(src, x, y string) string {
	tokens, _ := lex.Scan(src)
	var b strings.Builder
	behind := 0
	for _, token := range tokens {
		if token.Kind == lex.Name && token.Text == x {
			b.WriteString(src[behind:token.At] + y)
			behind = token.At + len(x)
		}
	}
	return b.String() + src[behind:]
}

// checkRenamed: P13.3 for a text that has a Report.
func checkRenamed(t *testing.T, src, x, y string) {
	t.Helper()
	before, fail := check.Check(src)
	if fail != (api.Fail{}) {
		t.Fatalf("Check(%q): %v", src, fail)
	}
	after, fail := checkCheck(t, renamed(src, x, y))
	for i, name := range before.Globals {
		if name == x {
			before.Globals[i] = y
		}
	}
	same := slices.EqualFunc(before.Funcs, after.Funcs, func(f, g check.Func) bool {
		return f.Params == g.Params && f.Slots == g.Slots && slices.Equal(f.Consts, g.Consts)
	})
	if fail != (api.Fail{}) || !same || !slices.Equal(before.Globals, after.Globals) {
		t.Fatalf("P13.3: Check of %q with %s for %s: %v, %v, before %v", src, y, x, after, fail, before)
	}
}

func TestNamesAlone_P13_3(t *testing.T) {
	others := []string{"q", "fresh", "tables", "utf", "Table", "ipairs", "tostring", strings.Repeat("q", 40), "ß"}
	for _, src := range []string{"local a, b = 1 for i = 1, b do local c end print(a)", "local a function f(b) return b, f, x end a = b", "x = x", "local x = x", "for k, v in pairs(t) do print(k, v) end"} {
		for _, x := range strings.Fields("a b c i k v f t x print pairs") {
			for _, y := range others {
				checkRenamed(t, src, x, y)
			}
		}
	}
	// A name of the library is a global as any other.
	r, fail := checkCheck(t, "print(x, print)")
	s, failToo := checkCheck(t, "shout(x, shout)")
	if fail != (api.Fail{}) || failToo != (api.Fail{}) || !slices.Equal(r.Globals, []string{"print", "x"}) || !slices.Equal(s.Globals, []string{"shout", "x"}) {
		t.Errorf("%v, %v; %v, %v", r, fail, s, failToo)
	}
	m := &maker{Rand: rand.New(rand.NewSource(3)), plain: true}
	count := 0
	for i := range 5000 {
		src := m.made(1 + i%100)
		if _, fail := check.Check(src); fail == (api.Fail{}) {
			checkRenamed(t, src, m.ident(), others[i%len(others)])
			count++
		}
	}
	if count < 1500 {
		t.Errorf("only %d texts had a Report", count)
	}
}

// What parse refuses, check refuses with the same Fail.
func TestRefused_P2(t *testing.T) {
	for src, want := range map[string]api.Fail{
		"x =": ofText(3), "f() = 1": ofText(0), "if x then function f() end end": ofText(10), "x = 'a": ofText(4), "\xff": ofText(0), "local break": ofText(6), "function table.f() end": ofText(14), "break table": ofText(11),
		"x = 9223372036854775808": {Code: api.ErrBig, At: 4}, strings.Repeat(" ", 20001): {Code: api.ErrBig, At: -1}, "x = " + strings.Repeat("n", 41): {Code: api.ErrBig, At: 4}, "x = '" + strings.Repeat("n", 10001) + "'": {Code: api.ErrBig, At: 4},
	} {
		if r, fail := checkCheck(t, src); fail != want || !sameReport(r, check.Report{}) {
			t.Errorf("Check(%.60q) = %v, %v, want %v", src, r, fail, want)
		}
	}
}

// Made texts with tokens taken out, put in, or exchanged.
func TestMarredTexts_P13_1(t *testing.T) {
	m := &maker{Rand: rand.New(rand.NewSource(4)), faulty: true}
	alphabet := strings.Fields("and break do else end for function if in local return then while = ( ) { } [ ] ; , . a 1 'a' table utf8 sort")
	for i := range 15000 {
		words := strings.Fields(strings.ReplaceAll(m.made(1+i%60), "--c\n", ""))
		for range 1 + m.Intn(2) {
			j, k := m.Intn(len(words)), m.Intn(len(words))
			switch w := alphabet[m.Intn(len(alphabet))]; m.Intn(4) {
			case 0:
				words[j] = ""
			case 1:
				words[j] += " " + w
			case 2:
				words[j] = w
			case 3:
				words[j], words[k] = words[k], words[j]
			}
		}
		checkCheck(t, strings.Join(words, " "))
	}
}

func TestNoPanic_P1(t *testing.T) {
	r := rand.New(rand.NewSource(5))
	alphabet := strings.Fields("and break do else elseif end false for function if in local nil not or return then true while == .. + - # ( ) { } [ ] ; , . = a b 1 'a' table utf8 sort")
	for i := range 60000 {
		var b []byte
		for range r.Intn(30) {
			if i%2 == 0 {
				b = append(b, byte(r.Intn(256)))
			} else {
				b = append(b, alphabet[r.Intn(len(alphabet))]+" "...)
			}
		}
		checkCheck(t, string(b))
		check.Library(string(b))
	}
	// The greatest texts, as deep and as wide as they can be.
	for _, x := range [][3]string{
		{"x=", "(", "1"}, {"x=", "{", "1"}, {"x=", "#", "1"}, {"x=", "a(", "1"}, {"", "do ", ""}, {"", "for a = 1, 2 do ", ""}, {"", "while a do ", ""}, {"", "local a ", ""}, {"", "local a,b ", ""}, {"local a", ",a", ""}, {"f(1", ",1", ")"}, {"x={", "1,", "}"}, {"", "break ", ""}, {"", "function f() end ", ""}, {"f", "()", ""}, {"f", ".a", "()"}, {"", "x=1 ", ""}, {"", "if a then else ", ""}, {"a", ",a", "=1"}, {"", "function f() while x do break end ", ""},
	} {
		k := (api.MaxText - len(x[0]+x[2])) / len(x[1])
		for _, closing := range []string{"", ")", "}", "end "} {
			n := (api.MaxText - len(x[0]+x[2])) / len(x[1]+closing)
			checkCheck(t, x[0]+strings.Repeat(x[1], n)+x[2]+strings.Repeat(closing, n))
		}
		checkCheck(t, x[0]+strings.Repeat(x[1], k)+x[2])
	}
	// As many globals as a text can name.
	src := many(2300, " ", "g%=h%")[:20000]
	if r, fail := check.Check(src[:strings.LastIndex(src, " ")]); fail != (api.Fail{}) || len(r.Globals) < 3000 || r.Globals[2] != "g2" || r.Globals[1999] != "h1000" {
		t.Errorf("%d globals, %v", len(r.Globals), fail)
	}
}

// What one list is told, no other list of any answer shows; the spare room too.
func TestOwnMemory_R3(t *testing.T) {
	m := &maker{Rand: rand.New(rand.NewSource(6))}
	for i := range 1000 {
		src := m.made(1 + i%100)
		first, fail := check.Check(src)
		if fail != (api.Fail{}) {
			continue
		}
		second, _ := check.Check(src)
		var consts [][]api.Val
		for _, f := range slices.Concat(first.Funcs, second.Funcs) {
			consts = append(consts, f.Consts[:cap(f.Consts)])
		}
		want, _ := checkByHand(src)
		for _, r := range []check.Report{first, second} {
			if !sameReport(r, want) {
				t.Fatalf("Check(%q) = %v, want %v", src, r, want)
			}
			funcs, globals := r.Funcs[:cap(r.Funcs)], r.Globals[:cap(r.Globals)]
			for j := range funcs {
				funcs[j] = check.Func{}
			}
			for j := range globals {
				globals[j] = ""
			}
		}
		for mark, list := range consts {
			for j := range list {
				list[j].N = -1 - mark
			}
		}
		for mark, list := range consts {
			for j := range list {
				if list[j].N != -1-mark {
					t.Fatalf("two lists of the answers to %q share memory", src)
				}
			}
		}
		if third, _ := check.Check(src); !sameReport(third, want) {
			t.Fatalf("Check(%q) hangs on an earlier answer", src)
		}
	}
}
