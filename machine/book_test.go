package machine_test

import (
	"math"
	"slices"
	"strings"

	"trestle/api"
	"trestle/border"
	"trestle/box"
	"trestle/check"
	"trestle/gen"
	"trestle/heap"
	"trestle/parse"
	"trestle/runes"
	"trestle/table"
	"trestle/words"
)

func nothing() api.Val       { return api.Val{} }
func of(kind, n int) api.Val { return api.Val{Kind: kind, N: n} }
func number(n int) api.Val   { return of(api.Int, n) }
func text(s string) api.Val  { return api.Val{Kind: api.Str, S: s} }
func boolean(b bool) api.Val {
	if b {
		return of(api.Bool, 1)
	}
	return of(api.Bool, 0)
}

// book is the chapters' words a second time, by another road: it goes through the tree, one Go call for each of the program's, and has no code, no stack, no marks.
type book struct {
	src     string
	report  check.Report
	chunk   parse.Node
	funcs   []parse.Node
	loaded  bool
	fuel    int
	h       *heap.Heap
	tables  []*table.Table
	globals map[string]api.Val
	lines   []string
	frames  []*frame
	charged int
	rets    []api.Val
	err     api.Errno
	line    int
}

// frame is a call under way: the locals that are there, the latest last.
type frame struct {
	names       []string
	vals        []api.Val
	line, block int
}

type oops api.Errno

// need: an error ends all that is under way.
func need(e api.Errno) {
	if e != api.OK {
		panic(oops(e))
	}
}

func needs(good bool, e api.Errno) {
	if !good {
		need(e)
	}
}

func newBook(fuel, cells int) (*book, api.Errno) {
	if fuel < 0 || fuel > 1000000 || cells < 0 || cells > 400000 {
		return nil, api.ErrArg
	}
	h, _ := heap.New(cells)
	return &book{fuel: fuel, h: h, globals: map[string]api.Val{}}, api.OK
}

func (b *book) load(src string) api.Fail {
	if _, fail := gen.Gen(src); fail.Code != api.OK {
		return fail
	}
	if b.loaded {
		return api.Fail{Code: api.ErrArg, At: -1}
	}
	b.src, b.loaded = src, true
	b.report, _ = check.Check(src)
	b.chunk, _ = parse.Parse(src)
	for _, kid := range b.chunk.Kids {
		if kid.Kind == parse.Function {
			b.funcs = append(b.funcs, kid)
		}
	}
	plain := strings.Fields("print type tostring tonumber next pairs ipairs rawlen stats probes")
	for _, name := range b.report.Globals {
		b.globals[name] = nothing()
		if i := slices.Index(plain, name); i >= 0 {
			b.globals[name] = of(api.Lib, i+1)
		}
	}
	return api.Fail{}
}

func (b *book) knows(v api.Val) bool {
	if box.Check(v) != api.OK {
		return false
	}
	return v.Kind < api.Tab || v.Kind == api.Tab && v.N <= len(b.tables) || v.Kind == api.Fun && v.N <= len(b.funcs) || v.Kind == api.Lib && v.N <= 23
}

// begin: one Start or Call, and what it came to.
func (b *book) begin(work func() []api.Val) ([]api.Val, api.Errno) {
	b.rets, b.err, b.line = nil, api.OK, 0
	func() {
		defer func() {
			if e, ok := recover().(oops); ok {
				b.err = api.Errno(e)
				for _, f := range slices.Backward(b.frames) {
					b.h.Give(f.block)
				}
				if len(b.frames) > 0 {
					b.line = b.top().line
				}
				b.frames = nil
			}
		}()
		b.rets = work()
	}()
	return slices.Clone(b.rets), b.err
}

func (b *book) start() ([]api.Val, api.Errno) {
	if !b.loaded {
		return nil, api.ErrArg
	}
	return b.begin(func() []api.Val { return b.enter(0, nil, b.chunk, nil) })
}

func (b *book) call(f api.Val, args []api.Val) ([]api.Val, api.Errno) {
	if !b.loaded {
		return nil, api.ErrArg
	}
	return b.begin(func() []api.Val {
		for _, v := range append([]api.Val{f}, args...) {
			needs(b.knows(v), api.ErrForm)
		}
		needs(len(args) <= 200, api.ErrBig)
		return b.invoke(f, args)
	})
}

func (b *book) setGlobal(name string, v api.Val) api.Errno {
	_, there := b.globals[name]
	switch {
	case !b.loaded:
		return api.ErrArg
	case !b.knows(v):
		return api.ErrForm
	case !there:
		return api.ErrName
	}
	b.globals[name] = v
	return api.OK
}

func (b *book) make(array, hash int) (api.Val, api.Errno) {
	x, e := table.New(b.h, array, hash)
	if e != api.OK {
		return nothing(), e
	}
	b.tables = append(b.tables, x)
	return of(api.Tab, len(b.tables)), api.OK
}

func (b *book) probes() int {
	n := 0
	for _, x := range b.tables {
		n += x.Probes()
	}
	return n
}

func (b *book) out() api.Out {
	return api.Out{Lines: b.lines, Rets: b.rets, Err: b.err, Line: b.line, Fuel: b.fuel, Cells: b.h.Live(), Tables: len(b.tables), Probes: b.probes()}
}

func (b *book) top() *frame { return b.frames[len(b.frames)-1] }

func (b *book) step() {
	needs(b.fuel > 0, api.ErrFuel)
	b.fuel--
}

func (b *book) anew(s string) api.Val {
	cost := 1 + len(s)/8
	need(b.h.Spend(cost))
	b.charged += cost
	return text(s)
}

// listed: a list that is taken.
func listed(list []api.Val) []api.Val {
	needs(len(list) <= 200, api.ErrBig)
	return list
}

func first(list []api.Val) api.Val {
	if len(list) == 0 {
		return nothing()
	}
	return list[0]
}

// just: n values.
func just(n int, list []api.Val) []api.Val {
	for len(list) < n {
		list = append(list, nothing())
	}
	return list[:n]
}

// invoke: as by the instruction Call, when the list is taken.
func (b *book) invoke(f api.Val, args []api.Val) []api.Val {
	switch f.Kind {
	case api.Fun:
		b.step()
		node := b.funcs[f.N-1]
		return b.enter(f.N, node.Kids[:node.N], node.Kids[node.N], args)
	case api.Lib:
		b.step()
		return b.library(f.N, args)
	}
	panic(oops(api.ErrCall))
}

func (b *book) enter(n int, params []parse.Node, block parse.Node, args []api.Val) []api.Val {
	id, e := b.h.Take(4 + b.report.Funcs[n].Slots)
	need(e)
	f := &frame{block: id}
	b.frames = append(b.frames, f)
	f.bring(params, args)
	list, _ := b.block(block)
	b.h.Give(id)
	b.frames = b.frames[:len(b.frames)-1]
	return list
}

func (f *frame) bring(names []parse.Node, vals []api.Val) {
	for i, v := range just(len(names), slices.Clone(vals)) {
		f.names, f.vals = append(f.names, names[i].Text), append(f.vals, v)
	}
}

func (f *frame) find(name string) *api.Val {
	for i, n := range slices.Backward(f.names) {
		if n == name {
			return &f.vals[i]
		}
	}
	return nil
}

// Where a block ended.
const (
	through = iota
	broke
	returned
)

func (b *book) block(n parse.Node) ([]api.Val, int) {
	f := b.top()
	there := len(f.names)
	defer func() { f.names, f.vals = f.names[:there], f.vals[:there] }()
	for _, kid := range n.Kids {
		f.line, _, _ = runes.Place(b.src, kid.At)
		b.step()
		if list, how := b.statement(kid); how != through {
			return list, how
		}
	}
	return nil, through
}

func (b *book) statement(n parse.Node) ([]api.Val, int) {
	switch n.Kind {
	case parse.Local:
		b.top().bring(n.Kids[:n.N], b.values(n.N, n.Kids[n.N:]))
	case parse.Assign:
		b.assign(n.Kids[:n.N], n.Kids[n.N:])
	case parse.Run:
		b.applied(n.Kids[0])
	case parse.If:
		kids := n.Kids
		for ; len(kids) > 1; kids = kids[2:] {
			if b.holds(kids[0]) {
				return b.block(kids[1])
			}
		}
		if len(kids) == 1 {
			return b.block(kids[0])
		}
	case parse.While:
		for b.holds(n.Kids[0]) {
			b.step()
			if list, how := b.block(n.Kids[1]); how != through {
				return list, how &^ broke
			}
		}
	case parse.For:
		return b.loopOfNumbers(n.Kids[0], n.Kids[1:len(n.Kids)-1], n.Kids[len(n.Kids)-1])
	case parse.ForIn:
		return b.loopOfLists(n)
	case parse.Do:
		return b.block(n.Kids[0])
	case parse.Break:
		return nil, broke
	case parse.Return:
		return listed(b.open(n.Kids)), returned
	case parse.Function:
		for i, f := range b.funcs {
			if f.At == n.At {
				b.globals[n.Text] = of(api.Fun, i+1)
			}
		}
	}
	return nil, through
}

func (b *book) assign(targets, exps []parse.Node) {
	var below []api.Val
	for _, target := range targets {
		if target.Kind == parse.Index {
			below = append(below, b.value(target.Kids[0]), b.value(target.Kids[1]))
		}
	}
	vals := b.values(len(targets), exps)
	for i, target := range targets {
		if target.Kind == parse.Index {
			need(b.table(below[0]).Set(below[1], vals[i]))
			below = below[2:]
		} else if local := b.top().find(target.Text); local != nil {
			*local = vals[i]
		} else {
			b.globals[target.Text] = vals[i]
		}
	}
}

// loopOfNumbers: the loop's variable is first, then step more each time; no number beyond 64 bits is reckoned with.
func (b *book) loopOfNumbers(name parse.Node, exps []parse.Node, body parse.Node) ([]api.Val, int) {
	ends := []int{0, 0, 1}
	var vals []api.Val
	for _, exp := range exps {
		vals = append(vals, b.value(exp))
	}
	for i, v := range vals {
		ends[i] = whole(v)
	}
	i, last, by := ends[0], ends[1], ends[2]
	needs(by != 0, api.ErrArg)
	f := b.top()
	for by > 0 && i <= last || by < 0 && i >= last {
		b.step()
		f.bring([]parse.Node{name}, []api.Val{number(i)})
		list, how := b.block(body)
		f.names, f.vals = f.names[:len(f.names)-1], f.vals[:len(f.vals)-1]
		if how != through {
			return list, how &^ broke
		}
		if by > 0 && i > math.MaxInt64-by || by < 0 && i < math.MinInt64-by {
			break
		}
		i += by
	}
	return nil, through
}

func (b *book) loopOfLists(n parse.Node) ([]api.Val, int) {
	last := len(n.Kids) - 1
	three := b.values(3, n.Kids[n.N:last])
	f := b.top()
	for {
		vals := just(n.N, slices.Clone(b.invoke(three[0], three[1:])))
		if vals[0] == nothing() {
			return nil, through
		}
		b.step()
		three[2] = vals[0]
		f.bring(n.Kids[:n.N], vals)
		list, how := b.block(n.Kids[last])
		f.names, f.vals = f.names[:len(f.names)-n.N], f.vals[:len(f.vals)-n.N]
		if how != through {
			return list, how &^ broke
		}
	}
}

// open: the open list.
func (b *book) open(exps []parse.Node) []api.Val {
	var list []api.Val
	for i, exp := range exps {
		if i == len(exps)-1 && exp.Kind == parse.Call {
			return append(list, b.applied(exp)...)
		}
		list = append(list, b.value(exp))
	}
	return list
}

// values: n values of a list of expressions.
func (b *book) values(n int, exps []parse.Node) []api.Val {
	if len(exps) != n && len(exps) > 0 {
		return just(n, listed(b.open(exps)))
	}
	var list []api.Val
	for _, exp := range exps {
		list = append(list, b.value(exp))
	}
	return just(n, list)
}

// applied: all that a Call returns.
func (b *book) applied(n parse.Node) []api.Val {
	f := b.value(n.Kids[0])
	return b.invoke(f, listed(b.open(n.Kids[1:])))
}

func (b *book) holds(n parse.Node) bool { return isTrue(b.value(n)) }

func isTrue(v api.Val) bool { return v != nothing() && v != boolean(false) }

func (b *book) table(v api.Val) *table.Table {
	needs(v.Kind == api.Tab, api.ErrType)
	return b.tables[v.N-1]
}

func whole(v api.Val) int {
	needs(v.Kind == api.Int, api.ErrType)
	return v.N
}

// value: one value of an expression.
func (b *book) value(n parse.Node) api.Val {
	switch n.Kind {
	case parse.True, parse.False:
		return boolean(n.Kind == parse.True)
	case parse.Int:
		return number(n.N)
	case parse.Str:
		return text(n.Text)
	case parse.Name:
		if local := b.top().find(n.Text); local != nil {
			return *local
		}
		return b.globals[n.Text]
	case parse.Index:
		if of := n.Kids[0]; of.Kind == parse.Name && (of.Text == "table" || of.Text == "utf8") {
			return api.Val{Kind: api.Lib, N: check.Library(of.Text + "." + n.Kids[1].Text)}
		}
		x, k := b.value(n.Kids[0]), b.value(n.Kids[1])
		return b.table(x).Get(k)
	case parse.Call:
		return first(b.applied(n))
	case parse.Paren:
		return b.value(n.Kids[0])
	case parse.Unary:
		return b.unary(n.Text, b.value(n.Kids[0]))
	case parse.Binary:
		return b.binary(n.Text, b.value(n.Kids[0]), n.Kids[1])
	case parse.Table:
		return b.constructor(n.Kids)
	}
	return nothing()
}

func (b *book) unary(sign string, v api.Val) api.Val {
	switch sign {
	case "not":
		return boolean(!isTrue(v))
	case "#":
		return b.length(v)
	}
	return number(words.Neg(whole(v)))
}

func (b *book) length(v api.Val) api.Val {
	if v.Kind == api.Str {
		return number(len(v.S))
	}
	return number(border.Len(b.table(v)))
}

func (b *book) binary(sign string, v api.Val, right parse.Node) api.Val {
	if sign == "and" && !isTrue(v) || sign == "or" && isTrue(v) {
		return v
	}
	w := b.value(right)
	switch sign {
	case "and", "or":
		return w
	case "==":
		return boolean(v == w)
	case "~=":
		return boolean(v != w)
	case "..":
		joined, e := box.Join(v, w)
		need(e)
		return b.anew(joined.S)
	case "<", "<=", ">", ">=":
		order, e := box.Order(v, w)
		need(e)
		return boolean(order < 0 && sign[0] == '<' || order > 0 && sign[0] == '>' || order == 0 && len(sign) == 2)
	}
	return number(reckoned(sign, whole(v), whole(w)))
}

func reckoned(sign string, v, w int) int {
	switch sign {
	case "+":
		return words.Add(v, w)
	case "-":
		return words.Sub(v, w)
	case "*":
		return words.Mul(v, w)
	}
	n, e := words.Div(v, w)
	if sign == "%" {
		n, e = words.Mod(v, w)
	}
	need(e)
	return n
}

// constructor: Items are stored fifty at a time, Fields at once.
func (b *book) constructor(fields []parse.Node) api.Val {
	items := 0
	for i, field := range fields {
		if field.Kind == parse.Item && (i < len(fields)-1 || field.Kids[0].Kind != parse.Call) {
			items++
		}
	}
	keyed := 0
	for _, field := range fields {
		if field.Kind == parse.Field {
			keyed++
		}
	}
	made, e := b.make(items, keyed)
	need(e)
	x, key := b.table(made), 1
	var waiting []api.Val
	store := func() {
		for _, v := range waiting {
			need(x.Set(number(key), v))
			key++
		}
		waiting = nil
	}
	for i, field := range fields {
		switch {
		case field.Kind == parse.Field:
			k, v := b.value(field.Kids[0]), b.value(field.Kids[1])
			need(x.Set(k, v))
		case i == len(fields)-1 && field.Kids[0].Kind == parse.Call:
			store()
			waiting = listed(b.applied(field.Kids[0]))
		default:
			waiting = append(waiting, b.value(field.Kids[0]))
			if len(waiting) == 50 {
				store()
			}
		}
	}
	store()
	return made
}
