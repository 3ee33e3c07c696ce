package gen_test

import (
	"slices"
	"strconv"
	"strings"

	"trestle/api"
	"trestle/check"
	"trestle/gen"
	"trestle/parse"
)

// A second reckoning of the code, by the chapter's words: it is written down row by row as text, jumps by labels, and numbered at the end.

type node = parse.Node

// The instructions by the chapter's words.
const instructions = "Line 1, Const 2, Nil 3, True 4, False 5, Local 6, SetLocal 7, Global 8, SetGlob 9, Lib 10, Fun 11, Index 12, Put 13, Copy 14, Pop 15, Unary 16, Binary 17, Jump 18, JumpNot 19, And 20, Or 21, Mark 22, Adjust 23, Call 24, Return 25, Table 26, Field 27, Batch 28, Rest 29, ForPrep 30, ForLoop 31, InPrep 32, InNext 33, Turn 34"

var numbers = instructionsByHand()

func instructionsByHand() map[string]int {
	all := map[string]int{}
	for _, row := range strings.Split(instructions, ", ") {
		name, n, _ := strings.Cut(row, " ")
		all[name], _ = strconv.Atoi(n)
	}
	return all
}

// row: an instruction with its operands, numbers or labels; or a label and a ":".
func row(word string, operands ...any) []string {
	for _, o := range operands {
		switch o := o.(type) {
		case int:
			word += " " + strconv.Itoa(o)
		case string:
			word += " " + o
		}
	}
	return []string{word}
}

// numbered: the rows as instructions.
func numbered(rows []string) []gen.Ins {
	labels, count := map[string]int{}, 0
	for _, r := range rows {
		if label, ok := strings.CutSuffix(r, ":"); ok {
			labels[label] = count
		} else {
			count++
		}
	}
	var all []gen.Ins
	for _, r := range rows {
		words := strings.Fields(r)
		if strings.HasSuffix(r, ":") || len(words) == 0 {
			continue
		}
		var operands [3]int
		for i, w := range words[1:] {
			n, err := strconv.Atoi(w)
			if at, ok := labels[w]; ok {
				n = at
			} else if err != nil {
				panic("no label " + w)
			}
			operands[i] = n
		}
		if numbers[words[0]] == 0 {
			panic("no instruction " + words[0])
		}
		all = append(all, gen.Ins{Op: numbers[words[0]], A: operands[0], B: operands[1], C: operands[2]})
	}
	return all
}

// hand writes the code of one function.
type hand struct {
	src     string
	consts  []api.Val
	globals []string
	labels  *int
	number  int // of the latest Function
}

// scene: the locals that are there, and the label behind the innermost loop.
type scene struct {
	locals []string
	end    string
}

func (s scene) with(locals ...string) scene {
	s.locals = slices.Concat(s.locals, locals)
	return s
}

func (h *hand) label(name string) string {
	*h.labels++
	return name + "#" + strconv.Itoa(*h.labels)
}

func texts(nodes []node) []string {
	var all []string
	for _, n := range nodes {
		all = append(all, n.Text)
	}
	return all
}

func (h *hand) name(s scene, name, local, global string) []string {
	latest := 0
	for i, there := range s.locals {
		if there == name {
			latest = i + 1
		}
	}
	if latest > 0 {
		return row(local, latest)
	}
	return row(global, slices.Index(h.globals, name)+1)
}

func (h *hand) each(s scene, list []node) []string {
	var all []string
	for _, n := range list {
		all = append(all, h.one(s, n)...)
	}
	return all
}

func isKept(n node) bool { return n.Kind == parse.Name && (n.Text == "table" || n.Text == "utf8") }

func (h *hand) one(s scene, n node) []string {
	switch n.Kind {
	case parse.Nil:
		return row("Nil")
	case parse.True:
		return row("True")
	case parse.False:
		return row("False")
	case parse.Int:
		return row("Const", slices.Index(h.consts, api.Val{Kind: api.Int, N: n.N})+1)
	case parse.Str:
		return row("Const", slices.Index(h.consts, api.Val{Kind: api.Str, S: n.Text})+1)
	case parse.Name:
		return h.name(s, n.Text, "Local", "Global")
	case parse.Index:
		if isKept(n.Kids[0]) {
			return row("Lib", check.Library(n.Kids[0].Text+"."+n.Kids[1].Text))
		}
		return slices.Concat(h.one(s, n.Kids[0]), h.one(s, n.Kids[1]), row("Index"))
	case parse.Call:
		return h.call(s, n, 1)
	case parse.Paren:
		return h.one(s, n.Kids[0])
	case parse.Unary:
		return slices.Concat(h.one(s, n.Kids[0]), row("Unary", slices.Index(strings.Fields("not # -"), n.Text)+1))
	case parse.Binary:
		return h.binary(s, n)
	case parse.Table:
		return h.table(s, n)
	}
	panic("no expression")
}

func (h *hand) binary(s scene, n node) []string {
	left, right := h.one(s, n.Kids[0]), h.one(s, n.Kids[1])
	if n.Text == "and" || n.Text == "or" {
		word, end := map[string]string{"and": "And", "or": "Or"}[n.Text], h.label("end")
		return slices.Concat(left, row(word, end), right, row(end+":"))
	}
	return slices.Concat(left, right, row("Binary", slices.Index(strings.Fields("+ - * // % .. == ~= < <= > >="), n.Text)+1))
}

func (h *hand) call(s scene, n node, results int) []string {
	return slices.Concat(h.one(s, n.Kids[0]), row("Mark"), h.open(s, n.Kids[1:]), row("Call", results))
}

func (h *hand) open(s scene, list []node) []string {
	var all []string
	for i, n := range list {
		if i == len(list)-1 && n.Kind == parse.Call {
			all = append(all, h.call(s, n, -1)...)
		} else {
			all = append(all, h.one(s, n)...)
		}
	}
	return all
}

func (h *hand) values(s scene, n int, list []node) []string {
	if len(list) == n {
		return h.each(s, list)
	}
	if len(list) == 0 {
		return slices.Repeat(row("Nil"), n)
	}
	return slices.Concat(row("Mark"), h.open(s, list), row("Adjust", n))
}

func (h *hand) table(s scene, n node) []string {
	isLastCall := func(i int) bool {
		return i == len(n.Kids)-1 && n.Kids[i].Kind == parse.Item && n.Kids[i].Kids[0].Kind == parse.Call
	}
	a, b := 0, 0
	for i, field := range n.Kids {
		if field.Kind == parse.Field {
			b++
		} else if !isLastCall(i) {
			a++
		}
	}
	all := row("Table", a, b)
	p, k := 0, 1
	batch := func() {
		if p != 0 {
			all = append(all, row("Batch", p, k)...)
			k, p = k+p, 0
		}
	}
	for i, field := range n.Kids {
		switch {
		case field.Kind == parse.Field:
			all = slices.Concat(all, h.one(s, field.Kids[0]), h.one(s, field.Kids[1]), row("Field", p))
		case isLastCall(i):
			batch()
			all = slices.Concat(all, row("Mark"), h.call(s, field.Kids[0], -1), row("Rest", k))
		default:
			all = append(all, h.one(s, field.Kids[0])...)
			p++
			if p == 50 {
				batch()
			}
		}
	}
	batch()
	return all
}

// block: the code of its statements; the locals that they bring are in scenes of this call alone.
func (h *hand) block(s scene, n node) []string {
	var all []string
	for _, kid := range n.Kids {
		line := 1 + strings.Count(h.src[:kid.At], "\n")
		all = slices.Concat(all, row("Line", line), h.statement(s, kid))
		if kid.Kind == parse.Local {
			s = s.with(texts(kid.Kids[:kid.N])...)
		}
	}
	return all
}

func (h *hand) statement(s scene, n node) []string {
	switch n.Kind {
	case parse.Local:
		all := h.values(s, n.N, n.Kids[n.N:])
		for i := n.N; i >= 1; i-- {
			all = append(all, row("SetLocal", len(s.locals)+i)...)
		}
		return all
	case parse.Assign:
		return h.assign(s, n)
	case parse.Run:
		return h.call(s, n.Kids[0], 0)
	case parse.If:
		return h.choice(s, n)
	case parse.While:
		top, end := h.label("top"), h.label("end")
		condition := h.one(s, n.Kids[0])
		s.end = end
		return slices.Concat(row(top+":"), condition, row("JumpNot", end), row("Turn"), h.block(s, n.Kids[1]), row("Jump", top), row(end+":"))
	case parse.For:
		return h.loop(s, n)
	case parse.ForIn:
		return h.loopIn(s, n)
	case parse.Do:
		return h.block(s, n.Kids[0])
	case parse.Break:
		return row("Jump", s.end)
	case parse.Return:
		return slices.Concat(row("Mark"), h.open(s, n.Kids), row("Return"))
	case parse.Function:
		h.number++
		return slices.Concat(row("Fun", h.number), row("SetGlob", slices.Index(h.globals, n.Text)+1))
	}
	panic("no statement")
}

func (h *hand) assign(s scene, n node) []string {
	var all []string
	m := 0
	for _, target := range n.Kids[:n.N] {
		if target.Kind == parse.Index {
			all = slices.Concat(all, h.one(s, target.Kids[0]), h.one(s, target.Kids[1]))
			m++
		}
	}
	all = append(all, h.values(s, n.N, n.Kids[n.N:])...)
	j := 0
	for i := 1; i <= n.N; i++ {
		target := n.Kids[i-1]
		if target.Kind == parse.Name {
			all = slices.Concat(all, row("Copy", n.N-i), h.name(s, target.Text, "SetLocal", "SetGlob"))
			continue
		}
		j++
		all = append(all, row("Put", n.N+2*(m-j), n.N-i)...)
	}
	return append(all, row("Pop", n.N+2*m)...)
}

func (h *hand) choice(s scene, n node) []string {
	var all []string
	end := h.label("end")
	i := 0
	for ; i+1 < len(n.Kids); i += 2 {
		next := h.label("next")
		all = slices.Concat(all, h.one(s, n.Kids[i]), row("JumpNot", next), h.block(s, n.Kids[i+1]))
		if i+2 < len(n.Kids) {
			all = append(all, row("Jump", end)...)
		}
		all = append(all, row(next+":")...)
	}
	if i < len(n.Kids) {
		all = append(all, h.block(s, n.Kids[i])...)
	}
	return append(all, row(end+":")...)
}

func (h *hand) loop(s scene, n node) []string {
	body, end, first := h.label("body"), h.label("end"), len(s.locals)+1
	count := len(n.Kids)
	hasStep := count - 4
	inner := s.with("", "", "", n.Kids[0].Text)
	inner.end = end
	return slices.Concat(h.each(s, n.Kids[1:count-1]), row("ForPrep", first, end, hasStep), row(body+":"), h.block(inner, n.Kids[count-1]), row("ForLoop", first, body), row(end+":"))
}

func (h *hand) loopIn(s scene, n node) []string {
	top, end, first := h.label("top"), h.label("end"), len(s.locals)+1
	block := len(n.Kids) - 1
	inner := s.with("", "", "").with(texts(n.Kids[:n.N])...)
	inner.end = end
	return slices.Concat(h.values(s, 3, n.Kids[n.N:block]), row("InPrep", first), row(top+":"),
		row("Local", first), row("Mark"), row("Local", first+1), row("Local", first+2), row("Call", n.N), row("InNext", first, end, n.N),
		h.block(inner, n.Kids[block]), row("Jump", top), row(end+":"))
}

// genByHand: Gen by the chapter's words.
func genByHand(src string) (gen.Program, api.Fail) {
	report, fail := check.Check(src)
	if fail != (api.Fail{}) {
		return gen.Program{}, fail
	}
	tree, _ := parse.Parse(src)
	functions := []node{{Kids: []node{tree}}}
	for _, n := range tree.Kids {
		if n.Kind == parse.Function {
			functions = append(functions, n)
		}
	}
	p := gen.Program{Globals: report.Globals}
	for i, f := range report.Funcs {
		n := functions[i]
		h := &hand{src: src, consts: f.Consts, globals: report.Globals, labels: new(int)}
		rows := slices.Concat(h.block(scene{locals: texts(n.Kids[:n.N])}, n.Kids[n.N]), row("Mark"), row("Return"))
		p.Units = append(p.Units, gen.Unit{Name: f.Name, Params: f.Params, Slots: f.Slots, Consts: f.Consts, Code: numbered(rows)})
	}
	return p, api.Fail{}
}
