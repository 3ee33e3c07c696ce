package parse_test

import (
	"math/rand"
	"slices"
	"strconv"
	"strings"
	"testing"

	"trestle/api"
	"trestle/lex"
	"trestle/parse"
)

type node = parse.Node

func ofText(at int) api.Fail { return api.Fail{Code: api.ErrText, At: at} }

// The chapter's grammar; signs in quotes. A target and a call are looked at by targetByHand and callByHand; which operator binds most it doesn't say, as that refuses nothing.
const grammar = `
chunk    = { stat | func } [ last ] End
block    = { stat } [ last ]
func     = function Name "(" [ Name { "," Name } ] ")" block end
stat     = ";" | target { "," furthertarget } "=" list | call | do block end
         | while exp do block end
         | if exp then block { elseif exp then block } [ else block ] end
         | for Name "=" exp "," exp [ "," exp ] do block end
         | for Name { "," Name } in list do block end
         | local Name { "," Name } [ "=" list ] | break
last     = return [ list ] [ ";" ]
list     = exp { "," exp }
suffixed = ( Name | "(" exp ")" ) { "[" exp "]" | "." Name | "(" [ list ] ")" }
exp      = { unary } ( nil | true | false | Number | String | suffixed | table ) [ op exp ]
unary    = not | "#" | "-"
op       = or | and | "<" | ">" | "<=" | ">=" | "~=" | "==" | ".." | "+" | "-" | "*" | "//" | "%"
table    = "{" [ field { ( "," | ";" ) field } [ "," | ";" ] ] "}"
field    = "[" exp "]" "=" exp | Name "=" exp | exp
`

// rule answers the place behind what it matches at place i of the tokens; -1: it doesn't.
type rule func(m *match, i int) int

// match: tokens (words and signs as they stand, else the kinds' names), the furthest place at which one was missed, and the place of a suffixed that has to be a target and isn't.
type match struct {
	rules             map[string]rule
	tokens            []string
	furthest, refused int
}

var rules = compile()

func compile() map[string]rule {
	all := map[string]rule{"target": targetByHand, "furthertarget": furtherTargetByHand, "call": callByHand}
	text := strings.ReplaceAll(grammar, "\n         |", " |")
	for _, line := range strings.Split(strings.TrimSpace(text), "\n") {
		words := strings.Fields(line)
		c := &compiler{all: all, words: append(words[2:], "")}
		all[words[0]] = c.choice()
	}
	return all
}

type compiler struct {
	all   map[string]rule
	words []string
}

func (c *compiler) next() string {
	w := c.words[0]
	c.words = c.words[1:]
	return w
}

func (c *compiler) choice() rule {
	rows := []rule{c.row()}
	for c.words[0] == "|" {
		c.next()
		rows = append(rows, c.row())
	}
	return func(m *match, i int) int {
		for _, r := range rows {
			if j := r(m, i); j >= 0 {
				return j
			}
		}
		return -1
	}
}

func (c *compiler) row() rule {
	var parts []rule
	for !slices.Contains([]string{"|", "}", "]", ")", ""}, c.words[0]) {
		parts = append(parts, c.part())
	}
	return func(m *match, i int) int {
		for _, r := range parts {
			if i = r(m, i); i < 0 {
				return -1
			}
		}
		return i
	}
}

func (c *compiler) part() rule {
	switch w := c.next(); w {
	case "{":
		r := c.choice()
		c.next()
		return func(m *match, i int) int {
			for j := r(m, i); j >= 0; j = r(m, i) {
				i = j
			}
			return i
		}
	case "[":
		r := c.choice()
		c.next()
		return func(m *match, i int) int {
			if j := r(m, i); j >= 0 {
				return j
			}
			return i
		}
	case "(":
		r := c.choice()
		c.next()
		return r
	default:
		token := strings.Trim(w, `"`)
		return func(m *match, i int) int {
			if r := c.all[w]; r != nil {
				return r(m, i)
			}
			if m.tokens[i] == token {
				return i + 1
			}
			m.furthest = max(m.furthest, i)
			return -1
		}
	}
}

// sortOf: "target", "call" or "paren": the suffixed of these tokens.
func sortOf(tokens []string) string {
	switch {
	case tokens[len(tokens)-1] != ")":
		return "target"
	case tokens[0] == "(" && partner(tokens) == len(tokens)-1:
		return "paren"
	}
	return "call"
}

// partner: the place of the ")" that closes the "(" at place 0.
func partner(tokens []string) int {
	depth := 0
	for i, t := range tokens {
		depth += strings.Count(t, "(") - strings.Count(t, ")")
		if depth == 0 {
			return i
		}
	}
	return -1
}

// refuse: the first suffixed that has to be a target, and isn't.
func (m *match) refuse(i int) int {
	if m.refused < 0 {
		m.refused = i
	}
	return -1
}

func targetByHand(m *match, i int) int {
	j := m.rules["suffixed"](m, i)
	if j < 0 || sortOf(m.tokens[i:j]) == "target" {
		return j
	}
	if m.tokens[j] == "=" || m.tokens[j] == "," {
		return m.refuse(i)
	}
	return -1
}

func furtherTargetByHand(m *match, i int) int {
	j := m.rules["suffixed"](m, i)
	if j < 0 || sortOf(m.tokens[i:j]) == "target" {
		return j
	}
	// A suffix that was begun there, and missed a token, is what is wrong.
	if m.furthest > j {
		return -1
	}
	return m.refuse(i)
}

func callByHand(m *match, i int) int {
	j := m.rules["suffixed"](m, i)
	if j < 0 || sortOf(m.tokens[i:j]) == "call" {
		return j
	}
	m.furthest = max(m.furthest, j)
	return -1
}

// failByHand: the Fail of Parse, by the chapter's words.
func failByHand(src string) api.Fail {
	tokens, fail := lex.Scan(src)
	if fail != (api.Fail{}) {
		return fail
	}
	m := &match{rules: rules, refused: -1}
	for _, t := range tokens {
		switch t.Kind {
		case lex.Word, lex.Sign:
			m.tokens = append(m.tokens, t.Text)
		default:
			m.tokens = append(m.tokens, []string{lex.Name: "Name", lex.Number: "Number", lex.String: "String", lex.End: "End"}[t.Kind])
		}
	}
	switch j := m.rules["chunk"](m, 0); {
	case m.refused >= 0:
		return ofText(tokens[m.refused].At)
	case j < 0:
		return ofText(tokens[m.furthest].At)
	}
	return api.Fail{}
}

// same: alike in all but, if ats is false, the Ats.
func same(a, b node, ats bool) bool {
	if a.Kind != b.Kind || a.Text != b.Text || a.N != b.N || ats && a.At != b.At {
		return false
	}
	return slices.EqualFunc(a.Kids, b.Kids, func(x, y node) bool { return same(x, y, ats) })
}

func heightByHand(n node) int {
	height := 0
	for level := []node{n}; len(level) > 0; height++ {
		var next []node
		for _, x := range level {
			next = append(next, x.Kids...)
		}
		level = next
	}
	return height
}

// inOrder: P12.3.
func inOrder(n node) bool {
	for i, kid := range n.Kids {
		if kid.At < n.At || n.Kind == parse.Block && i > 0 && kid.At <= n.Kids[i-1].At || !inOrder(kid) {
			return false
		}
	}
	return true
}

// hasNegative: an Int below 0: written as words.Format says it is read as something else.
func hasNegative(n node) bool {
	return n.Kind == parse.Int && n.N < 0 || slices.ContainsFunc(n.Kids, hasNegative)
}

// checkParse: what holds of every text.
func checkParse(t *testing.T, src string) node {
	t.Helper()
	tree, fail := parse.Parse(src)
	if want := failByHand(src); fail != want {
		t.Fatalf("P12.1: Parse(%.300q): %v, want %v", src, fail, want)
	}
	text, textFail := parse.Text(src)
	if textFail != fail {
		t.Fatalf("P12.2: Text(%.300q): %v, want %v", src, textFail, fail)
	}
	if fail != (api.Fail{}) {
		if text != "" || !same(tree, node{}, true) {
			t.Fatalf("P12.1: Parse(%.300q), Text: %v, %q beside an error", src, tree, text)
		}
		return tree
	}
	if got, want := parse.Height(tree), heightByHand(tree); got != want {
		t.Fatalf("P12.2: Height of %.300q: %d, want %d", src, got, want)
	}
	if !inOrder(tree) {
		t.Fatalf("P12.3: Parse(%.300q) = %v", src, tree)
	}
	if len(text) <= api.MaxText && !hasNegative(tree) {
		checkPlain(t, tree, text)
	}
	return tree
}

// checkPlain: the plain form's tree and its plain form.
func checkPlain(t *testing.T, tree node, text string) {
	t.Helper()
	again, fail := parse.Parse(text)
	if fail != (api.Fail{}) || !same(tree, again, false) {
		t.Fatalf("P12.2: Parse(%.300q) = %.300v, %v, want %.300v", text, again, fail, tree)
	}
	if twice, fail := parse.Text(text); twice != text || fail != (api.Fail{}) {
		t.Fatalf("P12.2: Text(%.300q) = %.300q, %v", text, twice, fail)
	}
}

// maker makes a source text by chance, with its tree (its Ats the tokens' numbers till all is told) and its plain form.
type maker struct {
	*rand.Rand
	src      strings.Builder
	ats      []int
	plain    []string
	before   string // the token ahead
	suffixed bool   // a suffixed ended with it
	left     int    // how many nodes may still be made, about
}

// add: a token of the source text and what stands for it in the plain form; it answers its number.
func (m *maker) add(token string, plain ...string) int {
	if tokens, fail := lex.Scan(m.before + token); fail.Code != 0 || len(tokens) != 3 || tokens[1].At != len(m.before) || strings.HasPrefix(token, "-") || m.Intn(2) == 0 {
		m.src.WriteString([]string{" ", "\n", "\t ", "\r\n", " --c)\n", " --\n "}[max(m.Intn(20)-14, 0)])
	}
	m.ats = append(m.ats, m.src.Len())
	m.src.WriteString(token)
	m.plain = append(m.plain, plain...)
	m.before, m.suffixed = token, false
	return len(m.ats) - 1
}

// say: a token that is the same in both.
func (m *maker) say(token string) int { return m.add(token, token) }

// behind: the number of the token that comes next.
func (m *maker) behind() int { return len(m.ats) }

func (m *maker) some() bool {
	m.left--
	return m.left > 0 && m.Intn(3) > 0
}

func (m *maker) ident() string {
	return []string{"a", "b", "x1", "_", "é", "Nil", "END", "fort", strings.Repeat("n", 40), "世界"}[m.Intn(10)]
}

func (m *maker) name() node {
	s := m.ident()
	return node{Kind: 6, Text: s, At: m.say(s)}
}

func (m *maker) number() node {
	n := m.Intn(20)
	if m.Intn(4) == 0 {
		n = m.Int()
	}
	token := []string{strconv.Itoa(n), "0x" + strconv.FormatInt(int64(n), 16), "0X" + strings.ToUpper(strconv.FormatInt(int64(n), 16)), "00" + strconv.Itoa(n)}[m.Intn(4)]
	return node{Kind: 4, N: n, At: m.add(token, strconv.Itoa(n))}
}

func (m *maker) text() node {
	value := []string{"", "a", "end", "(", "=", ";", "and", "a b", "\n\x00\xff\"'\\", "é", "-- c"}[m.Intn(11)]
	token := "'"
	for _, b := range []byte(value) {
		if b == '\'' || b == '\\' || b == '\n' || m.Intn(4) == 0 {
			token += "\\x" + strconv.FormatInt(int64(b)+256, 16)[1:]
		} else {
			token += string([]byte{b})
		}
	}
	return node{Kind: 5, Text: value, At: m.add(token+"'", lex.Quote(value))}
}

// The operators by how much they bind, from 1 on.
var operators = [][]string{{}, {"or"}, {"and"}, {"<", ">", "<=", ">=", "~=", "=="}, {".."}, {"+", "-"}, {"*", "//", "%"}}

// exp: an expression whose own operator binds at least so much.
func (m *maker) exp(least int) node {
	level := least + m.Intn(10)
	if level > 6 || !m.some() {
		return m.operand()
	}
	leftLeast, rightLeast := level, level+1
	if level == 4 {
		leftLeast, rightLeast = level+1, level
	}
	left := m.exp(leftLeast)
	op := operators[level][m.Intn(len(operators[level]))]
	m.say(op)
	return node{Kind: 11, Text: op, At: left.At, Kids: []node{left, m.exp(rightLeast)}}
}

func (m *maker) operand() node {
	switch m.Intn(10) {
	case 0:
		return node{Kind: 1, At: m.say("nil")}
	case 1:
		return node{Kind: 2, At: m.say("true")}
	case 2:
		return node{Kind: 3, At: m.say("false")}
	case 3:
		return m.number()
	case 4:
		return m.text()
	case 5, 6:
		if m.some() {
			sign := []string{"not", "#", "-"}[m.Intn(3)]
			at := m.say(sign)
			return node{Kind: 10, Text: sign, At: at, Kids: []node{m.operand()}}
		}
	case 7:
		if m.some() {
			return m.table()
		}
	}
	return m.suffix(0)
}

// suffix: a suffixed: of kind 7 a target, of kind 8 a call, of another any.
func (m *maker) suffix(kind int) node {
	n := m.stem()
	for {
		fits := kind == 0 || n.Kind == kind || kind == 7 && n.Kind == 6
		if fits && !m.some() {
			m.suffixed = true
			return n
		}
		switch m.Intn(3) {
		case 0:
			m.say("[")
			n = node{Kind: 7, At: n.At, Kids: []node{n, m.exp(1)}}
			m.say("]")
		case 1:
			s := m.ident()
			m.add(".", "[")
			n = node{Kind: 7, At: n.At, Kids: []node{n, {Kind: 5, Text: s, At: m.add(s, lex.Quote(s), "]")}}}
		case 2:
			m.say("(")
			n = node{Kind: 8, At: n.At, Kids: []node{n}}
			if m.some() {
				n.Kids = append(n.Kids, m.list()...)
			}
			m.say(")")
		}
	}
}

func (m *maker) stem() node {
	if !m.some() || m.Intn(2) == 0 {
		return m.name()
	}
	at := m.say("(")
	n := node{Kind: 9, At: at, Kids: []node{m.exp(1)}}
	m.say(")")
	return n
}

func (m *maker) list() []node {
	all := []node{m.exp(1)}
	for m.some() {
		m.say(",")
		all = append(all, m.exp(1))
	}
	return all
}

func (m *maker) names() []node {
	all := []node{m.name()}
	for m.some() {
		m.say(",")
		all = append(all, m.name())
	}
	return all
}

func (m *maker) table() node {
	n := node{Kind: 12, At: m.say("{")}
	for m.some() {
		if len(n.Kids) > 0 {
			m.add([]string{",", ";"}[m.Intn(2)], ",")
		}
		n.Kids = append(n.Kids, m.field())
	}
	if len(n.Kids) > 0 && m.Intn(2) == 0 {
		m.add([]string{",", ";"}[m.Intn(2)])
	}
	m.say("}")
	return n
}

func (m *maker) field() node {
	switch m.Intn(3) {
	case 0:
		at := m.say("[")
		key := m.exp(1)
		m.say("]")
		m.say("=")
		return node{Kind: 14, At: at, Kids: []node{key, m.exp(1)}}
	case 1:
		s := m.ident()
		at := m.add(s, "[", lex.Quote(s), "]")
		m.say("=")
		return node{Kind: 14, At: at, Kids: []node{{Kind: 5, Text: s, At: at}, m.exp(1)}}
	}
	value := m.exp(1)
	return node{Kind: 13, At: value.At, Kids: []node{value}}
}

func (m *maker) block(isChunk bool) node {
	n := node{Kind: 20, At: m.behind()}
	for m.Intn(4) == 0 {
		m.add(";")
	}
	for m.some() {
		n.Kids = append(n.Kids, m.statement(isChunk))
		m.plain = append(m.plain, ";")
		for m.Intn(3) == 0 {
			m.add(";")
		}
	}
	if m.Intn(4) == 0 {
		last := node{Kind: 30, At: m.say("return")}
		if m.some() {
			last.Kids = m.list()
		}
		n.Kids = append(n.Kids, last)
		m.plain = append(m.plain, ";")
		if m.Intn(2) == 0 {
			m.add(";")
		}
	}
	return n
}

func (m *maker) body() node {
	m.say("do")
	n := m.block(false)
	m.say("end")
	return n
}

func (m *maker) statement(isChunk bool) node {
	switch m.Intn(10) {
	case 0:
		return m.assign()
	case 1:
		m.part()
		call := m.suffix(8)
		return node{Kind: 23, At: call.At, Kids: []node{call}}
	case 2:
		at := m.behind()
		return node{Kind: 28, At: at, Kids: []node{m.body()}}
	case 3:
		at := m.say("while")
		condition := m.exp(1)
		return node{Kind: 25, At: at, Kids: []node{condition, m.body()}}
	case 4:
		return m.choice()
	case 5:
		return m.loop()
	case 6:
		n := node{Kind: 27, At: m.say("for")}
		n.Kids = m.names()
		n.N = len(n.Kids)
		m.say("in")
		n.Kids = append(n.Kids, m.list()...)
		n.Kids = append(n.Kids, m.body())
		return n
	case 7:
		n := node{Kind: 21, At: m.say("local")}
		n.Kids = m.names()
		n.N = len(n.Kids)
		if m.some() {
			m.say("=")
			n.Kids = append(n.Kids, m.list()...)
		}
		return n
	case 8:
		if isChunk {
			return m.function()
		}
	}
	return node{Kind: 29, At: m.say("break")}
}

// part: a ";" where a "(" would go on with what stands ahead.
func (m *maker) part() {
	if m.suffixed {
		m.add(";")
	}
}

func (m *maker) assign() node {
	m.part()
	n := node{Kind: 22, Kids: []node{m.suffix(7)}}
	for m.some() {
		m.say(",")
		n.Kids = append(n.Kids, m.suffix(7))
	}
	n.At, n.N = n.Kids[0].At, len(n.Kids)
	m.say("=")
	n.Kids = append(n.Kids, m.list()...)
	return n
}

func (m *maker) choice() node {
	n := node{Kind: 24, At: m.say("if")}
	for {
		n.Kids = append(n.Kids, m.exp(1))
		m.say("then")
		n.Kids = append(n.Kids, m.block(false))
		if !m.some() {
			break
		}
		m.say("elseif")
	}
	if m.Intn(2) == 0 {
		m.say("else")
		n.Kids = append(n.Kids, m.block(false))
	}
	m.say("end")
	return n
}

func (m *maker) loop() node {
	n := node{Kind: 26, At: m.say("for")}
	n.Kids = []node{m.name()}
	m.say("=")
	n.Kids = append(n.Kids, m.exp(1))
	m.say(",")
	n.Kids = append(n.Kids, m.exp(1))
	if m.Intn(2) == 0 {
		m.say(",")
		n.Kids = append(n.Kids, m.exp(1))
	}
	n.Kids = append(n.Kids, m.body())
	return n
}

func (m *maker) function() node {
	n := node{Kind: 31, At: m.say("function"), Text: m.ident()}
	m.say(n.Text)
	m.say("(")
	if m.some() {
		n.Kids = m.names()
	}
	n.N = len(n.Kids)
	m.say(")")
	n.Kids = append(n.Kids, m.block(false))
	m.say("end")
	return n
}

// placed: the tree with the tokens' bytes instead of their numbers.
func (m *maker) placed(n node) node {
	n.At = m.ats[n.At]
	for i := range n.Kids {
		n.Kids[i] = m.placed(n.Kids[i])
	}
	return n
}

// made: a source text of about so many nodes, its tree, its plain form.
func made(r *rand.Rand, nodes int) (string, node, string) {
	m := &maker{Rand: r, left: nodes}
	tree := m.block(true)
	m.src.WriteString([]string{"", " ", "\n", "--"}[r.Intn(4)])
	m.ats = append(m.ats, m.src.Len())
	return m.src.String(), m.placed(tree), strings.Join(m.plain, " ")
}

func TestMadeTrees_P12_1(t *testing.T) {
	r := rand.New(rand.NewSource(1))
	kinds := map[int]int{}
	for i := range 20000 {
		src, want, plain := made(r, 1+i%150)
		if len(src) > api.MaxText {
			continue
		}
		tree := checkParse(t, src)
		if !same(tree, want, true) {
			t.Fatalf("Parse(%q) = %v, want %v", src, tree, want)
		}
		if text, _ := parse.Text(src); text != plain {
			t.Fatalf("P12.2: Text(%q) = %q, want %q", src, text, plain)
		}
		count(tree, kinds)
	}
	for kind := range 32 {
		if (kinds[kind] > 100) != (kind >= 1 && kind <= 14 || kind >= 20) {
			t.Errorf("%d nodes of kind %d were made", kinds[kind], kind)
		}
	}
}

func count(n node, kinds map[int]int) {
	kinds[n.Kind]++
	for _, kid := range n.Kids {
		count(kid, kinds)
	}
}

// All tokens that a row may need, one of each kind.
var alphabet = strings.Fields("and break do else elseif end false for function if in local nil not or return then true while == ~= <= >= // .. + - * % < > = # ( ) { } [ ] ; , . a 1 'a'")

// Each token behind, within and in place of one, in texts that have everything.
func TestOneTokenOff_P12_1(t *testing.T) {
	for _, src := range []string{
		"a = 1", "a . b [ 1 ] , c = a , 1", "a ( ) ( 1 , a ) . b ( )", "( a ) . b = 1", "do a ( ) ; ; end", "while a do break end",
		"if a then elseif 1 then b = 1 else end", "for a = 1 , 2 do end", "for a = 1 , 2 , 3 do end", "for a , b in 1 , 2 do end", "local a , b = 1 , 2", "local a local b",
		"return", "return 1 , a ;", "function f ( a , b ) return end function g ( ) end return a", "a = { }", "a = { 1 , b = 2 ; [ 3 ] = 4 , }", "a = - 1 + # b .. not c", "a = ( b ) ( c )",
		"if a then return else return 1 end", "do return ; end a ( )", "a = nil == 'a'", "a , b . c , d [ 1 ] = 1 ( f ) ( )",
	} {
		words := strings.Fields(src)
		for i := range len(words) + 1 {
			for _, w := range append([]string{""}, alphabet...) {
				checkParse(t, strings.Join(slices.Concat(words[:i], []string{w}, words[i:]), " "))
				checkParse(t, strings.Join(slices.Concat(words[:i], []string{w}), " "))
				if i < len(words) {
					checkParse(t, strings.Join(slices.Concat(words[:i], []string{w}, words[i+1:]), " "))
				}
			}
		}
	}
}

// Every row of up to 3 tokens, alone and within what lets most of them stand.
func TestShortRows_P12_1(t *testing.T) {
	all := append([]string{""}, alphabet...)
	for _, a := range all {
		for _, b := range all {
			for _, c := range all {
				row := a + " " + b + " " + c
				checkParse(t, row)
				checkParse(t, "a = "+row)
			}
			row := a + " " + b
			for _, frame := range []string{"%", "a %", "a , %", "a ( ) %", "( a ) %", "a , ( b ) %", "a , b ( ) %", "a = { % }", "a = { b % }", "return %", "do % end", "if a then % end", "function f ( % ) end", "local % = 1", "for % do end", "a [ % ] = 1", "a ( % )", "a ( ) % = 1", "function f() % end"} {
				checkParse(t, strings.Replace(frame, "%", row, 1))
			}
		}
	}
}

// Every row of up to 6 of the tokens that make assignments and calls.
func TestSuffixedRows_P12_1(t *testing.T) {
	rows := []string{""}
	for range 6 {
		var next []string
		for _, row := range rows {
			for _, w := range []string{"a", "(", ")", ".", "=", ","} {
				next = append(next, row+w+" ")
			}
		}
		rows = next
		for _, row := range rows {
			checkParse(t, row)
		}
	}
}

// Made texts with tokens taken out, put in, put in another's place, or exchanged.
func TestMarredTexts_P12_1(t *testing.T) {
	r := rand.New(rand.NewSource(2))
	for i := range 30000 {
		_, _, plain := made(r, 1+i%80)
		words := strings.Split(plain, " ")
		for range 1 + r.Intn(2) {
			j, k := r.Intn(len(words)), r.Intn(len(words))
			switch w := alphabet[r.Intn(len(alphabet))]; r.Intn(4) {
			case 0:
				words[j] = ""
			case 1:
				words[j] += " " + w
			case 2:
				words[j] = w
			case 3:
				words[j], words[k] = words[k], words[j]
			}
		}
		checkParse(t, strings.Join(words, " "))
	}
}

// grouped: the tree of operands a, b, .. with these operators between them: its operator is the one that binds least, of those alike the last, of ".." the first.
func grouped(operands []node, signs []string) node {
	if len(signs) == 0 {
		return operands[0]
	}
	level := func(sign string) int {
		return slices.IndexFunc(operators, func(row []string) bool { return slices.Contains(row, sign) })
	}
	at := 0
	for i, sign := range signs {
		if level(sign) < level(signs[at]) || level(sign) == level(signs[at]) && sign != ".." {
			at = i
		}
	}
	left, right := grouped(operands[:at+1], signs[:at]), grouped(operands[at+1:], signs[at+1:])
	return node{Kind: 11, Text: signs[at], At: left.At, Kids: []node{left, right}}
}

// Each three operators, with each unary ahead of an operand.
func TestBinding_P12_1(t *testing.T) {
	signs := slices.Concat(operators...)
	for _, a := range signs {
		for _, b := range signs {
			for _, c := range signs {
				for u, unary := range []string{"", "not", "#", "-"} {
					src, operands := "return", []node(nil)
					for i, sign := range []string{a, b, c, ""} {
						src += " "
						operand := node{Kind: 6, Text: "x", At: len(src)}
						if (u+i)%2 == 1 && unary != "" {
							operand = node{Kind: 10, Text: unary, At: len(src), Kids: []node{{Kind: 6, Text: "x", At: len(src) + len(unary) + 1}}}
							src += unary + " "
						}
						src += "x " + sign
						operands = append(operands, operand)
					}
					want := node{Kind: 20, Kids: []node{{Kind: 30, Kids: []node{grouped(operands, []string{a, b, c})}}}}
					if tree, fail := parse.Parse(src); fail != (api.Fail{}) || !same(tree, want, true) {
						t.Fatalf("Parse(%q) = %v, %v, want %v", src, tree, fail, want)
					}
				}
			}
		}
	}
}

func TestExamples_P12_1(t *testing.T) {
	leaf := func(kind int, text string) node { return node{Kind: kind, Text: text} }
	number := func(n int) node { return node{Kind: parse.Int, N: n} }
	of := func(kind, n int, kids ...node) node { return node{Kind: kind, N: n, Kids: kids} }
	name := func(s string) node { return leaf(parse.Name, s) }
	two := func(sign string, kids ...node) node { return node{Kind: parse.Binary, Text: sign, Kids: kids} }
	for src, want := range map[string]node{
		"x = 1": of(parse.Assign, 1, name("x"), number(1)),
		"a.b(1)[2] = c": of(parse.Assign, 1,
			of(parse.Index, 0, of(parse.Call, 0, of(parse.Index, 0, name("a"), leaf(parse.Str, "b")), number(1)), number(2)), name("c")),
		"local t = {1, x = 2; [3] = 4,}": of(parse.Local, 1, name("t"), of(parse.Table, 0, of(parse.Item, 0, number(1)),
			of(parse.Field, 0, leaf(parse.Str, "x"), number(2)), of(parse.Field, 0, number(3), number(4)))),
		"return a or b and c .. d .. e": of(parse.Return, 0, two("or", name("a"), two("and", name("b"), two("..", name("c"), two("..", name("d"), name("e")))))),
		"return -a * b - c":             of(parse.Return, 0, two("-", two("*", node{Kind: parse.Unary, Text: "-", Kids: []node{name("a")}}, name("b")), name("c"))),
	} {
		tree := checkParse(t, src)
		if !same(tree, of(parse.Block, 0, want), false) {
			t.Errorf("Parse(%q) = %v, want %v", src, tree, want)
		}
	}
	for src, at := range map[string]int{"x": 1, "f() = 1": 0, "a, f() = 1": 3, "if x then function f() end end": 10, "return 1 x = 2": 9, "x = ": 4, "a.1 = 2": 2} {
		if tree, fail := parse.Parse(src); fail != ofText(at) || !same(tree, node{}, true) {
			t.Errorf("Parse(%q) = %v, %v, want ErrText at %d", src, tree, fail, at)
		}
	}
}

// Where a suffixed stands that is no call or no target.
func TestNoTarget_P12_1(t *testing.T) {
	for src, at := range map[string]int{
		"(a)": 3, "a.b": 3, "a[1] end": 5, "(a) b": 4, "a 1": 2, "a 'x'": 2, "f().x y()": 6,
		"(a), b = 1": 0, "f(), b = 1": 0, " f() =": 1, " f() ,": 1, "a, (b)": 3, "a, f()": 3, "a, f() x": 3, "a, b, (c).d(), e": 6, "a, (b": 5, "a, f(": 5, "a, b": 4, "a, b c": 5, "a,": 2, "a, 1": 3, "a = 1, f() = 2": 11,
		"x = a (b).c = 1": 12, "x = a\n(b) = 1": 10, "f()\n(g) = 1": 0, "f() (a), b = 1": 0,
	} {
		if _, fail := parse.Parse(src); fail != ofText(at) {
			t.Errorf("Parse(%q): %v, want ErrText at %d", src, fail, at)
		}
		checkParse(t, src)
	}
	for _, src := range []string{"f()\n(g).x = 1", "x = f\n(g)()", "local x (f)()", "x = 1 (f)()", "x = {} (f)()", "x = 'a' (f).y = 1", "f();(g)()", "break (f)()", "do (f)() end (g)()", "function f() (g)() end"} {
		if _, fail := parse.Parse(src); fail != (api.Fail{}) {
			t.Errorf("Parse(%q): %v", src, fail)
		}
		checkParse(t, src)
	}
}

// A "(" behind a suffixed goes on with it, on another line too.
func TestLongestSuffixed_P12_1(t *testing.T) {
	for src, want := range map[string]string{
		"x = f\n(g)()":      "x = f ( g ) ( ) ;",
		"f()\n(g).x = 1":    "f ( ) ( g ) [ \"x\" ] = 1 ;",
		"f();(g).x = 1":     "f ( ) ; ( g ) [ \"x\" ] = 1 ;",
		"local x\n(f)()":    "local x ; ( f ) ( ) ;",
		"x = 1\n(f)()":      "x = 1 ; ( f ) ( ) ;",
		"x = {}\n(f)()":     "x = { } ; ( f ) ( ) ;",
		"x = (f)\n(g)":      "x = ( f ) ( g ) ;",
		"x = -f\n(g)[1]()":  "x = - f ( g ) [ 1 ] ( ) ;",
		"local x = f (g).y": "local x = f ( g ) [ \"y\" ] ;",
	} {
		if text, fail := parse.Text(src); text != want || fail != (api.Fail{}) {
			t.Errorf("Text(%q) = %q, %v, want %q", src, text, fail, want)
		}
	}
}

// Where a Block begins.
func TestBlockAts_P12_1(t *testing.T) {
	for src, at := range map[string]int{"": 0, "  ": 2, " --c": 4, " x = 1": 1, " ; x = 1": 1, " ;": 1, "\n return": 2} {
		if tree, fail := parse.Parse(src); tree.Kind != parse.Block || tree.At != at || fail != (api.Fail{}) {
			t.Errorf("Parse(%q) = %v, %v, want a Block at %d", src, tree, fail, at)
		}
	}
	for src, at := range map[string]int{"do end": 3, "do  x = 1 end": 4, "do ;x = 1 end": 3, "do ; end": 3, "while x do return end": 11, "for i = 1, 2 do  end": 17, "function f( ) end": 14, "if x then  else end": 11} {
		tree := checkParse(t, src)
		kids := tree.Kids[0].Kids
		if i := slices.IndexFunc(kids, func(n node) bool { return n.Kind == parse.Block }); kids[i].At != at {
			t.Errorf("Parse(%q): its Block begins at %d, want %d", src, kids[i].At, at)
		}
	}
}

// Words within Strings are no words, and the Fail of lex.Scan comes first.
func TestTokens_P12_1(t *testing.T) {
	for src, fail := range map[string]api.Fail{
		"'do' end": ofText(0), "x '=' 1": ofText(2), "x = 'a' '+' 'b'": ofText(8), "x = {'}'": ofText(8), "f('('": ofText(5), "x = 'nil' .. 'and'": {}, "return ';'": {}, "x = {'[', a = '='}": {},
		"x = 'a": ofText(4), "end ~": ofText(4), "x 1x": ofText(2), "= 9223372036854775808": {Code: api.ErrBig, At: 2},
		"x = " + strings.Repeat("n", 41): {Code: api.ErrBig, At: 4}, strings.Repeat(" ", 20001): {Code: api.ErrBig, At: -1}, "x" + strings.Repeat(" ", 19999): ofText(20000),
	} {
		if _, got := parse.Parse(src); got != fail {
			t.Errorf("Parse(%.100q): %v, want %v", src, got, fail)
		}
		checkParse(t, src)
	}
}

func TestText_P12_2(t *testing.T) {
	for src, want := range map[string]string{
		"": "", ";;": "", "local t = {1, x = 2; [3] = 4,}": `local t = { 1 , [ "x" ] = 2 , [ 3 ] = 4 } ;`,
		"x=0x10": "x = 16 ;", "x=007": "x = 7 ;", `x='a\x01"'`: `x = "a\001\"" ;`, "x = {}": "x = { } ;", "f{}": "", "return": "return ;", "return;": "return ;",
		"x = a.b.c[1](2,3)": `x = a [ "b" ] [ "c" ] [ 1 ] ( 2 , 3 ) ;`, "x = not nil == - -1": "x = not nil == - - 1 ;",
		"function f(a,b)return a end f()":             "function f ( a , b ) return a ; end ; f ( ) ;",
		"if a then b() elseif c then else d=true end": "if a then b ( ) ; elseif c then else d = true ; end ;",
		"while(a)do break end":                        "while ( a ) do break ; end ;", "do do end end": "do do end ; end ;",
		"for i=1,2,3 do end for k,v in a,b do x=false end": "for i = 1 , 2 , 3 do end ; for k , v in a , b do x = false ; end ;",
		"local a,b local c=1,2 a,b=b,a":                    "local a , b ; local c = 1 , 2 ; a , b = b , a ;",
		// Ints by words.Format, those below 0 too.
		"x = 0xffffffffffffffff": "x = -1 ;", "x = 0x8000000000000000": "x = -9223372036854775808 ;",
	} {
		text, fail := parse.Text(src)
		if text != want || (fail != (api.Fail{})) != (src == "f{}") {
			t.Errorf("Text(%q) = %q, %v, want %q", src, text, fail, want)
		}
		checkParse(t, src)
	}
}

func TestHeight_P12_2(t *testing.T) {
	for height, src := range []string{1: "", 2: "break", 3: "x = 1", 4: "x = -1", 5: "f(a.b)"} {
		if tree, _ := parse.Parse(src); height > 0 && parse.Height(tree) != height {
			t.Errorf("Height of %q: %d, want %d", src, parse.Height(tree), height)
		}
	}
	// Any tree, of whatever kinds.
	r := rand.New(rand.NewSource(3))
	for range 2000 {
		all := []node{{Kind: -1}}
		for range r.Intn(60) {
			kid := all[r.Intn(len(all))]
			all = append(all, node{Kind: r.Int(), Kids: append(slices.Clone(kid.Kids), all[r.Intn(len(all))])})
			if heightByHand(all[len(all)-1]) > 8 {
				break
			}
		}
		n := all[len(all)-1]
		if got, want := parse.Height(n), heightByHand(n); got != want {
			t.Fatalf("Height(%v) = %d, want %d", n, got, want)
		}
	}
	deep := node{}
	for i := range 1 << 16 {
		deep = node{Kids: []node{{}, deep, {}}}
		if i%9999 == 0 && parse.Height(deep) != i+2 {
			t.Fatalf("Height of %d nested: %d", i+2, parse.Height(deep))
		}
	}
	if got := parse.Height(node{Kids: []node{}}); got != 1 {
		t.Errorf("Height of a node with an empty list: %d", got)
	}
}

func TestInOrder_P12_3(t *testing.T) {
	// In the order in which the nodes are met, each Kid behind what stands ahead of it.
	tree := checkParse(t, " x.y = -1\n;f({a = 2})")
	var ats []int
	for level := []node{tree}; len(level) > 0; level = slices.Concat(level[0].Kids, level[1:]) {
		ats = append(ats, level[0].At)
	}
	// Block, Assign, Index x y, Unary 1, Run, Call f, Table, Field, a 2.
	if want := []int{1, 1, 1, 1, 3, 7, 8, 11, 11, 11, 13, 14, 14, 18}; !slices.Equal(ats, want) {
		t.Errorf("the Ats are %v, want %v", ats, want)
	}
	r := rand.New(rand.NewSource(6))
	for i := range 5000 {
		src, _, _ := made(r, 1+i%60)
		if tree, _ := parse.Parse(src); !inOrder(tree) {
			t.Fatalf("Parse(%q) = %v", src, tree)
		}
	}
}

// The greatest texts, as deep and as wide as they can be.
func TestLimits_P12_1(t *testing.T) {
	for _, x := range []struct {
		ahead, opening, middle, closing, behind string
		each, more                              int // nodes on the way down
	}{
		{"x=", "(", "1", ")", "", 1, 3}, {"x=", "{", "1", "}", "", 2, 3}, {"x=", "#", "1", "", "", 1, 3}, {"x=", "not ", "1", "", "", 1, 3}, {"x=", "- ", "1", "", "", 1, 3},
		{"x=", "a(", "", ")", "", 1, 3}, {"x=", "a[", "1", "]", "", 1, 3}, {"", "do ", "", "end ", "", 2, 1}, {"", "while a do ", "", "end ", "", 2, 1}, {"", "if a then else ", "", "end ", "", 2, 1},
		{"x=", "1+", "1", "", "", 1, 3}, {"x=", "1 ..", "1", "", "", 1, 3}, {"f", ".a", "()", "", "", 1, 4}, {"f", "()", "", "", "", 1, 3}, {"x={", "a=1;", "", "", "}", 0, 5}, {"", "f();", "", "", "", 0, 4},
	} {
		k := (api.MaxText - len(x.ahead+x.middle+x.behind)) / len(x.opening+x.closing)
		src := x.ahead + strings.Repeat(x.opening, k) + x.middle + strings.Repeat(x.closing, k) + x.behind
		src += strings.Repeat(" ", api.MaxText-len(src))
		tree := checkParse(t, src)
		if got, want := parse.Height(tree), k*x.each+x.more; got != want {
			t.Errorf("Height of %.20q..: %d, want %d", src, got, want)
		}
		checkParse(t, src+" ")
		checkParse(t, src[:api.MaxText/2])
		checkParse(t, x.ahead+strings.Repeat(x.opening, k))
	}
}

func TestNoPanic_P1(t *testing.T) {
	r := rand.New(rand.NewSource(4))
	const signs = "()[]{}.,;=+-*/%<>~#\"'\\ \n\t019axXé\xff\x00"
	for i := range 60000 {
		var b []byte
		for range r.Intn(30) {
			switch i % 3 {
			case 0:
				b = append(b, byte(r.Intn(256)))
			case 1:
				b = append(b, signs[r.Intn(len(signs))])
			case 2:
				b = append(b, alphabet[r.Intn(len(alphabet))]+" "...)
			}
		}
		checkParse(t, string(b))
	}
}

// lists: all lists of a tree, with their spare room.
func lists(n node) [][]node {
	var all [][]node
	if cap(n.Kids) > 0 {
		all = append(all, n.Kids[:cap(n.Kids)])
	}
	for _, kid := range n.Kids {
		all = append(all, lists(kid)...)
	}
	return all
}

// What one list is told, no other list of any answer shows.
func TestOwnMemory_R3(t *testing.T) {
	r := rand.New(rand.NewSource(5))
	for i := range 2000 {
		src, want, _ := made(r, 1+i%100)
		if len(src) > api.MaxText {
			continue
		}
		first, _ := parse.Parse(src)
		second, _ := parse.Parse(src)
		all := append(lists(first), lists(second)...)
		for mark, list := range all {
			for j := range list {
				list[j].N = -1 - mark
			}
		}
		for mark, list := range all {
			for j := range list {
				if list[j].N != -1-mark {
					t.Fatalf("two lists of the answers to %q share memory", src)
				}
			}
		}
		if third, _ := parse.Parse(src); !same(third, want, true) {
			t.Fatalf("Parse(%q) hangs on an earlier answer", src)
		}
	}
	// Height leaves what it is given, its spare room too.
	kids := []node{{Kind: 1}, {Kind: 2}, {Kind: 3, Kids: []node{{}}}}
	if got := parse.Height(node{Kids: kids[:1]}); got != 2 || kids[1].Kind != 2 || kids[2].Kind != 3 || len(kids[2].Kids) != 1 {
		t.Errorf("Height = %d, and its argument is %v now", got, kids)
	}
}
