package gen_test

import (
	"math/rand"
	"strconv"
	"strings"
)

// maker makes a source text by chance, token by token.
type maker struct {
	*rand.Rand
	tokens []string
	own    []string // the names of locals: others in Functions than in the chunk, so that few are refused
	loops  int      // around
	left   int      // how many nodes may still be made, about
	wild   bool     // may any name stand anywhere?
}

func (m *maker) say(tokens ...string) { m.tokens = append(m.tokens, tokens...) }

func (m *maker) some() bool {
	m.left--
	return m.left > 0 && m.Intn(3) > 0
}

func (m *maker) of(words string) string {
	all := strings.Fields(words)
	return all[m.Intn(len(all))]
}

func (m *maker) local() {
	if m.wild && m.Intn(20) == 0 {
		m.say(m.of("a b p q table utf8 x"))
		return
	}
	m.say(m.own[m.Intn(len(m.own))])
}

func (m *maker) name() {
	switch {
	case m.wild && m.Intn(20) == 0:
		m.say(m.of("a b p q table utf8"))
	case m.Intn(2) == 0:
		m.local()
	default:
		m.say(m.of("x y z é print f g sort type"))
	}
}

func (m *maker) list(one func()) {
	one()
	for m.some() {
		m.say(",")
		one()
	}
}

func (m *maker) exp() {
	switch m.Intn(14) {
	case 0:
		m.say(m.of("nil true false"))
	case 1, 2:
		m.say(m.of("0 1 2 3 0x10 16 99"))
	case 3, 4:
		m.say(m.of(`'a' 'b' "a" '1' '' '\xff' '\n' 'sort'`))
	case 5:
		m.say(m.of("not # -"))
		m.exp()
	case 6, 7:
		if m.some() {
			m.exp()
			m.say(m.of("+ - * // % .. == ~= < <= > >= and or and or and or"))
			m.exp()
			return
		}
		m.name()
	case 8:
		if m.some() {
			m.table()
			return
		}
		m.name()
	case 9, 10:
		m.stem()
		m.suffix(0)
	default:
		m.suffixed()
	}
}

func (m *maker) table() {
	m.say("{")
	for m.some() {
		m.field()
		m.say(m.of(", ;"))
	}
	// About as many Items as are stored at one time, or twice as many.
	if m.Intn(8) == 0 {
		m.left -= 20
		for range 45 + 50*m.Intn(2) + m.Intn(12) {
			m.say(m.of("1 x nil 'a'"), m.of(", ;"))
		}
		for m.Intn(3) == 0 {
			m.field()
			m.say(",")
		}
	}
	if m.Intn(2) == 0 {
		m.field()
	}
	m.say("}")
}

func (m *maker) field() {
	switch m.Intn(4) {
	case 0:
		m.say("[")
		m.exp()
		m.say("]", "=")
	case 1:
		m.say(m.of("x sort a"), "=")
	}
	m.exp()
}

func (m *maker) stem() {
	switch {
	case m.Intn(6) == 0:
		m.say(m.of("table.sort table.insert table['concat'] utf8.len utf8['codes']"))
	case m.Intn(5) == 0:
		m.say("(")
		m.exp()
		m.say(")")
	default:
		m.name()
	}
}

func (m *maker) suffixed() {
	m.stem()
	for m.some() {
		m.suffix(m.Intn(3))
	}
}

func (m *maker) suffix(which int) {
	switch which {
	case 0:
		m.say("(")
		if m.some() {
			m.list(m.exp)
		}
		m.say(")")
	case 1:
		m.say(".", m.of("x sort len a"))
	default:
		m.say("[")
		m.exp()
		m.say("]")
	}
}

func (m *maker) target() {
	if m.Intn(2) == 0 {
		m.name()
		return
	}
	m.name()
	for m.some() {
		m.suffix(m.Intn(3))
	}
	m.suffix(1 + m.Intn(2))
}

func (m *maker) block() {
	for m.some() {
		m.statement()
		m.say(";")
	}
	if m.Intn(6) == 0 {
		m.say("return")
		if m.some() {
			m.list(m.exp)
		}
		m.say(";")
	}
}

func (m *maker) body() {
	m.say("do")
	m.loops++
	m.block()
	m.loops--
	m.say("end")
}

func (m *maker) statement() {
	switch m.Intn(12) {
	case 0, 1:
		m.list(m.target)
		m.say("=")
		m.list(m.exp)
	case 2:
		m.suffixed()
		m.suffix(0)
	case 3:
		m.say("do")
		m.block()
		m.say("end")
	case 4:
		m.say("while")
		m.exp()
		m.body()
	case 5, 6:
		m.choice()
	case 7:
		m.say("for")
		m.local()
		m.say("=")
		m.exp()
		m.say(",")
		m.exp()
		if m.Intn(2) == 0 {
			m.say(",")
			m.exp()
		}
		m.body()
	case 8:
		m.say("for")
		m.list(m.local)
		m.say("in")
		m.list(m.exp)
		m.body()
	default:
		m.simple()
	}
}

// simple: a break, where one may stand, or a Local.
func (m *maker) simple() {
	if m.loops > 0 && m.Intn(2) == 0 || m.wild && m.Intn(20) == 0 {
		m.say("break")
		return
	}
	m.say("local")
	m.list(m.local)
	if m.Intn(2) == 0 {
		m.say("=")
		m.list(m.exp)
	}
}

func (m *maker) choice() {
	m.say("if")
	m.exp()
	m.say("then")
	m.block()
	for m.some() {
		m.say("elseif")
		m.exp()
		m.say("then")
		m.block()
	}
	if m.Intn(2) == 0 {
		m.say("else")
		m.block()
	}
	m.say("end")
}

func (m *maker) function() {
	m.own = strings.Fields("p q r s")
	m.say("function", m.of("f g h a x print"), "(")
	if m.some() {
		m.list(m.local)
	}
	m.say(")")
	m.left += 10
	m.block()
	m.say("end")
	m.own = strings.Fields("a b c d")
}

// made: a source text by chance, its tokens with a blank, or more, between two.
func (m *maker) made(nodes int) string {
	m.tokens, m.own = nil, strings.Fields("a b c d")
	for range 1 + m.Intn(6) {
		m.left = max(nodes/2, 1)
		if m.Intn(3) == 0 {
			m.function()
		} else {
			m.statement()
			m.say(";")
		}
	}
	blanks := []string{" ", " ", " ", " ", "\n", "\r\n", " --é\n", "\n\n"}
	var b strings.Builder
	for _, token := range m.tokens {
		b.WriteString(blanks[m.Intn(len(blanks))] + token)
	}
	return b.String()
}

// many: n times one, with between between two; each % in it is the number of the one, from 1 on.
func many(n int, between, one string) string {
	var all []string
	for i := range n {
		all = append(all, strings.ReplaceAll(one, "%", strconv.Itoa(i+1)))
	}
	return strings.Join(all, between)
}
