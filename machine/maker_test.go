package machine_test

import (
	"math/rand"
	"strconv"
	"strings"
)

// maker makes programs by chance that mostly run: each expression is made for a type, and only now and then for another.
type maker struct {
	*rand.Rand
	left  int // how many nodes may still be made, about
	loops int // around
	in    bool
	wild  int // one in so many expressions is of any type
}

func (m *maker) of(words ...string) string { return words[m.Intn(len(words))] }

// more: is there room for something greater?
func (m *maker) more() bool {
	m.left--
	return m.left > 0 && m.Intn(3) > 0
}

func (m *maker) strange() bool { return m.Intn(m.wild) == 0 }

// fill: the text, each $ in it something of the kind that the letter behind it says.
func (m *maker) fill(form string) string {
	parts := strings.Split(form, "$")
	out := parts[0]
	for _, part := range parts[1:] {
		switch part[0] {
		case 'n':
			out += m.num()
		case 's':
			out += m.str()
		case 't':
			out += m.tab()
		case 'v':
			out += m.any()
		case 'f':
			out += m.fun()
		case 'i':
			out += m.of("1", "2", "3", "-1", "0", "n", "#s", "4")
		case 'l':
			out += m.list()
		case 'b':
			out += m.block()
		}
		out += part[1:]
	}
	return out
}

func (m *maker) name() string {
	if m.in {
		return m.of("p", "q", "r")
	}
	return m.of("a", "b", "c")
}

func (m *maker) num() string {
	switch {
	case m.strange():
		return m.any()
	case !m.more():
		return m.of("0", "1", "2", "3", "5", "7", "-1", "100", "n", "n", m.name(), "9223372036854775807", "0x10")
	}
	return m.fill(m.of("$n + $n", "$n - $n", "$n * $n", "$n // $n", "$n % $n", "- $n", "($n)", "#$t", "#$s", "$n or $n", "$n and $n", "tonumber($s)", "rawlen($t)", "f($n, $n)", "(g($v))", "utf8.len($s)", "utf8.len($s, $i, $i)", "utf8.codepoint($s)", "utf8.offset($s, $i)", "utf8.offset($s, $i, $i)", "stats($t)", "probes()", "($t)[$i]"))
}

func (m *maker) str() string {
	switch {
	case m.strange():
		return m.any()
	case !m.more():
		return m.of("''", "'a'", "'b'", "'é'", "'abcdefg'", "'abcdefgh'", "'\\xff'", "'12'", "' -0x1f'", "'-0x1f'", "s", "s", "'aéb€'", "'\\u{10FFFF}x'")
	}
	return m.fill(m.of("$s .. $s", "$s .. $n", "$n .. $s", "($s)", "tostring($v)", "type($v)", "utf8.char($i, 233, $n)", "utf8.char(97)", "utf8.char()", "table.concat($t, $s)", "table.concat({$n, $s})", "table.concat($t, $s, $i, $i)", "$s or $s", "h($s)"))
}

func (m *maker) tab() string {
	switch {
	case m.strange():
		return m.any()
	case !m.more():
		return m.of("t", "t", "u", "t", "{}", "{3, 1, 2}", "{'b', 'a'}", "{x = 1}")
	}
	return m.fill(m.of("{$l}", "{$n, $n, $n}", "{$n, $n, $n, $n, $n, 9, 4, 2}", "{x = $v, $v}", "{[$v] = $v, $v, y = 2}", "{$v, k($l)}", "{table.unpack($t)}", "table.move($t, $i, $i, $i)", "table.move($t, 1, $i, $i, $t)", "{$s, $s, $s}", "{nil, nil, $v}", "{"+strings.Repeat("n, 1, ", 20+m.Intn(10))+"}", "$t or $t"))
}

func (m *maker) fun() string {
	return m.of("d", "d", "e", "f", "g", "k", "print", "type", "nil", "next", "table.sort", "tostring", "rawlen")
}

func (m *maker) any() string {
	if !m.more() {
		return m.of("nil", "true", "false", "n", "s", "t", "u", "x", "y", "f", "print", "table.sort", "utf8.codes", m.name())
	}
	return m.fill(m.of("$n", "$n", "$s", "$s", "$t", "$f", "$n < $n", "$n <= $n", "$s > $s", "$s >= $s", "$v == $v", "$v ~= $v", "not $v", "$v and $v", "$v or $v", "($t)[$v]", "($t).x", "($t)[$n]", "k($l)", "next($t)", "next($t, $v)", "table.remove($t)", "table.remove($t, $i)", "table.unpack($t, $i, $i)", "tonumber($v)", "utf8.codepoint($s, 1, -1)", "pairs($t)", "ipairs($t)", "utf8.codes($s)"))
}

func (m *maker) list() string {
	all := []string{m.any()}
	for m.more() {
		all = append(all, m.any())
	}
	return strings.Join(all, ", ")
}

func (m *maker) block() string {
	out := ""
	for m.more() {
		out += m.statement() + m.of(" ", "\n", "; ")
	}
	switch {
	case m.loops > 0 && m.Intn(8) == 0:
		out += "break "
	case m.Intn(12) == 0:
		out += m.fill("return $l ")
	case m.Intn(12) == 0:
		out += "return "
	}
	return out
}

func (m *maker) loop(form string) string {
	head := m.fill(form)
	m.loops++
	body := m.block()
	m.loops--
	return head + " do " + body + "end"
}

func (m *maker) statement() string {
	switch m.Intn(12) {
	case 0, 1:
		return m.fill(m.of("n = $n", "n = $n", "s = $s", "t = $t", "u = $t", "x, y = $l", "x = $v", "n, s = $n, $s", "t[$i] = $v", "t[$n] = $v", "t.x = $v", "t[$v] = $n", "u[$s] = $v", "t[n], n = n, $n", "u[$v], t[1], x = $l", "x = nil", m.name()+" = $n"))
	case 2:
		return "local " + m.name() + m.fill(m.of("", " = $n", " = $l", " = $t", ", q1 = $l", ", q1, q2 = $v"))
	case 3, 4:
		return m.fill(m.of("print($l)", "print($l)", "print(stats($t))", "print(table.unpack($t))", "print(k($l))", "print(probes())", "print(#t, #u, n, s)"))
	case 5, 6:
		return m.fill(m.of("table.insert($t, $v)", "table.insert(t, $n)", "table.insert(t, $i, $v)", "table.insert(u, 1, $n)", "table.remove(t)", "table.remove($t, $i)", "table.sort(t)", "table.sort($t)", "table.sort($t, $f)", "table.sort(t, d)", "table.sort(u, e)", "f($l)", "k($l)", "; ($f)($l)"))
	case 7:
		return m.fill("if $v then $b") + m.fill(m.of("", "elseif $v then $b", "else $b", "elseif $n < $n then $b else $b")) + "end"
	case 8:
		return m.loop(m.of("while n < 5", "while #t < 6", "while $v", "while next(t)"))
	case 9:
		return m.loop("for " + m.name() + m.of(" = 1, 3", " = 1, #t", " = $n, $n", " = 3, 1, -1", " = $i, $i, $i", " = 9223372036854775805, 9223372036854775807, 2"))
	case 10:
		return m.loop("for " + m.of(m.name(), m.name()+", q3", "i, v", "k1, v1, w1") + m.of(" in pairs($t)", " in ipairs($t)", " in utf8.codes($s)", " in next, $t", " in k, $v, $v", " in $l", " in down, $i"))
	}
	return "do " + m.block() + "end"
}

func (m *maker) function(name, params string) string {
	m.in, m.left = true, 6+m.Intn(10)
	out := "function " + name + "(" + params + ") " + m.block()
	if !strings.Contains(out, "return") {
		out += m.fill(m.of("return $l ", "return p ", "return p, q ", ""))
	}
	m.in = false
	return out + "end\n"
}

// program: functions, a few values to begin with, and statements.
func (m *maker) program(size int) string {
	m.wild = 8 + m.Intn(100)
	out := m.function("f", "p, q") + m.function("g", "p") + m.function("k", "p, q, r")
	out += "function d(p, q) return p < q end function e(p, q) return p > q end function h(p) return p .. 'x' end function down(p, q) q = (q or p) - 1 if q >= 0 then return q, p end end\n"
	if m.Intn(3) == 0 {
		out = "" // few things are there then, and soon there is an error
	}
	out += "n = " + strconv.Itoa(m.Intn(9)) + " s = 'xy' t = {3, 1, 2} u = {x = 1} x = {t, u} y = 'é'\n"
	for range 1 + m.Intn(6) {
		m.left = size
		out += m.statement() + "\n"
	}
	m.left = size
	return out + m.block()
}
