package shell

import (
	"strings"

	"trestle/api"
	"trestle/host"
	"trestle/lex"
	"trestle/words"
)

// teller is the lines of the replies that were told, and how many printed lines are among them.
type teller struct {
	lines   []string
	printed int
}

func trouble(err api.Errno) string { return "error " + words.Format(int(err)) }

func failure(fail api.Fail) string { return trouble(fail.Code) + " at " + words.Format(fail.At) }

// add: one line, if it isn't too long.
func (t *teller) add(line string) {
	if len(line) > api.MaxStr {
		line = trouble(api.ErrBig)
	}
	t.lines = append(t.lines, line)
}

// reply: what an operation of that kind came to.
func (t *teller) reply(kind int, r host.Reply) {
	switch {
	case kind == host.Look:
		t.look(r.Out)
	case r.Err == api.OK:
		t.add(row("ok", r.Vals))
	case kind == host.Load:
		t.add(failure(api.Fail{Code: r.Err, At: r.At}))
	default:
		t.add(trouble(r.Err))
	}
}

// row: a word, and the values behind it.
func row(word string, vals []api.Val) string {
	var line strings.Builder
	line.WriteString(word)
	for _, v := range vals {
		// What is too long already isn't told: many long texts would be put together for nothing.
		if line.Len() > api.MaxStr {
			break
		}
		line.WriteString(" " + Value(v))
	}
	return line.String()
}

// look: the machine's numbers, the lines that it printed since the look ahead, what it returned.
func (t *teller) look(out api.Out) {
	t.add("ok fuel " + words.Format(out.Fuel) + " cells " + words.Format(out.Cells) +
		" tables " + words.Format(out.Tables) + " probes " + words.Format(out.Probes) +
		" err " + words.Format(int(out.Err)) + " line " + words.Format(out.Line))
	for _, line := range out.Lines[t.printed:] {
		t.add("print " + lex.Quote(line))
	}
	t.printed = len(out.Lines)
	t.add(row("ret", out.Rets))
}
