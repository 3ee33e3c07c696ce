package shell

import (
	"trestle/api"
	"trestle/host"
	"trestle/lex"
	"trestle/words"
)

// order is what a line asks for: an operation, or, if it has a fail, none.
type order struct {
	op   host.Op
	fail api.Fail
}

// refusal is what a reader gives up with; nothing else is thrown in this package.
type refusal api.Fail

func refuse(fail api.Fail) { panic(refusal(fail)) }

// misfit: the token is the first one that doesn't fit.
func misfit(t lex.Token) { refuse(api.Fail{Code: api.ErrLine, At: t.At}) }

// read: what a line asks for; false: it is blank, and asks for nothing.
func read(line string) (o order, asks bool) {
	// It is caught here, not in Run: the lines behind a wrong one are read all the same.
	defer func() {
		if r, ok := recover().(refusal); ok {
			o, asks = order{fail: api.Fail(r)}, true
		}
	}()
	r := reader{tokens: scan(line)}
	if r.ended() {
		return order{}, false
	}
	return order{op: r.command()}, true
}

// scan: the tokens of a line.
func scan(line string) []lex.Token {
	if len(line) > api.MaxLine {
		refuse(api.Fail{Code: api.ErrBig, At: -1})
	}
	tokens, fail := lex.Scan(line)
	if fail.Code != api.OK {
		refuse(fail)
	}
	return tokens
}

// reader is the tokens of a line that weren't taken yet. The End is never taken, so there is always one.
type reader struct {
	tokens []lex.Token
}

func (r *reader) token() lex.Token { return r.tokens[0] }

func (r *reader) ended() bool { return r.token().Kind == lex.End }

// take: the next token, which has to be of that kind.
func (r *reader) take(kind int) lex.Token {
	t := r.token()
	if t.Kind != kind {
		misfit(t)
	}
	r.tokens = r.tokens[1:]
	return t
}

// command: the whole line.
func (r *reader) command() host.Op {
	op := r.operation()
	if !r.ended() {
		misfit(r.token())
	}
	return op
}

// operation: the command's name and what belongs to it.
func (r *reader) operation() host.Op {
	name := r.take(lex.Name)
	switch name.Text {
	case "load":
		return host.Op{Kind: host.Load, Name: r.take(lex.String).Text}
	case "start":
		return host.Op{Kind: host.Start}
	case "call":
		return host.Op{Kind: host.Call, Vals: append(r.values(1), r.rest()...)}
	case "run":
		return host.Op{Kind: host.Run, Name: r.take(lex.Name).Text, Vals: r.rest()}
	case "get":
		return host.Op{Kind: host.Get, Name: r.take(lex.Name).Text}
	case "set":
		return host.Op{Kind: host.Set, Name: r.take(lex.Name).Text, Vals: r.values(1)}
	case "make":
		return host.Op{Kind: host.Make, A: r.number(), B: r.number()}
	case "look":
		return host.Op{Kind: host.Look}
	}
	return r.onTable(name)
}

// onTable: what belongs to a command that is told values alone, a table first.
func (r *reader) onTable(name lex.Token) host.Op {
	switch name.Text {
	case "index":
		return host.Op{Kind: host.Index, Vals: r.values(2)}
	case "store":
		return host.Op{Kind: host.Store, Vals: r.values(3)}
	case "next":
		return host.Op{Kind: host.Next, Vals: r.values(2)}
	case "len":
		return host.Op{Kind: host.Len, Vals: r.values(1)}
	case "stats":
		return host.Op{Kind: host.Stats, Vals: r.values(1)}
	case "pairs":
		return host.Op{Kind: host.Pairs, Vals: r.values(1)}
	}
	misfit(name)
	return host.Op{}
}

// values: so many values.
func (r *reader) values(n int) []api.Val {
	var all []api.Val
	for range n {
		all = append(all, r.value())
	}
	return all
}

// rest: the values up to the line's end.
func (r *reader) rest() []api.Val {
	var all []api.Val
	for !r.ended() {
		all = append(all, r.value())
	}
	return all
}

func (r *reader) value() api.Val {
	switch r.token().Kind {
	case lex.String:
		return api.Val{Kind: api.Str, S: r.take(lex.String).Text}
	case lex.Word:
		return constant(r.take(lex.Word))
	case lex.Name:
		kind := numbered(r.take(lex.Name))
		return api.Val{Kind: kind, N: r.take(lex.Number).N}
	}
	return api.Val{Kind: api.Int, N: r.number()}
}

// number: a Number, or a minus sign and one.
func (r *reader) number() int {
	if t := r.token(); t.Kind == lex.Sign && t.Text == "-" {
		r.take(lex.Sign)
		return words.Neg(r.take(lex.Number).N)
	}
	return r.take(lex.Number).N
}

// constant: the value that a Word is.
func constant(t lex.Token) api.Val {
	switch t.Text {
	case "nil":
		return api.Val{Kind: api.Nil}
	case "true":
		return api.Val{Kind: api.Bool, N: 1}
	case "false":
		return api.Val{Kind: api.Bool}
	}
	misfit(t)
	return api.Val{}
}

// numbered: the kind of the values whose numbers stand behind that Name.
func numbered(t lex.Token) int {
	switch t.Text {
	case "tab":
		return api.Tab
	case "fun":
		return api.Fun
	case "lib":
		return api.Lib
	}
	misfit(t)
	return api.Nil
}
