package machine

import (
	"trestle/api"
	"trestle/border"
	"trestle/box"
	"trestle/gen"
	"trestle/table"
	"trestle/words"
)

// list: the list is taken, and its mark with it.
func (r *run) list() []api.Val {
	last := len(r.marks) - 1
	length := r.height - r.marks[last]
	if length > api.MaxVals {
		must(api.ErrBig)
	}
	r.marks = r.marks[:last]
	return r.popped(length)
}

// table: that of a Tab. (It is nil, which all who are handed it know, where a Tab that there isn't was set into a table that was handed out.)
func (r *run) table(v api.Val) *table.Table {
	if v.Kind != api.Tab {
		must(api.ErrType)
	}
	return r.Table(v.N)
}

// integer: the number of an Int.
func integer(v api.Val) int {
	if v.Kind != api.Int {
		must(api.ErrType)
	}
	return v.N
}

// goOn: the next instruction; their numbers stand in the order of what they work on.
func (c *call) goOn(r *run) {
	ins := c.unit.Code[c.next]
	c.next++
	switch {
	case ins.Op <= gen.Fun:
		c.carry(r, ins)
	case ins.Op <= gen.Binary:
		r.reckon(ins)
	case ins.Op <= gen.Or:
		c.jump(r, ins)
	case ins.Op <= gen.Return:
		c.pass(r, ins)
	case ins.Op <= gen.Rest:
		r.build(ins)
	default:
		c.turn(r, ins)
	}
}

// carry: values from where they stand to the stack, and back.
func (c *call) carry(r *run, ins gen.Ins) {
	switch ins.Op {
	case gen.Line:
		c.line = ins.A
		r.step()
	case gen.Const:
		r.push(c.unit.Consts[ins.A-1])
	case gen.Nil:
		r.push(api.Val{})
	case gen.True, gen.False:
		r.push(boolean(ins.Op == gen.True))
	case gen.Local:
		r.push(c.locals[ins.A-1])
	case gen.SetLocal:
		c.locals[ins.A-1] = r.pop()
	case gen.Global:
		r.push(r.globals[ins.A-1])
	case gen.SetGlob:
		r.globals[ins.A-1] = r.pop()
	case gen.Lib:
		r.push(value(api.Lib, ins.A))
	case gen.Fun:
		r.push(value(api.Fun, ins.A))
	}
}

// reckon: what lies on the stack is read, written, reckoned with.
func (r *run) reckon(ins gen.Ins) {
	switch ins.Op {
	case gen.Index:
		k := r.pop()
		r.push(r.table(r.pop()).Get(k))
	case gen.Put:
		must(r.table(r.deep(ins.A+1)).Set(r.deep(ins.A), r.deep(ins.B)))
	case gen.Copy:
		r.push(r.deep(ins.A))
	case gen.Pop:
		r.drop(ins.A)
	case gen.Unary:
		r.push(r.unary(ins.A, r.pop()))
	case gen.Binary:
		b := r.pop()
		r.push(r.binary(ins.A, r.pop(), b))
	}
}

// unary: the operators not, #, -.
func (r *run) unary(which int, v api.Val) api.Val {
	switch which {
	case 1:
		return boolean(!truth(v))
	case 2:
		return r.length(v)
	}
	return number(words.Neg(integer(v)))
}

func (r *run) length(v api.Val) api.Val {
	if v.Kind == api.Str {
		return number(len(v.S))
	}
	return number(border.Len(r.table(v)))
}

// binary: the operators + - * // % .. == ~= < <= > >=.
func (r *run) binary(which int, a, b api.Val) api.Val {
	switch {
	case which <= 5:
		return number(arithmetic(which, integer(a), integer(b)))
	case which == 6:
		return r.charged(sure(box.Join(a, b)).S)
	case which <= 8:
		return boolean(sure(box.Same(a, b)) == (which == 7))
	}
	return boolean(ordered(which, sure(box.Order(a, b))))
}

func arithmetic(which, a, b int) int {
	switch which {
	case 1:
		return words.Add(a, b)
	case 2:
		return words.Sub(a, b)
	case 3:
		return words.Mul(a, b)
	case 4:
		return sure(words.Div(a, b))
	}
	return sure(words.Mod(a, b))
}

// ordered: the operators < <= > >=, of what box.Order says.
func ordered(which, order int) bool {
	switch which {
	case 9:
		return order < 0
	case 10:
		return order <= 0
	case 11:
		return order > 0
	}
	return order >= 0
}

// jump: the work goes on elsewhere, or here.
func (c *call) jump(r *run, ins gen.Ins) {
	switch ins.Op {
	case gen.Jump:
		c.next = ins.A
	case gen.JumpNot:
		if !truth(r.pop()) {
			c.next = ins.A
		}
	case gen.And, gen.Or:
		if truth(r.deep(0)) == (ins.Op == gen.Or) {
			c.next = ins.A
		} else {
			r.pop()
		}
	}
}

// pass: lists begin, and are handed on.
func (c *call) pass(r *run, ins gen.Ins) {
	switch ins.Op {
	case gen.Mark:
		r.marks = append(r.marks, r.height)
	case gen.Adjust:
		r.push(fitted(r.list(), ins.A)...)
	case gen.Call:
		args := r.list()
		c.wants = ins.A
		r.call(r.pop(), args)
	case gen.Return:
		list := r.list()
		r.cells.Give(c.block)
		r.end(list)
	}
}

// build: tables are made, and filled.
func (r *run) build(ins gen.Ins) {
	switch ins.Op {
	case gen.Table:
		r.push(sure(r.Make(ins.A, ins.B)))
	case gen.Field:
		v := r.pop()
		k := r.pop()
		must(r.table(r.deep(ins.A)).Set(k, v))
	case gen.Batch:
		r.store(r.popped(ins.A), ins.B)
	case gen.Rest:
		r.store(r.list(), ins.A)
	}
}

// store: the table on top has the values, from the key on.
func (r *run) store(list []api.Val, key int) {
	t := r.table(r.deep(0))
	for i, v := range list {
		must(t.Set(number(key+i), v))
	}
}

// turn: loops begin, and go round.
func (c *call) turn(r *run, ins gen.Ins) {
	switch ins.Op {
	case gen.ForPrep:
		c.forPrep(r, ins)
	case gen.ForLoop:
		c.forLoop(r, ins)
	case gen.InPrep:
		copy(c.locals[ins.A-1:], r.popped(3))
	case gen.InNext:
		c.inNext(r, ins)
	case gen.Turn:
		r.step()
	}
}

// loop: the locals of a loop whose first one is that: three without a name, and its first name.
func (c *call) loop(first int) []api.Val { return c.locals[first-1 : first+3] }

func (c *call) forPrep(r *run, ins gen.Ins) {
	by := 1
	if ins.C == 1 {
		by = integer(r.pop())
	}
	last := integer(r.pop())
	first := integer(r.pop())
	turns, goes, err := words.Turns(first, last, by)
	must(err)
	if !goes {
		c.next = ins.B
		return
	}
	r.step()
	// A count of 64 bits may be above the greatest Int; ForLoop counts it down to 0 all the same.
	copy(c.loop(ins.A), []api.Val{number(int(turns)), number(first), number(by), number(first)})
}

func (c *call) forLoop(r *run, ins gen.Ins) {
	loop := c.loop(ins.A)
	if loop[0].N == 0 {
		return
	}
	r.step()
	loop[0] = number(words.Sub(loop[0].N, 1))
	loop[1] = number(words.Add(loop[1].N, loop[2].N))
	loop[3] = loop[1]
	c.next = ins.B
}

func (c *call) inNext(r *run, ins gen.Ins) {
	loop := c.loop(ins.A)
	copy(c.locals[ins.A+2:], r.popped(ins.C))
	if loop[3].Kind == api.Nil {
		c.next = ins.B
		return
	}
	r.step()
	loop[2] = loop[3]
}
