package machine

import (
	"slices"

	"trestle/api"
	"trestle/box"
	"trestle/gen"
	"trestle/sorting"
)

// callCells: of a call, beside one for each local.
const callCells = 4

// failure is an error that is thrown: it ends the run, however deep in it it is met.
type failure api.Errno

// must: an error is thrown.
func must(err api.Errno) {
	if err != api.OK {
		panic(failure(err))
	}
}

// sure: what was answered beside no error.
func sure[T any](answer T, err api.Errno) T {
	must(err)
	return answer
}

func value(kind, n int) api.Val { return api.Val{Kind: kind, N: n} }
func number(n int) api.Val      { return value(api.Int, n) }
func text(s string) api.Val     { return api.Val{Kind: api.Str, S: s} }

func truth(v api.Val) bool { return sure(box.Truth(v)) }

func boolean(b bool) api.Val {
	if b {
		return value(api.Bool, 1)
	}
	return value(api.Bool, 0)
}

// fitted: the list with n values: further ones are dropped, missing ones Nil.
func fitted(list []api.Val, n int) []api.Val {
	all := make([]api.Val, n)
	copy(all, list)
	return all
}

// task is what is under way: a call of a function of the source text, or a sort that asks.
type task interface {
	// goOn: its next instruction, or its next question.
	goOn(r *run)
	// take: what it called has returned the list.
	take(r *run, list []api.Val)
}

// run is a Start or Call of a machine. What it needs beside the machine ends with it, whatever it comes to.
type run struct {
	*Machine
	stack
	marks []int  // heights of the stack
	under []task // one within another, the innermost last
	rets  []api.Val
}

// do: what is begun goes on up to its end, or to an error.
func (m *Machine) do(begin func(r *run)) (o outcome) {
	r := &run{Machine: m}
	defer func() {
		if err, ok := recover().(failure); ok {
			o = outcome{err: api.Errno(err), line: r.line()}
			r.giveUp()
		}
	}()
	begin(r)
	for len(r.under) > 0 {
		r.under[len(r.under)-1].goOn(r)
	}
	return outcome{rets: r.rets}
}

// line: that of the innermost call of a function of the source text; 0: there is none.
func (r *run) line() int {
	for _, inner := range slices.Backward(r.under) {
		if c, ok := inner.(*call); ok {
			return c.line
		}
	}
	return 0
}

// giveUp: the blocks of all calls are given back. (A sort has none.)
func (r *run) giveUp() {
	for _, inner := range slices.Backward(r.under) {
		if c, ok := inner.(*call); ok {
			r.cells.Give(c.block)
		}
	}
}

// begin: one more is under way, within the others.
func (r *run) begin(t task) { r.under = append(r.under, t) }

// end: the innermost one isn't under way any more, and has returned the list.
func (r *run) end(list []api.Val) {
	r.under = r.under[:len(r.under)-1]
	r.returns(list)
}

// returns: the list goes to who called: what is under way now, or, if that is nothing, the run itself.
func (r *run) returns(list []api.Val) {
	if len(r.under) == 0 {
		r.rets = list
		return
	}
	r.under[len(r.under)-1].take(r, list)
}

// step: one less fuel.
func (r *run) step() {
	if r.fuel == 0 {
		must(api.ErrFuel)
	}
	r.fuel--
}

// charged: a text that was made anew, as a value.
func (r *run) charged(s string) api.Val {
	must(r.cells.Spend(1 + len(s)/8))
	return text(s)
}

// call: what f returns comes to what is under way now.
func (r *run) call(f api.Val, args []api.Val) {
	// Who sets into a table that was handed out may set a function that there isn't.
	if !r.Knows(f) {
		must(api.ErrCall)
	}
	switch f.Kind {
	case api.Fun:
		r.step()
		r.enter(f.N, args)
	case api.Lib:
		r.step()
		r.library(f.N, args)
	default:
		must(api.ErrCall)
	}
}

// enter: a call of a unit begins.
func (r *run) enter(n int, args []api.Val) {
	unit := &r.program.Units[n]
	block := sure(r.cells.Take(callCells + unit.Slots))
	locals := make([]api.Val, unit.Slots)
	copy(locals[:unit.Params], args)
	r.begin(&call{unit: unit, locals: locals, block: block})
}

// call is a call of a unit that is under way.
type call struct {
	unit   *gen.Unit
	next   int       // the next instruction's number
	locals []api.Val // local n is locals[n-1]
	block  int
	line   int
	wants  int // how many values of what it called; -1: all
}

func (c *call) take(r *run, list []api.Val) {
	if c.wants >= 0 {
		list = fitted(list, c.wants)
	}
	r.push(list...)
}

// asking is a sort that is under way: its questions are the sorter's.
type asking struct {
	*sorting.Sorter
	by   api.Val // the function that answers; Nil: the order
	less bool    // the answer to the question that was asked last
}

func (s *asking) goOn(r *run) {
	a, b, more, err := s.Next(s.less)
	must(err)
	if !more {
		r.end(nil)
		return
	}
	r.step()
	if s.by.Kind == api.Nil {
		s.less = sure(box.Order(a, b)) < 0
		return
	}
	r.call(s.by, []api.Val{a, b})
}

func (s *asking) take(r *run, list []api.Val) {
	s.less = truth(fitted(list, 1)[0])
}
