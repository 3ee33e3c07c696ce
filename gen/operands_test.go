package gen_test

import (
	"slices"
	"strconv"
	"strings"

	"trestle/gen"
)

// What P14.2 says of a unit, asked without the tree: its operands one by one, and its stack by going along all jumps.

// former looks at a unit.
type former struct {
	gen.Unit
	program gen.Program
	lines   int
	fault   string
}

func (f *former) wrong(at int, what string) {
	if f.fault == "" {
		f.fault = "unit " + f.Name + ", instruction " + strconv.Itoa(at) + ": " + what
	}
}

func within(n, first, last int) bool { return n >= first && n <= last }

// operands: does each one of the instruction name something that is there, and are the others 0?
func (f *former) operands(at int) {
	i := f.Code[at]
	isJump := func(n int) bool { return within(n, 0, len(f.Code)-1) }
	a, b, c := i.A == 0, i.B == 0, i.C == 0
	switch i.Op {
	case gen.Line:
		a = within(i.A, 1, f.lines)
	case gen.Const:
		a = within(i.A, 1, len(f.Consts))
	case gen.Local, gen.SetLocal:
		a = within(i.A, 1, f.Slots)
	case gen.Global, gen.SetGlob:
		a = within(i.A, 1, len(f.program.Globals))
	case gen.Lib:
		a = within(i.A, 12, 22)
	case gen.Fun:
		a = within(i.A, 1, len(f.program.Units)-1)
	case gen.Put:
		a, b = i.A >= 1, i.B >= 0 && i.B < i.A
	case gen.Copy:
		a = i.A >= 0
	case gen.Pop, gen.Adjust, gen.Rest:
		a = i.A >= 1
	case gen.Unary:
		a = within(i.A, 1, 3)
	case gen.Binary:
		a = within(i.A, 1, 12)
	case gen.Jump, gen.JumpNot, gen.And, gen.Or:
		a = isJump(i.A)
	case gen.Call:
		a = within(i.A, -1, 50)
	case gen.Table:
		a, b = within(i.A, 0, 200), within(i.B, 0, 200-i.A)
	case gen.Field:
		a = within(i.A, 0, 49)
	case gen.Batch:
		a, b = within(i.A, 1, 50), within(i.B, 1, 200)
	case gen.ForPrep:
		a, b, c = within(i.A, 1, f.Slots-3), isJump(i.B), within(i.C, 0, 1)
	case gen.ForLoop:
		a, b = within(i.A, 1, f.Slots-3), isJump(i.B)
	case gen.InPrep:
		a = within(i.A, 1, f.Slots-3)
	case gen.InNext:
		a, b, c = within(i.A, 1, f.Slots-2-i.C), isJump(i.B), within(i.C, 1, 50)
	case gen.Nil, gen.True, gen.False, gen.Index, gen.Mark, gen.Return, gen.Turn:
	default:
		a = false
	}
	if !a || !b || !c {
		f.wrong(at, "operands of "+strconv.Itoa(i.Op))
	}
}

// stack: v a value, M a mark, * all values that a call returned; the top comes last.
type stack string

// pop: without n values; ok: there were as many.
func (s stack) pop(n int) (stack, bool) {
	if n < 0 || len(s) < n || strings.Trim(string(s[len(s)-n:]), "v") != "" {
		return s, false
	}
	return s[:len(s)-n], true
}

// take: without the list and its mark.
func (s stack) take() (stack, bool) {
	at := strings.LastIndex(string(s), "M")
	if at < 0 {
		return s, false
	}
	return s[:at], true
}

func (s stack) push(n int) stack { return s + stack(strings.Repeat("v", n)) }

// has: lie so many values on top?
func (s stack) has(n int) bool {
	_, ok := s.pop(n)
	return ok
}

// change: the stack behind an instruction, and where that one jumps to.
func change(i gen.Ins, s stack) (after, jumped stack, ok bool) {
	if strings.HasSuffix(string(s), "*") && !slices.Contains([]int{gen.Adjust, gen.Call, gen.Return, gen.Rest}, i.Op) {
		return s, s, false
	}
	pop := func(popped, pushed int) (stack, stack, bool) {
		s, ok := s.pop(popped)
		return s.push(pushed), s.push(pushed), ok
	}
	switch i.Op {
	case gen.Line, gen.Turn, gen.ForLoop, gen.Jump:
		return s, s, s == ""
	case gen.Const, gen.Nil, gen.True, gen.False, gen.Local, gen.Global, gen.Lib, gen.Fun, gen.Table:
		return pop(0, 1)
	case gen.SetLocal, gen.SetGlob, gen.JumpNot:
		return pop(1, 0)
	case gen.Unary:
		return pop(1, 1)
	case gen.Index, gen.Binary:
		return pop(2, 1)
	case gen.Put:
		return s, s, s.has(i.A + 2)
	case gen.Copy:
		return s.push(1), s, s.has(i.A + 1)
	case gen.Pop:
		return pop(i.A, 0)
	case gen.And, gen.Or:
		after, ok := s.pop(1)
		return after, s, ok
	case gen.Mark:
		return s + "M", s, true
	case gen.Field:
		after, ok := s.pop(2)
		return after, s, ok && after.has(i.A+1)
	case gen.Batch:
		after, ok := s.pop(i.A)
		return after, s, ok && after.has(1)
	case gen.ForPrep:
		return pop(2+i.C, 0)
	case gen.InPrep:
		return pop(3, 0)
	case gen.InNext:
		return pop(i.C, 0)
	}
	return changeByList(i, s)
}

func changeByList(i gen.Ins, s stack) (after, jumped stack, ok bool) {
	s, ok = s.take()
	switch i.Op {
	case gen.Adjust:
		return s.push(i.A), s, ok
	case gen.Rest:
		return s, s, ok && s.has(1)
	case gen.Return:
		return s, s, ok && s == ""
	case gen.Call:
		s, isThere := s.pop(1)
		if i.A < 0 {
			return s + "*", s, ok && isThere
		}
		return s.push(i.A), s, ok && isThere
	}
	return s, s, false
}

// ways: where the instruction may go on, and whether by a jump.
func ways(i gen.Ins, at int) (on, jump int) {
	switch i.Op {
	case gen.Return:
		return -1, -1
	case gen.Jump:
		return -1, i.A
	case gen.JumpNot, gen.And, gen.Or:
		return at + 1, i.A
	case gen.ForPrep, gen.ForLoop, gen.InNext:
		return at + 1, i.B
	}
	return at + 1, -1
}

// stacks: is the stack the same on each way to an instruction, and does each find there what it takes?
func (f *former) stacks() {
	known := map[int]stack{}
	type visit struct {
		at    int
		stack stack
	}
	todo := []visit{{}}
	for len(todo) > 0 && f.fault == "" {
		v := todo[len(todo)-1]
		todo = todo[:len(todo)-1]
		if s, ok := known[v.at]; ok {
			if s != v.stack {
				f.wrong(v.at, "the stack is "+string(s)+" or "+string(v.stack))
			}
			continue
		}
		if v.at >= len(f.Code) {
			f.wrong(v.at, "beyond the end")
			return
		}
		known[v.at] = v.stack
		i := f.Code[v.at]
		after, jumped, ok := change(i, v.stack)
		if !ok {
			f.wrong(v.at, "the stack is "+string(v.stack))
		}
		on, jump := ways(i, v.at)
		if on >= 0 {
			todo = append(todo, visit{on, after})
		}
		if jump >= 0 {
			todo = append(todo, visit{jump, jumped})
		}
	}
}

// faultOf: what isn't as P14.2 says; empty: nothing.
func faultOf(src string, p gen.Program) string {
	for _, u := range p.Units {
		f := &former{Unit: u, program: p, lines: 1 + strings.Count(src, "\n")}
		for at := range u.Code {
			f.operands(at)
		}
		if f.fault == "" {
			f.stacks()
		}
		if f.fault != "" {
			return f.fault
		}
	}
	return ""
}
