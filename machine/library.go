package machine

import (
	"strings"

	"trestle/api"
	"trestle/box"
	"trestle/sorting"
	"trestle/table"
	"trestle/tablib"
	"trestle/utflib"
	"trestle/walk"
	"trestle/words"
)

// The library's functions, by their numbers.
const (
	libPrint = 1 + iota
	libType
	libToString
	libToNumber
	libNext
	libPairs
	libIpairs
	libRawLen
	libStats
	libProbes
	libNextItem // what ipairs answers
	libInsert
	libRemove
	libConcat
	libUnpack
	libMove
	libSort
	libLen
	libChar
	libCodePoint
	libOffset
	libCodes
	libNextRune   // what utf8.codes answers
	lastOfLibrary = libNextRune
)

// arguments are what a function of the library was called with.
type arguments []api.Val

// at: the i-th, from 0 on; Nil, if it isn't there.
func (a arguments) at(i int) api.Val {
	if i >= len(a) {
		return api.Val{}
	}
	return a[i]
}

func (a arguments) lacks(i int) bool { return a.at(i).Kind == api.Nil }

// given: the first one, which has to be there, though it may be Nil.
func (a arguments) given() api.Val {
	if len(a) == 0 {
		must(api.ErrType)
	}
	return a[0]
}

func (a arguments) number(i int) int { return integer(a.at(i)) }

func (a arguments) numberOr(i, otherwise int) int {
	if a.lacks(i) {
		return otherwise
	}
	return a.number(i)
}

func (a arguments) text(i int) string {
	v := a.at(i)
	if v.Kind != api.Str {
		must(api.ErrType)
	}
	return v.S
}

// placeOr: a number, or, if it lacks, the table's last place. (That is asked for only then: it may read nodes.)
func (a arguments) placeOr(i int, t *table.Table) int {
	if a.lacks(i) {
		return tablib.Last(t)
	}
	return a.number(i)
}

func one(v api.Val) []api.Val       { return []api.Val{v} }
func numbers(list ...int) []api.Val { return mapped(list, number) }

// mapped: the same of each.
func mapped[A, B any](list []A, of func(A) B) []B {
	all := make([]B, len(list))
	for i, x := range list {
		all[i] = of(x)
	}
	return all
}

// spent: the steps that a layer below has made; no more than it was told there are.
func (r *run) spent(steps int, err api.Errno) {
	r.fuel -= steps
	must(err)
}

// library: a function of the library is called; what it returns comes to what is under way now.
func (r *run) library(n int, a arguments) {
	switch {
	case n < libInsert:
		r.returns(r.basic(n, a))
	case n < libSort:
		r.returns(r.ofTables(n, a))
	case n == libSort:
		r.sort(a)
	default:
		r.returns(r.ofTexts(n, a))
	}
}

func (r *run) basic(n int, a arguments) []api.Val {
	switch n {
	case libPrint:
		r.print(a)
	case libType:
		return one(text(sure(box.Type(a.given()))))
	case libToString:
		return one(r.toString(a.given()))
	case libToNumber:
		return one(toNumber(a.given()))
	case libNext:
		return r.next(a)
	case libPairs:
		r.table(a.at(0))
		return []api.Val{value(api.Lib, libNext), a[0], {}}
	case libIpairs:
		r.table(a.at(0))
		return []api.Val{value(api.Lib, libNextItem), a[0], number(0)}
	case libRawLen:
		return one(r.length(a.at(0)))
	case libStats:
		s := r.table(a.at(0)).Stats()
		return numbers(s.Array, s.Hash, s.Free)
	case libProbes:
		return numbers(r.probes())
	case libNextItem:
		return r.nextItem(a)
	}
	return nil
}

func (r *run) print(a arguments) {
	show := func(v api.Val) string { return sure(box.Show(v)) }
	line := strings.Join(mapped(a, show), "\t")
	if r.printed+len(line)+1 > api.MaxOut {
		must(api.ErrBig)
	}
	r.lines, r.printed = append(r.lines, line), r.printed+len(line)+1
}

func (r *run) toString(v api.Val) api.Val {
	if v.Kind == api.Str {
		return v
	}
	return r.charged(sure(box.Show(v)))
}

func toNumber(v api.Val) api.Val {
	if v.Kind == api.Int {
		return v
	}
	n, err := words.Read(v.S)
	if v.Kind != api.Str || err != api.OK {
		return api.Val{}
	}
	return number(n)
}

func (r *run) next(a arguments) []api.Val {
	k, v, err := walk.Next(r.table(a.at(0)), a.at(1))
	must(err)
	if k.Kind == api.Nil {
		return one(k)
	}
	return []api.Val{k, v}
}

func (r *run) nextItem(a arguments) []api.Val {
	t := r.table(a.at(0))
	place := number(words.Add(a.number(1), 1))
	v := t.Get(place)
	if v.Kind == api.Nil {
		return one(v)
	}
	return []api.Val{place, v}
}

func (r *run) ofTables(n int, a arguments) []api.Val {
	switch n {
	case libInsert:
		r.insert(a)
	case libRemove:
		return one(r.remove(a))
	case libConcat:
		return one(r.concat(a))
	case libUnpack:
		t := r.table(a.at(0))
		i := a.numberOr(1, 1)
		return sure(tablib.Unpack(t, i, a.placeOr(2, t)))
	case libMove:
		return one(r.move(a))
	}
	return nil
}

func (r *run) insert(a arguments) {
	t := r.table(a.at(0))
	switch len(a) {
	case 2:
		must(tablib.Append(t, a[1]))
	case 3:
		r.spent(tablib.Insert(t, a.number(1), a[2], r.fuel))
	default:
		must(api.ErrType)
	}
}

func (r *run) remove(a arguments) api.Val {
	t := r.table(a.at(0))
	v, steps, err := tablib.Remove(t, a.placeOr(1, t), r.fuel)
	r.spent(steps, err)
	return v
}

func (r *run) concat(a arguments) api.Val {
	t, sep := r.table(a.at(0)), ""
	if !a.lacks(1) {
		sep = a.text(1)
	}
	i := a.numberOr(2, 1)
	s, steps, err := tablib.Concat(t, sep, i, a.placeOr(3, t), r.fuel)
	r.spent(steps, err)
	return r.charged(s)
}

func (r *run) move(a arguments) api.Val {
	from, to := r.table(a.at(0)), a.at(0)
	first, last, place := a.number(1), a.number(2), a.number(3)
	if !a.lacks(4) {
		to = a.at(4)
	}
	r.spent(tablib.Move(from, r.table(to), first, last, place, r.fuel))
	return to
}

// sort: it is under way from now on: a function that answers its questions is called within it.
func (r *run) sort(a arguments) {
	t, by := r.table(a.at(0)), a.at(1)
	if by.Kind != api.Nil && by.Kind != api.Fun && by.Kind != api.Lib {
		must(api.ErrType)
	}
	r.begin(&asking{Sorter: sorting.New(t, tablib.Last(t)), by: by})
}

func (r *run) ofTexts(n int, a arguments) []api.Val {
	switch n {
	case libLen:
		return runesOf(a)
	case libChar:
		return one(r.charged(sure(utflib.Char(mapped(a, integer)))))
	case libCodePoint:
		s := a.text(0)
		i := a.numberOr(1, 1)
		return mapped(sure(utflib.Codes(s, i, a.numberOr(2, i))), number)
	case libOffset:
		return one(offset(a))
	case libCodes:
		return []api.Val{value(api.Lib, libNextRune), text(a.text(0)), number(0)}
	case libNextRune:
		return nextRune(a)
	}
	return nil
}

func runesOf(a arguments) []api.Val {
	s := a.text(0)
	i := a.numberOr(1, 1)
	n, invalid, err := utflib.Len(s, i, a.numberOr(2, -1))
	must(err)
	if invalid > 0 {
		return []api.Val{{}, number(invalid)}
	}
	return numbers(n)
}

func offset(a arguments) api.Val {
	s, n := a.text(0), a.number(1)
	from := 1
	if n <= 0 {
		from = len(s) + 1
	}
	place, found, err := utflib.Offset(s, n, a.numberOr(2, from))
	must(err)
	if !found {
		return api.Val{}
	}
	return number(place)
}

func nextRune(a arguments) []api.Val {
	place, code, more, err := utflib.Step(a.text(0), a.number(1))
	must(err)
	if !more {
		return one(api.Val{})
	}
	return numbers(place, code)
}
