package machine_test

import (
	"strings"

	"trestle/api"
	"trestle/box"
	"trestle/sorting"
	"trestle/table"
	"trestle/tablib"
	"trestle/utflib"
	"trestle/walk"
	"trestle/words"
)

// library: the book's half of the chapter's second table.
func (b *book) library(n int, all []api.Val) []api.Val {
	arg := func(i int) api.Val {
		if i < len(all) {
			return all[i]
		}
		return nothing()
	}
	switch n {
	case 1:
		b.print(all)
		return nil
	case 2, 3, 4:
		needs(len(all) > 0, api.ErrType)
		return []api.Val{b.told(n, all[0])}
	case 5:
		k, v, e := walk.Next(b.table(arg(0)), arg(1))
		need(e)
		if k == nothing() {
			return []api.Val{k}
		}
		return []api.Val{k, v}
	case 6:
		b.table(arg(0))
		return []api.Val{of(api.Lib, 5), arg(0), nothing()}
	case 7:
		b.table(arg(0))
		return []api.Val{of(api.Lib, 11), arg(0), number(0)}
	case 8:
		return []api.Val{b.length(arg(0))}
	case 9:
		s := b.table(arg(0)).Stats()
		return []api.Val{number(s.Array), number(s.Hash), number(s.Free)}
	case 10:
		return []api.Val{number(b.probes())}
	case 11:
		x, j := b.table(arg(0)), number(words.Add(whole(arg(1)), 1))
		if v := x.Get(j); v != nothing() {
			return []api.Val{j, v}
		}
		return []api.Val{nothing()}
	case 12, 13, 14, 15, 16, 17:
		return b.onTables(n, all, arg)
	}
	return b.onTexts(n, all, arg)
}

func (b *book) print(all []api.Val) {
	var parts []string
	for _, v := range all {
		s, _ := box.Show(v)
		parts = append(parts, s)
	}
	sum := 0
	b.lines = append(b.lines, strings.Join(parts, "\x09"))
	for _, line := range b.lines {
		sum += len(line) + 1
	}
	if sum > 100000 {
		b.lines = b.lines[:len(b.lines)-1]
		need(api.ErrBig)
	}
}

// told: type, tostring, tonumber.
func (b *book) told(n int, v api.Val) api.Val {
	kind, _ := box.Type(v)
	show, _ := box.Show(v)
	read, e := words.Read(show)
	switch {
	case n == 2:
		return text(kind)
	case n == 3 && kind == "string", n == 4 && kind == "number":
		return v
	case n == 3:
		return b.anew(show)
	case kind == "string" && e == api.OK:
		return number(read)
	}
	return nothing()
}

func wholeOr(v api.Val, otherwise int) int {
	if v == nothing() {
		return otherwise
	}
	return whole(v)
}

func (b *book) lastOr(v api.Val, x *table.Table) int {
	if v == nothing() {
		return tablib.Last(x)
	}
	return whole(v)
}

func chars(v api.Val) string {
	needs(v.Kind == api.Str, api.ErrType)
	return v.S
}

// made: the steps that layer 15 made.
func (b *book) made(steps int, e api.Errno) {
	b.fuel -= steps
	need(e)
}

func (b *book) onTables(n int, all []api.Val, arg func(int) api.Val) []api.Val {
	x := b.table(arg(0))
	switch n {
	case 12:
		needs(len(all) == 2 || len(all) == 3, api.ErrType)
		if len(all) == 2 {
			need(tablib.Append(x, all[1]))
		} else {
			b.made(tablib.Insert(x, whole(all[1]), all[2], b.fuel))
		}
	case 13:
		v, steps, e := tablib.Remove(x, b.lastOr(arg(1), x), b.fuel)
		b.made(steps, e)
		return []api.Val{v}
	case 14:
		sep := ""
		if arg(1) != nothing() {
			sep = chars(arg(1))
		}
		i := wholeOr(arg(2), 1)
		s, steps, e := tablib.Concat(x, sep, i, b.lastOr(arg(3), x), b.fuel)
		b.made(steps, e)
		return []api.Val{b.anew(s)}
	case 15:
		i := wholeOr(arg(1), 1)
		list, e := tablib.Unpack(x, i, b.lastOr(arg(2), x))
		need(e)
		return list
	case 16:
		f, e, p, to := whole(arg(1)), whole(arg(2)), whole(arg(3)), arg(4)
		if to == nothing() {
			to = arg(0)
		}
		b.made(tablib.Move(x, b.table(to), f, e, p, b.fuel))
		return []api.Val{to}
	case 17:
		b.sort(x, arg(1))
	}
	return nil
}

func (b *book) sort(x *table.Table, f api.Val) {
	needs(f.Kind == api.Nil || f.Kind == api.Fun || f.Kind == api.Lib, api.ErrType)
	s, answer := sorting.New(x, tablib.Last(x)), false
	for {
		v, w, more, e := s.Next(answer)
		need(e)
		if !more {
			return
		}
		b.step()
		if f != nothing() {
			answer = isTrue(first(b.invoke(f, []api.Val{v, w})))
			continue
		}
		order, e := box.Order(v, w)
		need(e)
		answer = order == -1
	}
}

func (b *book) onTexts(n int, all []api.Val, arg func(int) api.Val) []api.Val {
	if n == 19 {
		var codes []int
		for _, v := range all {
			codes = append(codes, whole(v))
		}
		s, e := utflib.Char(codes)
		need(e)
		return []api.Val{b.anew(s)}
	}
	s := chars(arg(0))
	switch n {
	case 18:
		count, place, e := utflib.Len(s, wholeOr(arg(1), 1), wholeOr(arg(2), -1))
		need(e)
		if place > 0 {
			return []api.Val{nothing(), number(place)}
		}
		return []api.Val{number(count)}
	case 20:
		i := wholeOr(arg(1), 1)
		codes, e := utflib.Codes(s, i, wholeOr(arg(2), i))
		need(e)
		var list []api.Val
		for _, c := range codes {
			list = append(list, number(c))
		}
		return list
	case 21:
		k, otherwise := whole(arg(1)), 1
		if k < 1 {
			otherwise = len(s) + 1
		}
		place, found, e := utflib.Offset(s, k, wholeOr(arg(2), otherwise))
		need(e)
		if !found {
			return []api.Val{nothing()}
		}
		return []api.Val{number(place)}
	case 22:
		return []api.Val{of(api.Lib, 23), arg(0), number(0)}
	}
	place, code, more, e := utflib.Step(s, whole(arg(1)))
	need(e)
	if !more {
		return []api.Val{nothing()}
	}
	return []api.Val{number(place), number(code)}
}
