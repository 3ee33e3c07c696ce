package box_test

import (
	"bytes"
	"math"
	"slices"
	"strconv"
	"strings"
	"testing"

	"trestle/api"
	"trestle/box"
)

func nothing() api.Val          { return api.Val{} }
func truth(n int) api.Val       { return api.Val{Kind: api.Bool, N: n} }
func number(n int) api.Val      { return api.Val{Kind: api.Int, N: n} }
func text(s string) api.Val     { return api.Val{Kind: api.Str, S: s} }
func of(kind, n int) api.Val    { return api.Val{Kind: kind, N: n} }
func filled(length int) api.Val { return text(strings.Repeat("x", length)) }

// formOf: the chapter's words, one after the other.
func formOf(v api.Val) api.Errno {
	if v.Kind < 0 || v.Kind > 6 {
		return api.ErrForm
	}
	if (v.Kind == 0 || v.Kind == 3) && v.N != 0 {
		return api.ErrForm
	}
	if v.Kind == 1 && v.N != 0 && v.N != 1 {
		return api.ErrForm
	}
	if v.Kind >= 4 && v.N < 1 {
		return api.ErrForm
	}
	if v.Kind != 3 && v.S != "" || len(v.S) > 10000 {
		return api.ErrForm
	}
	return api.OK
}

// grid: kinds, numbers and texts in all mixtures, most of them not in form.
func grid() []api.Val {
	texts := []string{"", "\x00", "a", "ab", "b", "B", "1", "nil", "\xff", "\x80\xff", "é", "true", strings.Repeat("x", 9999), strings.Repeat("x", 10000), strings.Repeat("x", 10001)}
	var all []api.Val
	for _, kind := range []int{math.MinInt64, -1, 0, 1, 2, 3, 4, 5, 6, 7, 8, math.MaxInt64} {
		for _, n := range []int{math.MinInt64, -12, -1, 0, 1, 2, 3, 10, math.MaxInt64} {
			for _, s := range texts {
				all = append(all, api.Val{Kind: kind, N: n, S: s})
			}
		}
	}
	return all
}

// values: those of the grid that are in form.
func values() []api.Val {
	return slices.DeleteFunc(grid(), func(v api.Val) bool { return formOf(v) != api.OK })
}

// few: a value in form and one that isn't, of each sort.
func few() []api.Val {
	return []api.Val{
		nothing(), truth(0), truth(1), number(0), number(1), number(-7), text(""), text("1"), text("a\xff"), of(api.Tab, 1), of(api.Fun, 1), of(api.Lib, 1), filled(9999), filled(10000),
		of(api.Nil, 1), truth(2), truth(-1), {Kind: api.Int, S: "x"}, {Kind: api.Str, N: 1}, filled(10001), of(api.Tab, 0), of(api.Fun, -1), of(api.Lib, 0), {Kind: api.Tab, N: 1, S: "x"}, of(7, 0), of(-1, 0),
	}
}

// shown: the value's text by hand.
func shown(v api.Val) string {
	n := strconv.FormatInt(int64(v.N), 10)
	return []string{"nil", []string{"false", "true"}[v.N&1], n, v.S, "table: " + n, "function: " + n, "builtin: " + n}[v.Kind]
}

func TestOneValue_P3_1(t *testing.T) {
	for _, v := range grid() {
		err, kept, truth, name, text := formOf(v), api.Val{}, false, "", ""
		if err == api.OK {
			kept = v
			truth = v.Kind > 1 || v.N == 1
			name = []string{"nil", "boolean", "number", "string", "table", "function", "function"}[v.Kind]
			text = shown(v)
		}
		if e := box.Check(v); e != err {
			t.Errorf("Check(%.40v) = %d, want %d", v, e, err)
		}
		if got, e := box.Round(v); got != kept || e != err {
			t.Errorf("Round(%.40v) = %.40v, %d, want %d", v, got, e, err)
		}
		if got, e := box.Truth(v); got != truth || e != err {
			t.Errorf("Truth(%.40v) = %v, %d, want %v, %d", v, got, e, truth, err)
		}
		if got, e := box.Type(v); got != name || e != err {
			t.Errorf("Type(%.40v) = %q, %d, want %q, %d", v, got, e, name, err)
		}
		if got, e := box.Show(v); got != text || e != err {
			t.Errorf("Show(%.40v) = %.40q, %d, want %.40q, %d", v, got, e, text, err)
		}
	}
}

func TestAs_P3_1(t *testing.T) {
	for _, v := range grid() {
		for _, kind := range []int{math.MinInt64, -1, 0, 1, 2, 3, 4, 5, 6, 7, math.MaxInt64} {
			want, is, err := api.Val{}, false, formOf(v)
			switch {
			case err != api.OK:
			case kind < 0 || kind > 6:
				err = api.ErrArg
			case v.Kind == kind:
				want, is = v, true
			}
			if got, ok, e := box.As(v, kind); got != want || ok != is || e != err {
				t.Errorf("As(%.40v, %d) = %.40v, %v, %d, want %v, %d", v, kind, got, ok, e, is, err)
			}
		}
	}
}

// asked: what Must answers, and whether it panics.
func asked(v api.Val, kind int) (got api.Val, panics bool) {
	panics = true
	defer func() { recover() }()
	got = box.Must(v, kind)
	return got, false
}

func TestMustTry_P3_1(t *testing.T) {
	all := grid()
	for _, kind := range []int{math.MinInt64, -1, 0, 1, 2, 3, 4, 5, 6, 7, math.MaxInt64} {
		tried := box.Try(all, kind)
		if len(tried) != len(all) {
			t.Fatalf("Try of %d values: %d answers", len(all), len(tried))
		}
		for i, v := range all {
			want, refused := v, false
			if formOf(v) != api.OK || v.Kind != kind {
				want, refused = api.Val{}, true
			}
			if got, panics := asked(v, kind); got != want || panics != refused || tried[i] != refused {
				t.Errorf("Must(%.40v, %d) = %.40v, panics %v; Try: %v, want %v", v, kind, got, panics, tried[i], refused)
			}
		}
	}
	if l := box.Try(nil, api.Int); len(l) != 0 {
		t.Errorf("Try of no values: %v", l)
	}
	if l := box.Try([]api.Val{}, 7); len(l) != 0 {
		t.Errorf("Try of no values, no kind: %v", l)
	}
}

// The list that is handed in, its spare room too, stays as it is, and the answers are new (R3).
func TestTryKeepsItsList_P3_1(t *testing.T) {
	room := []api.Val{number(5), text("a"), nothing(), number(6)}
	first := box.Try(room[:2], api.Int)
	first[0] = true
	second := box.Try(room[:2], api.Int)
	if !slices.Equal(second, []bool{false, true}) || !slices.Equal(room, []api.Val{number(5), text("a"), nothing(), number(6)}) {
		t.Errorf("Try: %v, and its list is %v", second, room)
	}
}

// ordered: the order by hand.
func ordered(a, b api.Val) int {
	if a.Kind == api.Str {
		return bytes.Compare([]byte(a.S), []byte(b.S))
	}
	switch {
	case a.N < b.N:
		return -1
	case a.N > b.N:
		return 1
	}
	return 0
}

func plain(v api.Val) bool { return v.Kind == api.Int || v.Kind == api.Str }

func TestTwoValues_P3_1(t *testing.T) {
	for _, a := range few() {
		for _, b := range few() {
			err := max(formOf(a), formOf(b))
			same, order, orderErr, joined, joinErr := false, 0, err, api.Val{}, err
			if err == api.OK {
				same = a.Kind == b.Kind && a.N == b.N && a.S == b.S
				if plain(a) && a.Kind == b.Kind {
					order = ordered(a, b)
				} else {
					orderErr = api.ErrType
				}
				if !plain(a) || !plain(b) {
					joinErr = api.ErrType
				} else if len(shown(a))+len(shown(b)) > 10000 {
					joinErr = api.ErrBig
				} else {
					joined = text(shown(a) + shown(b))
				}
			}
			if got, e := box.Same(a, b); got != same || e != err {
				t.Errorf("Same(%.40v, %.40v) = %v, %d, want %v, %d", a, b, got, e, same, err)
			}
			if got, e := box.Order(a, b); got != order || e != orderErr {
				t.Errorf("Order(%.40v, %.40v) = %d, %d, want %d, %d", a, b, got, e, order, orderErr)
			}
			if got, e := box.Join(a, b); got != joined || e != joinErr {
				t.Errorf("Join(%.40v, %.40v) = %.40v, %d, want %d", a, b, got, e, joinErr)
			}
		}
	}
}

func TestExamples_P3_1(t *testing.T) {
	if box.Check(number(5)) != api.OK {
		t.Error("Check: a number is refused")
	}
	for _, v := range []api.Val{{Kind: api.Int, N: 5, S: "x"}, truth(2), of(api.Tab, 0), of(7, 0), of(api.Nil, 1)} {
		if box.Check(v) != api.ErrForm {
			t.Errorf("Check(%v) isn't ErrForm", v)
		}
	}
	if v, ok, e := box.As(number(5), api.Int); v != number(5) || !ok || e != api.OK {
		t.Errorf("As of its own kind: %v, %v, %d", v, ok, e)
	}
	if v, ok, e := box.As(number(5), api.Str); v != nothing() || ok || e != api.OK {
		t.Errorf("As of another kind: %v, %v, %d", v, ok, e)
	}
	if _, _, e := box.As(number(5), 7); e != api.ErrArg {
		t.Errorf("As of no kind: %d", e)
	}
	if _, _, e := box.As(truth(2), 7); e != api.ErrForm {
		t.Errorf("As of no value and no kind: %d", e)
	}
	if l := box.Try([]api.Val{number(5), text("a"), truth(2)}, api.Int); !slices.Equal(l, []bool{false, true, true}) {
		t.Errorf("Try: %v", l)
	}
	for _, c := range []struct {
		a, b  api.Val
		order int
		err   api.Errno
	}{{text("a"), text("ab"), -1, 0}, {number(-1), number(-1), 0, 0}, {number(1), text("a"), 0, api.ErrType}, {nothing(), nothing(), 0, api.ErrType}, {text("\xff"), text("a"), 1, 0}, {text(""), text(""), 0, 0}, {text(""), text("\x00"), -1, 0}, {number(math.MinInt64), number(math.MaxInt64), -1, 0}, {number(math.MaxInt64), number(math.MinInt64), 1, 0}, {truth(0), truth(1), 0, api.ErrType}} {
		if got, e := box.Order(c.a, c.b); got != c.order || e != c.err {
			t.Errorf("Order(%v, %v) = %d, %d, want %d, %d", c.a, c.b, got, e, c.order, c.err)
		}
	}
	if v, e := box.Join(number(1), text("a")); v != text("1a") || e != api.OK {
		t.Errorf("Join: %v, %d", v, e)
	}
	if _, e := box.Join(nothing(), text("a")); e != api.ErrType {
		t.Errorf("Join of nil: %d", e)
	}
	if _, e := box.Join(filled(10000), nothing()); e != api.ErrType {
		t.Errorf("Join of nil, behind a long text: %d", e)
	}
}

func TestSameIsAnEquality_P3_2(t *testing.T) {
	all := values()
	for i, a := range all {
		for j, b := range all {
			one, e := box.Same(a, b)
			other, f := box.Same(b, a)
			if one != (i == j) || other != one || e != api.OK || f != api.OK {
				t.Errorf("Same(%.40v, %.40v) = %v, and turned round %v; %d, %d", a, b, one, other, e, f)
			}
		}
	}
}

func TestOrderIsAnOrder_P3_2(t *testing.T) {
	for _, kind := range []int{api.Int, api.Str} {
		all := slices.DeleteFunc(values(), func(v api.Val) bool { return v.Kind != kind })
		slices.SortFunc(all, ordered)
		// In a list that ascends by hand, the order is that of the places: so it is total, transitive and antisymmetric.
		for i, a := range all {
			for j, b := range all {
				got, e := box.Order(a, b)
				want := 0
				if i < j {
					want = -1
				} else if i > j {
					want = 1
				}
				if got != want || e != api.OK {
					t.Errorf("Order(%.40v, %.40v) = %d, %d, want %d", a, b, got, e, want)
				}
				if same, _ := box.Same(a, b); same != (got == 0) {
					t.Errorf("Order(%.40v, %.40v) = %d, but Same is %v", a, b, got, same)
				}
			}
		}
	}
}

func TestJoin_P3_2(t *testing.T) {
	all := []api.Val{number(0), number(-5), number(math.MinInt64), text(""), text("a"), text("\xff\x00"), text("-5"), filled(4999), filled(5000), filled(9999), filled(10000)}
	for _, a := range all {
		for _, b := range all {
			for _, c := range all {
				ab, e1 := box.Join(a, b)
				bc, e2 := box.Join(b, c)
				if e1 != api.OK || e2 != api.OK {
					continue
				}
				one, e3 := box.Join(ab, c)
				other, e4 := box.Join(a, bc)
				if one != other || e3 != e4 {
					t.Errorf("Join of %.20v, %.20v, %.20v: %d, %d, not the same", a, b, c, e3, e4)
				}
				whole := shown(a) + shown(b) + shown(c)
				if e3 == api.OK && one != text(whole) || (e3 == api.OK) != (len(whole) <= 10000) {
					t.Errorf("Join of %.20v, %.20v, %.20v: %.40v, %d", a, b, c, one, e3)
				}
			}
		}
	}
}

// Every call but Must ends without a panic, and answers the same at each asking (R5).
func TestNoPanic_P1(t *testing.T) {
	type answers struct {
		vals  [3]api.Val
		oks   [4]bool
		names [2]string
		order int
		errs  [8]api.Errno
	}
	ask := func(a, b api.Val, kind int) answers {
		var x answers
		x.errs[0] = box.Check(a)
		x.vals[0], x.errs[1] = box.Round(a)
		x.vals[1], x.oks[0], x.errs[2] = box.As(a, kind)
		x.oks[1] = box.Try([]api.Val{a}, kind)[0]
		x.oks[2], x.errs[3] = box.Same(a, b)
		x.oks[3], x.errs[4] = box.Truth(a)
		x.names[0], x.errs[5] = box.Type(a)
		x.names[1], _ = box.Show(a)
		x.order, x.errs[6] = box.Order(a, b)
		x.vals[2], x.errs[7] = box.Join(a, b)
		return x
	}
	for _, a := range grid() {
		for _, b := range few() {
			if first, second := ask(a, b, b.Kind), ask(a, b, b.Kind); first != second {
				t.Errorf("%.40v and %.40v: not the same at a second asking", a, b)
			}
		}
	}
}
