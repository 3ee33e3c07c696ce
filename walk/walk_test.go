package walk_test

import (
	"math"
	"math/rand"
	"slices"
	"strconv"
	"strings"
	"testing"

	"trestle/api"
	"trestle/heap"
	"trestle/table"
	"trestle/walk"
)

// Texts at the limit of what is in form, and one byte beyond it.
var longest, tooLong = strings.Repeat("x", 10000), strings.Repeat("x", 10001)

func nothing() api.Val       { return api.Val{} }
func number(n int) api.Val   { return api.Val{Kind: api.Int, N: n} }
func text(s string) api.Val  { return api.Val{Kind: api.Str, S: s} }
func of(kind, n int) api.Val { return api.Val{Kind: kind, N: n} }
func missing() *table.Table  { return nil }
func made(array, hash int) *table.Table {
	h, _ := heap.New(400000)
	x, _ := table.New(h, array, hash)
	return x
}

// wrong: values that aren't in form, some of which look like a key that is there.
func wrong() []api.Val {
	return []api.Val{of(-1, 0), of(7, 1), of(9, 0), of(math.MinInt64, 1), of(math.MaxInt64, 1), of(api.Nil, 1), {Kind: api.Nil, S: "x"}, of(api.Bool, 2), of(api.Bool, -1), {Kind: api.Int, N: 1, S: "x"}, {Kind: api.Str, N: 1, S: "x"}, text(tooLong), of(api.Tab, 0), of(api.Fun, -1), of(api.Lib, 0), {Kind: api.Tab, N: 1, S: "x"}}
}

// others: keys that never are in an array part.
func others() []api.Val {
	return []api.Val{of(api.Bool, 0), of(api.Bool, 1), number(math.MinInt64), number(math.MaxInt64), number(-1), number(0), text(""), text("1"), text("\xff\x00"), of(api.Tab, 1), of(api.Fun, 1), of(api.Lib, 1), of(api.Tab, math.MaxInt64)}
}

// keys: a pool of keys, in a row and scattered.
func keys(r *rand.Rand) []api.Val {
	var pool []api.Val
	for i := range 1 + r.Intn(24) {
		pool = append(pool, number(i+1))
		switch r.Intn(3) {
		case 0:
			pool = append(pool, text(strconv.Itoa(i)))
		case 1:
			pool = append(pool, number(7*i+11), of(api.Tab, i+1))
		}
	}
	if r.Intn(3) == 0 {
		pool = append(pool, others()...)
	}
	return pool
}

// places: the table's places from 1 on (the first is at 0), told by Dump alone.
func places(x *table.Table) []walk.Pair {
	var all []walk.Pair
	slots, chained := x.Dump()
	for i, v := range slots {
		all = append(all, walk.Pair{Key: number(i + 1), Val: v})
	}
	for _, n := range chained {
		all = append(all, walk.Pair{Key: n.Key, Val: n.Val})
	}
	return all
}

// list: List, by the chapter's words.
func list(x *table.Table) []walk.Pair {
	return slices.DeleteFunc(places(x), func(p walk.Pair) bool { return p.Val == nothing() })
}

// next: Next, by the chapter's words.
func next(x *table.Table, k api.Val) (api.Val, api.Val, api.Errno) {
	if slices.Contains(wrong(), k) {
		return nothing(), nothing(), api.ErrForm
	}
	all, at := places(x), 0
	if k != nothing() {
		at = slices.IndexFunc(all, func(p walk.Pair) bool { return p.Key == k }) + 1
		if at == 0 {
			return nothing(), nothing(), api.ErrKey
		}
	}
	for _, p := range all[at:] {
		if p.Val != nothing() {
			return p.Key, p.Val, api.OK
		}
	}
	return nothing(), nothing(), api.OK
}

// value: what is set; of ten so many are Nil.
func value(r *rand.Rand, clears int) api.Val {
	if r.Intn(10) < clears {
		return nothing()
	}
	return append(others(), number(r.Intn(100)))[r.Intn(len(others())+1)]
}

// Each answer is the book's; only the search for the key counts among the probes, and nothing else changes.
func TestCalls_P10_1(t *testing.T) {
	r := rand.New(rand.NewSource(20))
	found, ended, absent := 0, 0, 0
	for range 300 {
		array, hash, pool, clears := r.Intn(10), r.Intn(6), keys(r), r.Intn(6)
		x, twin := made(array, hash), made(array, hash)
		for range 60 {
			k, v := pool[r.Intn(len(pool))], value(r, clears)
			x.Set(k, v)
			twin.Set(k, v)
			k = append(slices.Concat(pool, wrong()), nothing())[r.Intn(len(pool)+len(wrong())+1)]
			gotK, gotV, e := walk.Next(x, k)
			wantK, wantV, want := next(x, k)
			if gotK != wantK || gotV != wantV || e != want {
				t.Fatalf("Next(%.40v) = %v, %v, %d, want %v, %v, %d", k, gotK, gotV, e, wantK, wantV, want)
			}
			switch {
			case e == api.ErrKey:
				absent++
			case e == api.OK && gotK == nothing():
				ended++
			case e == api.OK:
				found++
			}
			if e != api.ErrForm && k != nothing() {
				twin.Place(k)
			}
			if got, want := walk.List(x), list(x); !slices.Equal(got, want) {
				t.Fatalf("List = %v, want %v", got, want)
			}
			if x.Probes() != twin.Probes() || x.Stats() != twin.Stats() || !slices.Equal(places(x), places(twin)) {
				t.Fatalf("%d probes, want %d; %v, want %v", x.Probes(), twin.Probes(), x.Stats(), twin.Stats())
			}
		}
	}
	if found < 1000 || ended < 100 || absent < 100 {
		t.Errorf("only %d found, %d ended, %d absent", found, ended, absent)
	}
}

// What is in form is asked first, then whether the key has a place, of every table.
func TestErrors_P10_1(t *testing.T) {
	full := made(3, 4)
	for _, k := range []api.Val{number(1), number(2), text("x"), text(longest), of(api.Tab, 1)} {
		full.Set(k, number(5))
	}
	for _, x := range []*table.Table{missing(), new(table.Table), made(0, 0), made(3, 4), full} {
		probes := x.Probes()
		for _, w := range wrong() {
			if k, v, e := walk.Next(x, w); k != nothing() || v != nothing() || e != api.ErrForm {
				t.Errorf("Next(%.40v) = %v, %v, %d", w, k, v, e)
			}
		}
		if x.Probes() != probes {
			t.Errorf("keys that aren't in form: %d nodes read", x.Probes()-probes)
		}
		for _, a := range []api.Val{number(0), number(-1), number(4), number(math.MaxInt64), number(math.MinInt64), text("y"), text(longest[1:]), of(api.Bool, 0), of(api.Tab, 2), of(api.Fun, 1), of(api.Lib, 1)} {
			if k, v, e := walk.Next(x, a); k != nothing() || v != nothing() || e != api.ErrKey {
				t.Errorf("Next(%.40v) = %v, %v, %d", a, k, v, e)
			}
		}
	}
	if _, _, e := walk.Next(full, text(longest)); e != api.OK {
		t.Errorf("the longest text: %d", e)
	}
}

// A table that is nil, that no New made, or that holds nothing has no pairs.
func TestEmpty_P10_1(t *testing.T) {
	cleared := made(2, 2)
	for _, k := range []api.Val{number(1), number(2), text("a"), text("b")} {
		cleared.Set(k, number(1))
		cleared.Set(k, nothing())
	}
	for i, x := range []*table.Table{missing(), new(table.Table), made(0, 0), made(5, 0), made(0, 5), made(65536, 65536), cleared} {
		if k, v, e := walk.Next(x, nothing()); k != nothing() || v != nothing() || e != api.OK {
			t.Errorf("%d: Next(Nil) = %v, %v, %d", i, k, v, e)
		}
		if all := walk.List(x); len(all) != 0 {
			t.Errorf("%d: List = %v", i, all)
		}
	}
}

// Next of Nil and List count nothing; Next of a slot neither, of a node's key what its search reads.
func TestProbes_P10_1(t *testing.T) {
	x := made(2, 8)
	for _, k := range []api.Val{number(1), number(2), number(9), number(17), number(25), text("a")} {
		x.Set(k, number(1))
	}
	reads := func(ask func()) int {
		at := x.Probes()
		ask()
		return x.Probes() - at
	}
	if n := reads(func() { walk.List(x); walk.Next(x, nothing()); walk.Next(x, number(1)); walk.Next(x, number(2)) }); n != 0 {
		t.Errorf("List, Next of Nil and of slots: %d nodes read", n)
	}
	for _, k := range []api.Val{number(9), number(17), number(25), text("a"), text("b"), number(33)} {
		if got, want := reads(func() { walk.Next(x, k) }), reads(func() { x.Place(k) }); got != want || got == 0 {
			t.Errorf("Next(%v): %d nodes read, Place reads %d", k, got, want)
		}
	}
}

// Values that look like nothing are there.
func TestValues_P10_1(t *testing.T) {
	for _, v := range []api.Val{of(api.Bool, 0), number(0), text("")} {
		x := made(1, 1)
		x.Set(number(1), v)
		x.Set(text("k"), v)
		want := []walk.Pair{{Key: number(1), Val: v}, {Key: text("k"), Val: v}}
		if got := walk.List(x); !slices.Equal(got, want) {
			t.Errorf("List = %v, want %v", got, want)
		}
	}
}

// step is a question of an example, and its answer.
type step struct {
	k, key, val api.Val
	err         api.Errno
}

func ask(t *testing.T, x *table.Table, steps []step) {
	t.Helper()
	for _, s := range steps {
		if k, v, e := walk.Next(x, s.k); k != s.key || v != s.val || e != s.err {
			t.Errorf("Next(%v) = %v, %v, %d, want %v, %v, %d", s.k, k, v, e, s.key, s.val, s.err)
		}
	}
}

func TestExamples_P10_1(t *testing.T) {
	x := made(3, 1)
	x.Set(number(1), text("a"))
	x.Set(number(3), text("c"))
	x.Set(text("x"), number(1))
	ask(t, x, []step{
		{nothing(), number(1), text("a"), api.OK},
		{number(1), number(3), text("c"), api.OK},
		{number(2), number(3), text("c"), api.OK},
		{number(3), text("x"), number(1), api.OK},
		{text("x"), nothing(), nothing(), api.OK},
		{text("y"), nothing(), nothing(), api.ErrKey},
		{number(0), nothing(), nothing(), api.ErrKey},
	})
	want := []walk.Pair{{Key: number(1), Val: text("a")}, {Key: number(3), Val: text("c")}, {Key: text("x"), Val: number(1)}}
	if got := walk.List(x); !slices.Equal(got, want) {
		t.Errorf("List = %v, want %v", got, want)
	}
	x.Set(text("x"), nothing())
	ask(t, x, []step{{text("x"), nothing(), nothing(), api.OK}, {number(3), nothing(), nothing(), api.OK}})
	x.Set(text("z"), number(1))
	ask(t, x, []step{{text("x"), nothing(), nothing(), api.ErrKey}, {text("z"), nothing(), nothing(), api.OK}})
}

// holds: the keys that a script of Sets left present, with their values.
type holds map[api.Val]api.Val

func (h holds) set(x *table.Table, k, v api.Val) {
	x.Set(k, v)
	if v == nothing() {
		delete(h, k)
	} else {
		h[k] = v
	}
}

// A whole traversal, while present keys are set anew and cleared: no key twice, each that stays comes, nothing that isn't there.
func TestTraversal_P10_2(t *testing.T) {
	r := rand.New(rand.NewSource(21))
	changed := 0
	for turn := range 600 {
		x, h, pool := made(r.Intn(10), r.Intn(10)), holds{}, keys(r)
		for range r.Intn(80) {
			h.set(x, pool[r.Intn(len(pool))], value(r, 3))
		}
		stays := map[api.Val]bool{}
		for k := range h {
			stays[k] = true
		}
		came := map[api.Val]bool{}
		sets := turn % 4 // in one turn of four nothing changes
		for at := nothing(); ; {
			k, v, e := walk.Next(x, at)
			if e != api.OK {
				t.Fatalf("Next(%v): %d", at, e)
			}
			if k == nothing() {
				break
			}
			if came[k] || v == nothing() || h[k] != v {
				t.Fatalf("Next(%v) = %v, %v; it came before: %v; it is %v", at, k, v, came[k], h[k])
			}
			came[k], at = true, k
			for range sets {
				k, v := pool[r.Intn(len(pool))], value(r, 5)
				if r.Intn(2) == 0 {
					k = at
				}
				if h[k] == nothing() {
					v = nothing() // what is absent may be set to Nil alone
				}
				h.set(x, k, v)
				if v == nothing() {
					delete(stays, k)
					changed++
				}
			}
		}
		for k := range stays {
			if !came[k] {
				t.Fatalf("%v was present throughout and didn't come", k)
			}
		}
	}
	if changed < 1000 {
		t.Errorf("only %d keys were cleared on the way", changed)
	}
}

// A table can be emptied while it is gone through.
func TestEmptied_P10_2(t *testing.T) {
	x := made(0, 0)
	for i := range 100 {
		x.Set(number(i+1), number(i))
		x.Set(text(strconv.Itoa(i)), number(i))
	}
	came := 0
	for k, _, e := walk.Next(x, nothing()); k != nothing(); k, _, e = walk.Next(x, k) {
		if e != api.OK {
			t.Fatalf("Next: %d", e)
		}
		came++
		x.Set(k, nothing())
	}
	if all := walk.List(x); came != 200 || len(all) != 0 {
		t.Errorf("%d came, %d are left", came, len(all))
	}
}

// A traversal without changes tells what List tells, in its order.
func TestSameAsList_P10_2(t *testing.T) {
	r := rand.New(rand.NewSource(22))
	for range 200 {
		x, pool := made(r.Intn(10), r.Intn(10)), keys(r)
		for range r.Intn(80) {
			x.Set(pool[r.Intn(len(pool))], value(r, 3))
		}
		var came []walk.Pair
		for k, v, _ := walk.Next(x, nothing()); k != nothing(); k, v, _ = walk.Next(x, k) {
			came = append(came, walk.Pair{Key: k, Val: v})
		}
		if all := walk.List(x); !slices.Equal(came, all) {
			t.Fatalf("%v, List %v", came, all)
		}
	}
}

// ErrKey is just for what is neither in the array part nor held since the last rehash, told by the history of the Sets.
func TestErrKey_P10_3(t *testing.T) {
	r := rand.New(rand.NewSource(23))
	rehashes, dead := 0, 0
	for range 300 {
		x, h, pool := made(r.Intn(10), r.Intn(6)), holds{}, keys(r)
		held := map[api.Val]bool{} // by nodes
		inArray := func(k api.Val) bool { return k.Kind == api.Int && k.N >= 1 && k.N <= x.Stats().Array }
		for range 80 {
			k, v := pool[r.Intn(len(pool))], value(r, 4)
			isNew := v != nothing() && !inArray(k) && !held[k]
			full := len(held) == x.Stats().Hash
			h.set(x, k, v)
			if isNew && full {
				rehashes++
				clear(held)
				for k := range h {
					if !inArray(k) {
						held[k] = true
					}
				}
			} else if isNew {
				held[k] = true
			}
			for _, k := range append(others(), pool...) {
				_, _, e := walk.Next(x, k)
				if has := inArray(k) || held[k]; (e == api.OK) != has || (e == api.ErrKey) == has {
					t.Fatalf("Next(%v): %d; it has a place: %v", k, e, has)
				}
				if held[k] && h[k] == nothing() {
					dead++
				}
			}
		}
	}
	if rehashes < 300 || dead < 300 {
		t.Errorf("only %d rehashes, %d dead keys", rehashes, dead)
	}
}

func TestNoPanic_P1(t *testing.T) {
	full := made(4, 4)
	for _, k := range append(others(), number(1), number(3)) {
		full.Set(k, k)
	}
	for _, x := range []*table.Table{missing(), new(table.Table), made(0, 0), made(1, 0), made(0, 1), made(65536, 65536), full} {
		for _, k := range slices.Concat(wrong(), others(), []api.Val{nothing(), number(1), number(4), number(65536), number(65537), text(longest)}) {
			walk.Next(x, k)
		}
		walk.List(x)
	}
}

// A list that was answered may be changed: neither the table nor another list sees it.
func TestOwnMemory_R3(t *testing.T) {
	x := made(2, 4)
	for _, k := range []api.Val{number(1), number(2), text("a"), text("b"), of(api.Tab, 3)} {
		x.Set(k, k)
	}
	was, first, second := places(x), walk.List(x), walk.List(x)
	want := slices.Clone(first)
	clear(first[:cap(first)])
	if !slices.Equal(second, want) || !slices.Equal(walk.List(x), want) || !slices.Equal(places(x), was) {
		t.Errorf("%v, %v, want %v", second, walk.List(x), want)
	}
	_ = append(second[:len(second):cap(second)], walk.Pair{Key: text("z")})
	x.Set(text("a"), number(9))
	x.Set(number(1), nothing())
	if !slices.Equal(second, want) {
		t.Errorf("a list that was answered changed with the table: %v", second)
	}
}
