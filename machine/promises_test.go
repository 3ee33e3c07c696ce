package machine_test

import (
	"math/rand"
	"slices"
	"strconv"
	"strings"
	"testing"

	"trestle/api"
	"trestle/lex"
	"trestle/machine"
	"trestle/parse"
	"trestle/runes"
)

// Whatever fuel and cells there are: with each number of steps, and of cells, up to what the program needs, it ends as the book does.
func TestEachFuelAndCell_P3(t *testing.T) {
	programs(3, 20, func(src string, r *rand.Rand) {
		b := try(t, src, 400, 400).b
		for fuel := range 402 - b.fuel {
			try(t, src, fuel, 400)
		}
		for cells := range 120 {
			try(t, src, 400, cells)
		}
	})
}

// More fuel is the same run, with as much more of it left; more cells are the same run.
func TestMore_P18_2(t *testing.T) {
	same, refused := 0, 0
	programs(4, 1200, func(src string, r *rand.Rand) {
		fuel, cells := r.Intn(500), r.Intn(400)
		few, fail := machine.Run(src, fuel, cells)
		if fail.Code != api.OK {
			return
		}
		extra := 1 + r.Intn(700)
		many, _ := machine.Run(src, fuel+extra, cells)
		many.Fuel -= extra
		if few.Err != api.ErrFuel && !alike(few, many) {
			t.Fatalf("%s\n%d more fuel: %v, %v", src, extra, few, many)
		}
		wide, _ := machine.Run(src, fuel, cells+extra)
		if few.Err != api.ErrCells && !alike(few, wide) {
			t.Fatalf("%s\n%d more cells: %v, %v", src, extra, few, wide)
		}
		if few.Err == api.ErrFuel || few.Err == api.ErrCells {
			refused++
		} else {
			same++
		}
	})
	if same < 300 || refused < 100 {
		t.Errorf("%d runs had enough, %d hadn't", same, refused)
	}
}

// Behind a run there are the cells of the tables, and those of the texts that were made anew.
func TestCellsAtTheEnd_P18_3(t *testing.T) {
	ends := map[api.Errno]int{}
	programs(5, 1200, func(src string, r *rand.Rand) {
		x := try(t, src, r.Intn(2000), r.Intn(1500))
		want := x.b.charged
		for n := 1; x.m.Table(n) != nil; n++ {
			s := x.m.Table(n).Stats()
			want += 4 + s.Array + 3*s.Hash
		}
		if out := x.m.Out(); out.Cells != want {
			t.Fatalf("%s\n%d cells, want %d", src, out.Cells, want)
		}
		ends[x.b.err]++
	})
	if ends[api.OK] < 50 || ends[api.ErrFuel] < 50 || ends[api.ErrCells] < 50 || ends[api.ErrType] < 50 {
		t.Errorf("ends: %v", ends)
	}
}

// Programs that would go on for ever, or go very deep, with all the fuel and cells that there may be.
func TestEnds_P18_4(t *testing.T) {
	for src, want := range map[string]api.Errno{
		"while true do end":                                                   api.ErrFuel,
		"while true do while true do break end end":                           api.ErrFuel,
		"for i = 1, 9223372036854775807 do end":                               api.ErrFuel,
		"function f() return 1 end for i in f do end":                         api.ErrFuel,
		"function f() return f() end f()":                                     api.ErrCells,
		"function f() f(1, 2, 3, 4, {f()}) end f()":                           api.ErrCells,
		"function f(a) return g(a) + 1 end function g(a) return f(a) end f()": api.ErrCells,
		"local t = {table.sort} t[2] = t table.sort(t, table.sort)":           api.ErrFuel,
		"function f(a, b) table.sort({1, 2}, f) end f()":                      api.ErrCells,
		"local s = 'x' while true do s = s .. s end":                          api.ErrBig,
		"while true do x = 'abcdefgh' .. 'x' end":                             api.ErrCells,
		"local t = {} while true do t[#t + 1] = 1 end":                        api.ErrCells,
		"local t = {} for i = 1, 1000000 do t[i * 1000] = i end":              api.ErrBig,
		"local t = {} while true do table.insert(t, 1, 1) end":                api.ErrFuel,
		"while true do print('x') end":                                        api.ErrBig,
		"local t = {} t[9223372036854775807] = 1 table.concat(t, '', 9223372036854775807, 9223372036854775807) table.move(t, -4611686018427387904, 0, 1)": api.ErrFuel,
		"local t = {} table.move(t, 0, 4611686018427387904, 1)": api.ErrFuel,
	} {
		out, fail := machine.Run(src, api.MaxFuel, api.MaxCells)
		if fail.Code != api.OK || out.Err != want {
			t.Errorf("%s: %d, %v", src, out.Err, fail)
		}
	}
}

// lineless: the same without the line.
func lineless(o api.Out) api.Out {
	o.Line = 0
	return o
}

func TestPlainForm_P18_5(t *testing.T) {
	n := 0
	programs(6, 1500, func(src string, r *rand.Rand) {
		plain, fail := parse.Text(src)
		fuel, cells := r.Intn(1500), r.Intn(900)
		want, refused := machine.Run(src, fuel, cells)
		if fail.Code != api.OK || refused.Code != api.OK || len(plain) > api.MaxText {
			return
		}
		n++
		got, fail := machine.Run(plain, fuel, cells)
		if fail.Code != api.OK || !alike(lineless(got), lineless(want)) {
			t.Fatalf("%s\n%v, %v, want %v", plain, got, fail, want)
		}
	})
	if n < 1000 {
		t.Errorf("only %d programs", n)
	}
}

// What is seen by stats and probes is what the layers below say: rehashes, chains, reads.
func TestStatsAndProbes_P5(t *testing.T) {
	for src, want := range map[string]string{
		"local t = {} print(stats(t)) t[1] = 'a' print(stats(t)) t[2] = 'b' print(stats(t)) t[3] = 'c' print(stats(t)) t[4] = 'd' print(stats(t)) t.x = 1 print(stats(t)) t.y = 2 print(stats(t))": "0 0 0|1 0 0|2 0 0|4 0 0|4 0 0|4 1 1|4 2 2",
		"local t = {1, 2, 3} print(stats(t)) t[4] = nil print(stats(t)) t[4] = 4 print(stats(t))":                                                                                                  "3 0 0|3 0 0|4 0 0",
		"local t = {x = 1, y = 2, z = 3} print(stats(t))":                                      "0 4 4",
		"local t = {1, 2} print(probes()) x = t[1] + t[2] print(probes())":                     "0|0",
		"local t = {} x = t.a print(probes()) t.a = 1 print(probes()) x = t.a print(probes())": "0|0|1",
		// Ints have the main position n modulo 3 in four nodes: 3, 6 and 9 are one chain, the latest right behind the first.
		"local t = {a = nil, b = nil, c = nil, d = nil} print(stats(t)) t[30] = 1 t[60] = 1 t[90] = 1 print(stats(t)) local p = probes() x = t[30] print(probes() - p) p = probes() x = t[90] print(probes() - p) p = probes() x = t[60] print(probes() - p) p = probes() x = t[120] print(probes() - p) p = probes() x = t[nil] print(probes() - p)": "0 4 4|0 4 2|1|2|3|3|0",
		// A Set of a key that isn't there finds no free node: both parts are made anew.
		"local t = {a = 1} t.a = nil t.b = 2 print(stats(t)) t.c = nil print(stats(t)) t.c = 3 print(stats(t))":                "0 1 1|0 1 1|0 2 2",
		"local t = {} for i = 1, 100 do t[i] = i end for i = 1, 100 do t[i] = nil end print(stats(t)) t.x = 1 print(stats(t))": "128 0 0|0 1 1",
		"local t = {} t[1000] = 1 t[1] = 1 print(stats(t)) print(#t, next(t)) print(next(t, 1))":                               "1 1 1|1 1 1|1000 1",
	} {
		out, fail := machine.Run(src, 3000, 3000)
		got := strings.ReplaceAll(strings.Join(out.Lines, "|"), "\t", " ")
		if fail.Code != api.OK || out.Err != api.OK || got != want {
			t.Errorf("%s: %s, %d, %v", src, got, out.Err, fail)
		}
	}
}

// A traversal tells each key once, though the values of keys that are there are set anew, to nil too.
func TestTraversal_P6(t *testing.T) {
	r := rand.New(rand.NewSource(7))
	for range 300 {
		src, keys := "local t = {} ", map[string]bool{}
		for range r.Intn(40) {
			key := strconv.Itoa(r.Intn(60) - 5)
			if r.Intn(3) == 0 {
				key = lex.Quote(string(rune('a' + r.Intn(26))))
			}
			src += "t[" + key + "] = 1 "
			keys[strings.Trim(key, `"`)] = true
			if r.Intn(4) == 0 {
				src += "t[" + key + "] = nil "
				delete(keys, strings.Trim(key, `"`))
			}
		}
		src += "for k, v in pairs(t) do print(k) " + []string{"", "t[k] = nil ", "t[k] = 2 ", "if k ~= 1 then t[k] = nil end "}[r.Intn(4)] + "end"
		out, fail := machine.Run(src, 3000, 9000)
		told := slices.Sorted(slices.Values(out.Lines))
		if fail.Code != api.OK || out.Err != api.OK || len(slices.Compact(slices.Clone(told))) != len(told) || len(told) != len(keys) {
			t.Fatalf("%s: %q, %d, %v", src, out.Lines, out.Err, fail)
		}
		for _, k := range told {
			if !keys[k] {
				t.Fatalf("%s: %q isn't there", src, k)
			}
		}
	}
}

// Numbers alone, or texts alone, come in order, by the order or by a function that agrees with it.
func TestSorted_P7(t *testing.T) {
	r := rand.New(rand.NewSource(8))
	for turn := range 400 {
		var all []string
		ofTexts := turn%2 == 0
		for range r.Intn(60) {
			if ofTexts {
				all = append(all, string([]byte{byte('a' + r.Intn(4)), byte(128 + r.Intn(4))}[:r.Intn(3)]))
			} else {
				all = append(all, strconv.Itoa(r.Intn(40)-20))
			}
		}
		src, down := "function lt(a, b) return a < b end function gt(a, b) return b < a end local t = {} ", turn%3 == 2
		for i, s := range all {
			if ofTexts {
				s = lex.Quote(s)
			}
			src += "t[" + strconv.Itoa(i+1) + "] = " + s + " "
		}
		src += "table.sort(t" + []string{"", ", lt", ", gt"}[turn%3] + ") for i = 1, #t do print(t[i]) end"
		slices.SortFunc(all, func(a, b string) int {
			x, _ := strconv.Atoi(a)
			y, _ := strconv.Atoi(b)
			if ofTexts {
				x = strings.Compare(a, b)
				y = 0
			}
			if down {
				return y - x
			}
			return x - y
		})
		out, fail := machine.Run(src, 100000, 9000)
		if fail.Code != api.OK || out.Err != api.OK || !slices.Equal(out.Lines, all) {
			t.Fatalf("%s: %q, %d, %v", src, out.Lines, out.Err, fail)
		}
	}
}

// Texts keep their bytes, and the library goes through them rune by rune.
func TestTexts_P8(t *testing.T) {
	r := rand.New(rand.NewSource(9))
	parts := []string{"a", "é", "€", "\U0001F600", "\xff", "\x80", "\xe2\x82", "\xed\xa0\x80", "\x00", "\n", "\"", "\uFFFD", "\t"}
	for range 1000 {
		s := ""
		for range r.Intn(8) {
			s += parts[r.Intn(len(parts))]
		}
		src := "local s, t = " + lex.Quote(s) + ", {} t.s = s t[s] = s print(s) print(t.s) print(t[s] .. '') print(tostring(s)) print(table.concat({s})) print(#s)"
		out, _ := machine.Run(src, 100, 100)
		if !slices.Equal(out.Lines, lines(s, s, s, s, s, strconv.Itoa(len(s)))) {
			t.Fatalf("%q: %q", s, out.Lines)
		}
		var want []string
		valid := true
		for _, u := range runes.List(s) {
			if u.Size == 1 && u.R == 0xFFFD {
				valid = false
				break
			}
			want = append(want, strconv.Itoa(u.At+1)+"\t"+strconv.Itoa(u.R))
		}
		out, _ = machine.Run("local s = "+lex.Quote(s)+" for p, c in utf8.codes(s) do print(p, c) end", 100, 100)
		if !slices.Equal(out.Lines, want) || (out.Err == api.OK) != valid || !valid && out.Err != api.ErrRune {
			t.Fatalf("%q: %q, %d, want %q", s, out.Lines, out.Err, want)
		}
	}
}

// Behind a run, whether it ended well or not, no cells are in use but those of tables and texts.
func TestCellsBehindARun_P9(t *testing.T) {
	for src, want := range map[string]int{
		"function f(n) if n > 0 then return f(n - 1) end end f(20)":                      0,
		"function f(n) if n > 0 then return 1 + f(n - 1) end end f(20)":                  0,
		"function f() return 1 + f() end f()":                                            0,
		"while true do end":                                                              0,
		"function f() table.sort({1, 2, 3}, f) end f()":                                  7 * 36,
		"x = {1, 2, 3} y = 'abc' .. 'defgh'":                                             7 + 2,
		"x = {} x[1] = 1 x[2] = 2 x[3] = 3 x.y = 4 x.z = 5":                              4 + 4 + 6,
		"x = {} x = nil x = {} x = 'a' .. 1 x = nil x = tostring(5)":                     4 + 4 + 1 + 1,
		"function f(a, b, c) local t = {} t[1] = a return t, nil + 1 end x = f(1, 2, 3)": 5,
	} {
		out, fail := machine.Run(src, 1000, 400)
		if fail.Code != api.OK || out.Cells != want {
			t.Errorf("%s: %v, %v", src, out, fail)
		}
	}
}
