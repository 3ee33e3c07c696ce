package shell_test

import (
	"fmt"
	"math"
	"math/rand"
	"slices"
	"strings"
	"testing"

	"trestle/api"
	"trestle/box"
	"trestle/heap"
	"trestle/host"
	"trestle/shell"
	"trestle/table"
)

// back: what Value tells, set to a global, is got again.
func back(t *testing.T, vals ...api.Val) {
	t.Helper()
	rows := []row{says("load 'x = nil function f(a) return a end function g() end'", "ok"), says("make 0 0", "ok tab 1"), says("make 0 0", "ok tab 2")}
	for _, v := range vals {
		told := shell.Value(v)
		rows = append(rows, says("set x "+told, "ok"), says("get x", "ok "+told), says("call fun 1 "+told, "ok "+told))
	}
	hold(t, 10000, 100, rows...)
}

func TestValueAndBack_P20_2(t *testing.T) {
	r := rand.New(rand.NewSource(4))
	for range 200 {
		vals := []api.Val{{}, {Kind: api.Bool}, {Kind: api.Bool, N: 1}, {Kind: api.Tab, N: 1 + r.Intn(2)}, {Kind: api.Fun, N: 1 + r.Intn(2)}, {Kind: api.Lib, N: 1 + r.Intn(23)},
			{Kind: api.Int, N: r.Intn(100) - 50}, {Kind: api.Int, N: int(r.Uint64() | 1)}, {Kind: api.Int, N: math.MaxInt64}, {Kind: api.Int, N: math.MinInt64 + 1}, {Kind: api.Int}}
		for range 30 {
			s := make([]byte, r.Intn(40))
			for i := range s {
				s[i] = byte(r.Intn(256))
			}
			vals = append(vals, api.Val{Kind: api.Str, S: string(s)}, api.Val{Kind: api.Str, S: strings.ToValidUTF8(string(s), "é\U0001F600\uFFFD")})
		}
		back(t, vals...)
	}
	for c := range 256 {
		b := string([]byte{byte(c)})
		back(t, api.Val{Kind: api.Str, S: b}, api.Val{Kind: api.Str, S: b + "0"}, api.Val{Kind: api.Str, S: "\xe2" + b + "a"}, api.Val{Kind: api.Str, S: strings.Repeat(b, 450)})
	}
	// As long as they fit the line: behind "call fun 1 " and in quotes 1987 bytes do.
	back(t, api.Val{Kind: api.Str, S: strings.Repeat("a", 1987)}, api.Val{Kind: api.Str, S: strings.Repeat("\x00", 496)}, api.Val{Kind: api.Str, S: strings.Repeat("é", 993)})
	// What is got is the value itself, not its text alone.
	hold(t, 100, 100,
		says("load \"x = nil function is() return type(x), #x end function at(i) return utf8.codepoint(x, i) end\"", "ok"),
		says("start", "ok"),
		says("set x "+shell.Value(api.Val{Kind: api.Str, S: "\n\x00\u20ac"}), "ok"),
		says("run is", "ok \"string\" 5"),
		says("run at 1", "ok 10"),
		says("run at 2", "ok 0"),
		says("run at 3", "ok 8364"),
	)
}

// wrong: lines that are no commands, and their replies.
func wrong() []row {
	return []row{
		says("go", "error 16 at 0"), says(" Look", "error 16 at 1"), says("'", "error 4 at 0"), says("load x", "error 16 at 5"), says("load 'print(1)' 1", "error 16 at 16"), says("start 1", "error 16 at 6"), says("start start", "error 16 at 6"),
		says("call", "error 16 at 4"), says("call fun 1 x", "error 16 at 11"), says("run f =", "error 16 at 6"), says("run", "error 16 at 3"), says("set x", "error 16 at 5"), says("set x 1 2", "error 16 at 8"), says("get x x", "error 16 at 6"), says("make 1", "error 16 at 6"), says("make 0 0 0", "error 16 at 9"),
		says("index tab 1", "error 16 at 11"), says("store tab 1 1", "error 16 at 13"), says("store tab 1 1 1 ~", "error 4 at 16"), says("next tab 1", "error 16 at 10"), says("len tab 1 tab 2", "error 16 at 10"), says("stats", "error 16 at 5"), says("pairs tab", "error 16 at 9"), says("look 1", "error 16 at 5"), says("look '", "error 4 at 5"),
		says(wide("look", 2001), "error 14 at -1"), says(wide("start", 5000), "error 14 at -1"), says("\xff", "error 4 at 0"), says("start 9223372036854775808", "error 14 at 6"), says(strings.Repeat("n", 41), "error 14 at 0"), says("store tab 1 1 1x", "error 4 at 14"),
	}
}

// Blank lines and comments change nothing, and lines that are no commands nothing but their own replies.
func TestOtherLines_P20_3(t *testing.T) {
	w := writer{rand.New(rand.NewSource(5))}
	for range 600 {
		ops := w.ops(60)
		fuel, cells := w.Intn(400), w.Intn(400)
		replies, _ := host.Play(fuel, cells, ops)
		told := byHand(ops, replies)
		var loose, mixed, want []string
		for i, line := range w.lines(ops) {
			for range w.Intn(3) {
				blank := w.of("", " ", "\t\r", "--", "-- start", "  --'", wide("--", 2000), "\r")
				loose, mixed = append(loose, blank), append(mixed, blank)
			}
			for range w.Intn(3) {
				bad := wrong()[w.Intn(len(wrong()))]
				mixed, want = append(mixed, bad.line), append(want, bad.want...)
			}
			loose, mixed, want = append(loose, line), append(mixed, line), append(want, told[i]...)
		}
		if got := ran(t, fuel, cells, strings.Join(loose, "\n")); !slices.Equal(got, slices.Concat(told...)) {
			t.Fatalf("with blank lines: %q:\n%q, want\n%q", loose, got, told)
		}
		if got := ran(t, fuel, cells, strings.Join(mixed, "\n")); !slices.Equal(got, want) {
			t.Fatalf("with wrong lines: %q:\n%q, want\n%q", mixed, got, want)
		}
	}
}

// A wrong line stands alone: the machine is as it was ahead of it, and the next line is answered.
func TestWrongLine_P20_3(t *testing.T) {
	const looked = "ok fuel 96 cells 7 tables 1 probes 1 err 0 line 0"
	for _, bad := range wrong() {
		hold(t, 100, 100,
			says("load 'x = {} print(1) return 5'", "ok"), says("start", "ok 5"), says("store tab 1 0 true", "ok"), says("index tab 1 0", "ok true"), says("look", looked, "print \"1\"", "ret 5"),
			bad, says("look", looked, "ret 5"), bad, bad, says("look", looked, "ret 5"), says("pairs tab 1", "ok 0 true"), says("get x", "ok tab 1"),
		)
	}
}

// mirror is what a table has to be, reckoned without slots, nodes or chains.
type mirror struct {
	vals        map[string]string // what is present, as it is told
	held        map[string]bool   // the keys that nodes hold, live or dead
	array, hash int
	rehashes    int
}

// inArray: is the key, as it is told, a number of the first so many?
func inArray(key string, size int) bool {
	n := 0
	_, e := fmt.Sscanf(key, "%d", &n)
	return e == nil && n >= 1 && n <= size
}

func (m *mirror) store(k, v string) {
	grows := !inArray(k, m.array) && !m.held[k] && v != "nil"
	if v == "nil" {
		delete(m.vals, k)
	} else {
		m.vals[k] = v
	}
	switch {
	case grows && len(m.held) == m.hash:
		m.rehash()
	case grows:
		m.held[k] = true
	}
}

// rehash: the greatest power of two of whose numbers more than half are there; the least one with room for the rest.
func (m *mirror) rehash() {
	m.rehashes++
	m.array, m.held = 0, map[string]bool{}
	for size := 1; size <= 65536; size *= 2 {
		there := 0
		for k := range m.vals {
			if inArray(k, size) {
				there++
			}
		}
		if 2*there > size {
			m.array = size
		}
	}
	for k := range m.vals {
		if !inArray(k, m.array) {
			m.held[k] = true
		}
	}
	m.hash = 0
	for m.hash < len(m.held) {
		m.hash = max(1, 2*m.hash)
	}
}

// told: are these the pairs that are there?
func (m *mirror) told(line string) bool {
	rest, pairs := line+" ", 0
	for k, v := range m.vals {
		if !strings.Contains(rest, " "+k+" "+v+" ") {
			return false
		}
		pairs += len(" " + k + " " + v)
	}
	return len(line) == len("ok")+pairs
}

func (m *mirror) border(told string) bool {
	n := -1
	fmt.Sscanf(told, "ok %d", &n)
	_, above := m.vals[fmt.Sprint(n+1)]
	return n == 0 && !above || n > 0 && m.vals[fmt.Sprint(n)] != "" && !above
}

// key: of few keys, so that they come again; none is a part of another's pair.
func key(r *rand.Rand, spread int) string {
	switch r.Intn(6) {
	case 0:
		return `"` + strings.Repeat("k", r.Intn(spread)) + `"`
	case 1:
		return []string{"false", "true", "tab 1", "lib 3", "fun 2", "0", "-1", "9223372036854775807", "-9223372036854775807", `"\xff"`, `"\n"`}[r.Intn(11)]
	}
	return fmt.Sprint(1 + r.Intn(spread))
}

// A table is a map, set by lines or by a program; its sizes change at a rehash alone, and are the census of the keys then.
func TestTableIsAMap_P4(t *testing.T) {
	r := rand.New(rand.NewSource(6))
	rehashes := 0
	for turn := range 200 {
		m := mirror{vals: map[string]string{}, held: map[string]bool{}, array: r.Intn(6), hash: []int{0, 1, 2, 4, 8}[r.Intn(5)]}
		lines := []string{"load 'function put(t, k, v) t[k] = v end function get(t, k) return t[k] end'", "start", fmt.Sprintf("make %d %d", m.array, m.hash)}
		var keys, vals []string
		for range 110 {
			k, v := key(r, 2+turn%40), []string{"nil", "nil", "true", "\"v\"", "tab 1", "lib 7", "7", "-8"}[r.Intn(8)]
			put, get := []string{"store tab 1", "run put tab 1", "call fun 1 tab 1"}[r.Intn(3)], []string{"index tab 1", "run get tab 1", "call fun 2 tab 1"}[r.Intn(3)]
			lines = append(lines, put+" "+k+" "+v, get+" "+k, "stats tab 1", "pairs tab 1", "len tab 1", "look")
			keys, vals = append(keys, k), append(vals, v)
		}
		got := ran(t, 100000, 100000, strings.Join(lines, "\n"))[3:]
		for i, k := range keys {
			m.store(k, vals[i])
			of := got[7*i : 7*i+7]
			if of[0] != "ok" || of[1] != "ok "+vals[i] {
				t.Fatalf("%s: %q, want %s", k, of, vals[i])
			}
			if !strings.HasPrefix(of[2], fmt.Sprintf("ok %d %d ", m.array, m.hash)) || !strings.Contains(of[5], fmt.Sprintf(" cells %d ", 4+m.array+3*m.hash)) {
				t.Fatalf("behind %s: %q, want %d, %d", k, of, m.array, m.hash)
			}
			if !m.told(of[3]) || !m.border(of[4]) {
				t.Fatalf("behind %s: %q, want %v", k, of, m.vals)
			}
		}
		rehashes += m.rehashes
	}
	if rehashes < 500 {
		t.Errorf("only %d rehashes", rehashes)
	}
}

// The fourth chapter's main positions and the seventh's chains by hand: what is read, and where the free pointer stands.
func TestReads_P5(t *testing.T) {
	hold(t, 100, 100,
		says("load 'function get(t, k) return t[k] end print(probes())'", "ok"),
		says("start", "ok"),
		says("make 2 4", "ok tab 1"),
		says("store tab 1 3 'c'", "ok"), says("stats tab 1", "ok 2 4 4 0 1"),
		says("store tab 1 6 'f'", "ok"), says("stats tab 1", "ok 2 4 3 0 2"),
		says("store tab 1 9 'i'", "ok"), says("stats tab 1", "ok 2 4 2 0 4"),
		says("index tab 1 6", "ok \"f\""), says("stats tab 1", "ok 2 4 2 0 7"),
		says("store tab 1 5 'e'", "ok"), says("stats tab 1", "ok 2 4 1 0 9"),
		says("index tab 1 9", "ok \"i\""), says("stats tab 1", "ok 2 4 1 0 11"),
		says("index tab 1 12", "ok nil"), says("stats tab 1", "ok 2 4 1 0 14"),
		says("store tab 1 1 'a'", "ok"), says("index tab 1 2", "ok nil"), says("stats tab 1", "ok 2 4 1 0 14"),
		says("run get tab 1 6", "ok \"f\""), says("stats tab 1", "ok 2 4 1 0 17"),
		says("next tab 1 6", "ok nil nil"), says("pairs tab 1", "ok 1 \"a\" 3 \"c\" 9 \"i\" 5 \"e\" 6 \"f\""), says("stats tab 1", "ok 2 4 1 0 20"),
		says("store tab 1 6 nil", "ok"), says("stats tab 1", "ok 2 4 1 0 23"),
		says("store tab 1 15 'o'", "ok"), says("stats tab 1", "ok 1 4 1 0 26"),
		says("make 0 1", "ok tab 2"), says("index tab 2 1", "ok nil"), says("stats tab 2", "ok 0 1 1 0 1"),
		says("look", "ok fuel 94 cells 24 tables 2 probes 27 err 0 line 0", "print \"0\"", "ret \"f\""),
	)
}

// What stats and probes tell is what a table reads that is asked the same.
func TestOneTable_P5(t *testing.T) {
	r := rand.New(rand.NewSource(7))
	for turn := range 200 {
		cells, _ := heap.New(400000)
		array, hash := r.Intn(4), r.Intn(9)
		tab, _ := table.New(cells, array, hash)
		rows := []row{says("load 'function put(t, k, v) t[k] = v end function get(t, k) return t[k] end function all() return probes() end'", "ok"), says("start", "ok"), says(fmt.Sprintf("make %d %d", array, hash), "ok tab 1")}
		for range 90 {
			k := []api.Val{{Kind: api.Int, N: r.Intn(5 + turn)}, {Kind: api.Str, S: strings.Repeat("k", r.Intn(20))}, {Kind: api.Bool, N: r.Intn(2)}, {Kind: api.Lib, N: 1 + r.Intn(23)}}[r.Intn(4)]
			v := []api.Val{{}, {Kind: api.Bool, N: 1}}[min(1, r.Intn(4))]
			told := " tab 1 " + shell.Value(k)
			if r.Intn(2) == 0 {
				tab.Set(k, v)
				rows = append(rows, says([]string{"store", "run put"}[r.Intn(2)]+told+" "+shell.Value(v), "ok"))
			} else {
				rows = append(rows, says([]string{"index", "run get"}[r.Intn(2)]+told, "ok "+shell.Value(tab.Get(k))))
			}
			s := tab.Stats()
			rows = append(rows, says("stats tab 1", fmt.Sprintf("ok %d %d %d %d %d", s.Array, s.Hash, s.Free, s.Hint, tab.Probes())), says("run all", fmt.Sprintf("ok %d", tab.Probes())))
		}
		hold(t, 10000, 400000, rows...)
	}
}

// Keys in a row, far from 1, are found at once but for one of them; keys of the array part read nothing at all.
func TestRows_P5(t *testing.T) {
	probes := func(line string) int {
		a, h, f, hint, n := 0, 0, 0, 0, -1
		fmt.Sscanf(line, "ok %d %d %d %d %d", &a, &h, &f, &hint, &n)
		return n
	}
	for _, m := range []int{1, 2, 3, 4, 7, 8, 9, 31, 32, 33, 100, 255, 256, 257, 490} {
		for _, b := range []int{2 * m, 2*m + 1, 1000, 65535, 1 << 40, 1<<62 - 1} {
			if 2*m > b {
				continue
			}
			var far, near []string
			for i := range m {
				far = append(far, fmt.Sprintf("index tab 1 %d", b+1+i))
				near = append(near, fmt.Sprintf("index tab 1 %d", 1+i))
			}
			stored := func(lines []string) string {
				text := strings.Join(lines, " 5\n") + " 5\n"
				return "make 0 0\n" + strings.ReplaceAll(text, "index", "store") + "stats tab 1\n" + strings.Join(lines, "\n") + "\nstats tab 1"
			}
			got := ran(t, 0, 400000, stored(far))
			if first, last := probes(got[m+1]), probes(got[2*m+2]); first < 0 || last-first < m || last-first > m+1 {
				t.Errorf("%d keys behind %d: %d nodes were read", m, b, last-first)
			}
			if got := ran(t, 0, 400000, stored(near)); probes(got[2*m+2]) != 0 {
				t.Errorf("%d keys from 1 on: %q", m, got[2*m+2])
			}
		}
	}
}

// Any text, any numbers: it ends, and doesn't panic.
func TestNoPanic_P1(t *testing.T) {
	r := rand.New(rand.NewSource(8))
	all := []int{math.MinInt64, -1, 0, 1, 65536, 400000, 400001, 1000000, 1000001, math.MaxInt64}
	tokens := []string{"load", "start", "call", "run", "get", "set", "make", "index", "store", "next", "len", "stats", "pairs", "look", "tab", "fun", "lib", "nil", "true", "x", "f", "print", "'x = {} function f(a) return a end'", "''", "'\\xff'", "-", "1", "2", "0", "65537", "0xffffffffffffffff", "9223372036854775807", "=", "'", "\"", "\\", "\n", "\n", "\n", "\xff", "--", "\x00", "~", "é"}
	texts := []string{"", strings.Repeat("look\n", 1000), strings.Repeat("'", 2000), strings.Repeat("\\", 2000), strings.Repeat("1 ", 1000), "call" + strings.Repeat(" 1", 990), strings.Repeat("\n", 10000000), strings.Repeat("x", 10000000), strings.Repeat("\xff\n", 1000), "load '" + strings.Repeat("(", 1990) + "'", "load '" + strings.Repeat("do ", 660) + "'"}
	for range 20000 {
		var text strings.Builder
		for range r.Intn(40) {
			text.WriteString(tokens[r.Intn(len(tokens))])
			text.WriteString([]string{" ", " ", " ", ""}[r.Intn(4)])
		}
		texts = append(texts, text.String())
	}
	for range 5000 {
		text := make([]byte, r.Intn(200))
		for i := range text {
			text[i] = byte(r.Intn(256))
		}
		texts = append(texts, string(text))
	}
	for i, text := range texts {
		fuel, cells := all[i%10], all[i/10%10]
		if i%3 == 0 {
			fuel, cells = 1000, 1000
		}
		lines, e := shell.Run(fuel, cells, text)
		wide := fuel < 0 || fuel > 1000000 || cells < 0 || cells > 400000
		if (e == api.ErrArg) != wide || e != api.OK && len(lines) > 0 {
			t.Errorf("Run(%d, %d, %.60q): %d lines, %d", fuel, cells, text, len(lines), e)
		}
	}
	for _, kind := range append(all, 2, 3, 4, 5, 6, 7) {
		for _, n := range all {
			for _, s := range []string{"", "a", "\xff", strings.Repeat("x", 10000), strings.Repeat("\x00", 10001), strings.Repeat("x", 1000000)} {
				v := api.Val{Kind: kind, N: n, S: s}
				if (shell.Value(v) == "") != (box.Check(v) != api.OK) {
					t.Errorf("Value(%.60v) = %.60q", v, shell.Value(v))
				}
			}
		}
	}
}

// With all the fuel and cells that there may be, what would go on for ever ends, and the lines behind it are answered.
func TestEnds_P1(t *testing.T) {
	for src, want := range map[string]string{
		"while true do end":                                      "error 11",
		"function f() return f() end f()":                        "error 10",
		"while true do print() end":                              "error 14",
		"local t = {} while true do t[#t + 1] = t end":           "error 10",
		"x = {} for i = 1, 60000 do x[i] = i end return nil + 1": "error 8",
	} {
		got := ran(t, 1000000, 400000, "load \""+src+"\"\nstart\nlook\nlook\nmake 0 0\nget x")
		if got[0] != "ok" || got[1] != want || !strings.HasSuffix(got[2], " err "+want[6:]+" line 1") || got[len(got)-3] != "ret" {
			t.Errorf("%s: %.300q", src, got)
		}
		if prints := strings.Count(strings.Join(got, "\n"), "\nprint \"\""); strings.Contains(src, "print") != (prints == 100000) {
			t.Errorf("%s: %d lines were printed", src, prints)
		}
	}
}

// An answer is new memory: written over, its spare room too, it changes no other one, and what is answered hangs on nothing else.
func TestMemory_R3(t *testing.T) {
	w := writer{rand.New(rand.NewSource(9))}
	for range 200 {
		text := strings.Join(w.lines(w.ops(40)), "\n")
		one, two := ran(t, 300, 300, text), ran(t, 300, 300, text)
		want := slices.Clone(one)
		one = one[:cap(one)]
		for i := range one {
			one[i] = "spoilt"
		}
		shell.Run(300, 300, "load 'x ='\n"+text)
		if three := ran(t, 300, 300, text); !slices.Equal(two, want) || !slices.Equal(three, want) {
			t.Fatalf("%q: %q, %q, want %q", text, two, three, want)
		}
	}
}
