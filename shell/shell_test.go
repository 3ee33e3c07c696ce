package shell_test

import (
	"math"
	"slices"
	"strings"
	"testing"

	"trestle/api"
	"trestle/shell"
)

// ran: the lines of the replies to the lines of a text.
func ran(t *testing.T, fuel, cells int, text string) []string {
	t.Helper()
	lines, e := shell.Run(fuel, cells, text)
	if e != api.OK {
		t.Fatalf("%.200q: %d", text, e)
	}
	return lines
}

// row is a line and the lines of its reply.
type row struct {
	line string
	want []string
}

func says(line string, want ...string) row { return row{line, want} }

// hold: the rows, one behind the other on one machine; up to the first one that isn't answered so.
func hold(t *testing.T, fuel, cells int, rows ...row) {
	t.Helper()
	var lines []string
	for _, r := range rows {
		lines = append(lines, r.line)
	}
	text := strings.Join(lines, "\n")
	for _, text := range []string{text, text + "\n"} {
		got := ran(t, fuel, cells, text)
		for _, r := range rows {
			n := min(len(r.want), len(got))
			if !slices.Equal(got[:n], r.want) {
				t.Fatalf("%.200q: %.400q, want %.400q", r.line, got[:n], r.want)
			}
			got = got[n:]
		}
		if len(got) > 0 {
			t.Fatalf("%.200q: %.400q at the end", text, got)
		}
	}
}

func TestExamples_P20_1(t *testing.T) {
	hold(t, 100, 100,
		says("load \"x = {1} print('a\\\\tb')\"", "ok"),
		says("start", "ok"),
		says("get x", "ok tab 1"),
		says("len tab 1", "ok 1"),
		says("look", "ok fuel 97 cells 5 tables 1 probes 0 err 0 line 0", "print \"a\\009b\"", "ret"),
	)
	for line, want := range map[string][]string{
		"load \"x =\"": {"error 4 at 3"},
		"load x":       {"error 16 at 5"},
		"index tab 1":  {"error 16 at 11"},
		"get":          {"error 16 at 3"},
		"len 5":        {"error 8"},
		"go":           {"error 16 at 0"},
		"'":            {"error 4 at 0"},
		" -- nothing":  nil,
	} {
		hold(t, 100, 100, says(line, want...))
	}
	hold(t, 100, 100, says("load 'x = {5}'", "ok"), says("start", "ok"), says("len tab 1", "ok 1"))
}

// The errors of Run itself, in their order; beside them there are no lines.
func TestErrorsOfRun_P20_1(t *testing.T) {
	const most, more = 1000, 1001
	for i, c := range []struct {
		fuel, cells int
		text        string
		want        api.Errno
		lines       int
	}{
		{0, 0, "", api.OK, 0}, {0, 0, "start", api.OK, 1}, {1000000, 400000, "start", api.OK, 1},
		{-1, 0, "", api.ErrArg, 0}, {1000001, 0, "", api.ErrArg, 0}, {0, -1, "start", api.ErrArg, 0}, {0, 400001, "start", api.ErrArg, 0},
		{math.MinInt64, math.MaxInt64, strings.Repeat("start\n", more), api.ErrArg, 0}, {0, 400001, strings.Repeat("\n", more), api.ErrArg, 0},
		{0, 0, strings.Repeat("\n", most), api.OK, 0}, {0, 0, strings.Repeat("\n", more), api.ErrBig, 0},
		{0, 0, strings.Repeat("start\n", most), api.OK, most}, {0, 0, strings.Repeat("start\n", more), api.ErrBig, 0},
		{0, 0, strings.Repeat("start\n", most-1) + "start", api.OK, most}, {0, 0, strings.Repeat("start\n", most) + "start", api.ErrBig, 0},
		{0, 0, strings.Repeat("start\n", most) + " ", api.ErrBig, 0}, {0, 0, strings.Repeat("-- a remark\n", most) + "go", api.ErrBig, 0},
		{0, 0, strings.Repeat("go\n", most), api.OK, most}, {0, 0, strings.Repeat("start\r", most), api.OK, 1},
	} {
		lines, e := shell.Run(c.fuel, c.cells, c.text)
		if e != c.want || len(lines) != c.lines {
			t.Errorf("row %d: %d lines, %d, want %d, %d", i, len(lines), e, c.lines, c.want)
		}
	}
}

// Lines are what stands between newlines; a return is a blank, and so is a tab.
func TestLines_P20_1(t *testing.T) {
	for text, want := range map[string][]string{
		"": nil, "\n": nil, "\n\n\n": nil, " \t\r": nil, "--": nil, "-- start": nil, "--\nstart": {"error 1"},
		"start": {"error 1"}, "start\n": {"error 1"}, "start\n\n": {"error 1"}, "\nstart": {"error 1"}, "start\r\nstart\r\n": {"error 1", "error 1"},
		"\t start -- it\nstart": {"error 1", "error 1"}, "start\rstart": {"error 16 at 6"}, "start\x00": {"error 4 at 5"},
		"load 'x\n= 1'": {"error 4 at 5", "error 4 at 3"}, "load 'x\\n= 1'": {"ok"}, "load '\\\n'": {"error 4 at 5", "error 4 at 0"},
		"get\nx": {"error 16 at 3", "error 16 at 0"}, "get -- x": {"error 16 at 8"}, "get --\nx": {"error 16 at 6", "error 16 at 0"}, "\ufeffstart": {"error 16 at 0"}, "\u00a0start": {"error 16 at 0"},
	} {
		if got := ran(t, 9, 9, text); !slices.Equal(got, want) {
			t.Errorf("%q: %q, want %q", text, got, want)
		}
	}
}

// wide: the line with so many bytes, filled up with blanks.
func wide(line string, size int) string { return line + strings.Repeat(" ", size-len(line)) }

// A line of 2000 bytes is one, of 2001 none, whatever stands in it.
func TestLongLine_P20_1(t *testing.T) {
	letters := strings.Repeat("a", 1992)
	hold(t, 100, 100,
		says(wide("make 0 0", 2000), "ok tab 1"),
		says(wide("make 0 0", 2001), "error 14 at -1"),
		says(wide("", 2000)),
		says(wide("", 2001), "error 14 at -1"),
		says(wide("--", 2000)),
		says(wide("--", 2001), "error 14 at -1"),
		says(wide("'", 2000), "error 4 at 0"),
		says(wide("'", 2001), "error 14 at -1"),
		says(wide("make 0 0", 1000000), "error 14 at -1"),
		says(wide("get", 2000), "error 16 at 2000"),
		says("len '"+letters+"a'", "error 8"),
		says("len '"+letters+"aa'", "error 8"),
		says("len '"+letters+"aaa'", "error 14 at -1"),
		says("look", "ok fuel 100 cells 4 tables 1 probes 0 err 0 line 0", "ret"),
	)
}

// What lex refuses is refused so, with its place in the line.
func TestScan_P20_1(t *testing.T) {
	name := strings.Repeat("n", 40)
	hold(t, 100, 100,
		says("start ~", "error 4 at 6"),
		says("len \"a\\q\"", "error 4 at 6"),
		says("len 'a", "error 4 at 4"),
		says("go go 1x", "error 4 at 6"),
		says("go '", "error 4 at 3"),
		says("\xff", "error 4 at 0"),
		says("len 9223372036854775808", "error 14 at 4"),
		says("len 9223372036854775807", "error 8"),
		says("len -9223372036854775808", "error 14 at 5"),
		says("get "+name, "ok nil"),
		says("get "+name+"n", "error 14 at 4"),
		says(name+"n", "error 14 at 0"),
		says("get x:y", "error 4 at 5"),
	)
}

// Each command on a table, by hand.
func TestTables_P20_1(t *testing.T) {
	hold(t, 100, 100,
		says("make 1 2", "ok tab 1"),
		says("make - 1 0", "error 1"),
		says("make 0 -1", "error 1"),
		says("make 0x2 00", "ok tab 2"),
		says("make - 0 -0", "ok tab 3"),
		says("make 0 100", "error 10"),
		says("make 65537 0", "error 1"),
		says("make -0xfffffffffffffffe 0xffffffffffffffff", "error 1"),
		says("make -0xffffffffffffffff 0", "ok tab 4"),
		says("store tab 1 'k' - 5", "ok"),
		says("store tab 1 1 true", "ok"),
		says("store tab 1 tab 2 lib 23", "ok"),
		says("store tab 1 nil 1", "error 9"),
		says("store tab 1 1 fun 1", "error 2"),
		says("store 1 1 1", "error 8"),
		says("pairs tab 1", "ok 1 true \"k\" -5 tab 2 lib 23"),
		says("next tab 1 nil", "ok 1 true"),
		says("next tab 1 1", "ok \"k\" -5"),
		says("next tab 1 'k'", "ok tab 2 lib 23"),
		says("next tab 1 tab 2", "ok nil nil"),
		says("next tab 1 'l'", "error 9"),
		says("next tab 9 'l'", "error 2"),
		says("index tab 1 'k'", "ok -5"),
		says("index tab 1'k'", "ok -5"),
		says("index tab 1 \"\\x6b\"", "ok -5"),
		says("index tab 0x1 tab 2", "ok lib 23"),
		says("index tab 1 false", "ok nil"),
		says("index tab 1 nil", "ok nil"),
		says("index tab 0 1", "error 2"),
		says("index tab 0xffffffffffffffff 1", "error 2"),
		says("index true tab 1", "error 8"),
		says("index lib 24 1", "error 2"),
		says("index fun 1 1", "error 2"),
		says("len tab 1", "ok 1"),
		says("len tab 2", "ok 0"),
		says("len nil", "error 8"),
		says("len lib 1", "error 8"),
		says("len tab 5", "error 2"),
		says("stats tab 2", "ok 2 0 0 0 0"),
		says("stats 'tab'", "error 8"),
		says("store tab 2 1 'a'", "ok"),
		says("len tab 2", "ok 1"),
		says("stats tab 2", "ok 2 0 0 1 0"),
		says("pairs tab 4", "ok"),
		says("pairs 4", "error 8"),
		says("look", "ok fuel 100 cells 26 tables 4 probes 15 err 0 line 0", "ret"),
	)
}

// What a program's functions and globals are asked, by hand.
func TestPrograms_P20_1(t *testing.T) {
	hold(t, 100, 100,
		says("start", "error 1"),
		says("call lib 1", "error 1"),
		says("run print", "error 1"),
		says("get print", "ok nil"),
		says("set x 1", "error 1"),
		says("load 'x = table'", "error 5 at 4"),
		says("load \"function f(a, b) print(a) return b, a end tab = print return 5, 'a\\\\n', nil, true, tab, f, {}\"", "ok"),
		says("load ''", "error 1 at -1"),
		says("load 'x ='", "error 4 at 3"),
		says("get tab", "ok nil"),
		says("start", `ok 5 "a\n" nil true lib 1 fun 1 tab 1`),
		says("get tab", "ok lib 1"),
		says("run f -1 'b'", "ok \"b\" -1"),
		says("run f", "ok nil nil"),
		says("run tab tab 1 - 1", "ok"),
		says("call fun 1", "ok nil nil"),
		says("call fun 1 1-2 3", "ok -2 1"),
		says("call fun 2", "error 2"),
		says("call fun 0", "error 2"),
		says("call lib 2 nil", "ok \"nil\""),
		says("call 5", "error 13"),
		says("call nil nil", "error 13"),
		says("run nobody", "error 13"),
		says("run f tab 2", "error 2"),
		says("run f"+strings.Repeat(" 1", 200), "ok 1 1"),
		says("run f"+strings.Repeat(" 1", 201), "error 14"),
		says("call fun 1"+strings.Repeat(" 1", 200), "ok 1 1"),
		says("call fun 1"+strings.Repeat(" 1", 201), "error 14"),
		says("set tab \"\\xff\\u{e9}\\0\"", "ok"),
		says("get tab", "ok \"\\xffé\\000\""),
		says("set tab tab 1", "ok"),
		says("get tab", "ok tab 1"),
		says("set tab tab 2", "error 2"),
		says("set q tab 2", "error 2"),
		says("set q 1", "error 5"),
		says("get q", "ok nil"),
		says("set f false", "ok"),
		says("get f", "ok false"),
	)
}

// A look tells what was printed since the look ahead, whatever stands between, and what the last Start or Call came to.
func TestLook_P20_1(t *testing.T) {
	hold(t, 100, 100,
		says("look", "ok fuel 100 cells 0 tables 0 probes 0 err 0 line 0", "ret"),
		says("load \"print('a') print() print(1, nil)\\nfunction f(a) print(a)\\nreturn a, a .. 'b' end\\nreturn {}\"", "ok"),
		says("look", "ok fuel 100 cells 0 tables 0 probes 0 err 0 line 0", "ret"),
		says("start", "ok tab 1"),
		says("look", "ok fuel 92 cells 4 tables 1 probes 0 err 0 line 0", `print "a"`, `print ""`, `print "1\009nil"`, "ret tab 1"),
		says("look", "ok fuel 92 cells 4 tables 1 probes 0 err 0 line 0", "ret tab 1"),
		says("run f 'x'", "ok \"x\" \"xb\""),
		says("look look", "error 16 at 5"),
		says("run f 'y\\n'", "ok \"y\\n\" \"y\\nb\""),
		says("look", "ok fuel 84 cells 6 tables 1 probes 0 err 0 line 0", `print "x"`, `print "y\n"`, `ret "y\n" "y\nb"`),
		says("run f nil", "error 8"),
		says("look", "ok fuel 80 cells 6 tables 1 probes 0 err 8 line 3", `print "nil"`, "ret"),
		says("call 5", "error 13"),
		says("look", "ok fuel 80 cells 6 tables 1 probes 0 err 13 line 0", "ret"),
		says("run f tab 9", "error 2"),
		says("look", "ok fuel 80 cells 6 tables 1 probes 0 err 2 line 0", "ret"),
	)
}

// filler: a program that makes texts of any length, and prints them.
const filler = `load "function of(n) local t = {} for i = 1, n do t[i] = 'a' end return table.concat(t) end function tell(n) print(of(n)) end function both(a, b) return of(a), of(b) end function marks(n) local t = {} for i = 1, n do t[i] = utf8.char(1) end return table.concat(t) end"`

// A line of a reply has at most 10000 bytes; one that would have more is error 14, and the lines beside it are told.
func TestLongReply_P20_1(t *testing.T) {
	as := func(n int) string { return `"` + strings.Repeat("a", n) + `"` }
	marks := `"` + strings.Repeat(`\001`, 2498) + `"`
	hold(t, 1000000, 400000,
		says(filler, "ok"),
		says("start", "ok"),
		says("run of 9995", "ok "+as(9995)),
		says("run of 9996", "error 14"),
		says("run both 4996 4996", "ok "+as(4996)+" "+as(4996)),
		says("run both 4996 4997", "error 14"),
		says("run both 10000 0", "error 14"),
		says("run marks 2498", "ok "+marks),
		says("run marks 2499", "error 14"),
		says("run of 10001", "error 14"),
		says("make 0 0", "ok tab 12"),
		says("run of 0", "ok \"\""),
	)
	// A call of of makes 3 * n + 5 steps, and a table of 4 and 16384 cells beside its text.
	hold(t, 1000000, 400000,
		says(filler, "ok"),
		says("start", "ok"),
		says("run tell 9992", "ok"),
		says("run tell 9993", "ok"),
		says("run tell 1", "ok"),
		says("call lib 1"+strings.Repeat(" 1", 200), "ok"),
		says("call fun 1 9994", "ok "+as(9994)),
		says("look", "ok fuel 910026 cells 52920 tables 4 probes 0 err 0 line 0", "print "+as(9992), "error 14", "print \"a\"", "print \"1"+strings.Repeat(`\0091`, 199)+`"`, "ret "+as(9994)),
		says("call fun 1 9995", "ok "+as(9995)),
		says("look", "ok fuel 880036 cells 70558 tables 5 probes 0 err 0 line 0", "error 14"),
		says("run of 0", "ok \"\""),
		says("look", "ok fuel 880031 cells 70563 tables 6 probes 0 err 0 line 0", "ret \"\""),
	)
}

func TestValue_P20_1(t *testing.T) {
	long := strings.Repeat("a", 10000)
	for _, c := range []struct {
		v    api.Val
		want string
	}{
		{api.Val{}, "nil"}, {api.Val{Kind: api.Bool}, "false"}, {api.Val{Kind: api.Bool, N: 1}, "true"},
		{api.Val{Kind: api.Int}, "0"}, {api.Val{Kind: api.Int, N: -3}, "-3"}, {api.Val{Kind: api.Int, N: math.MaxInt64}, "9223372036854775807"}, {api.Val{Kind: api.Int, N: math.MinInt64}, "-9223372036854775808"},
		{api.Val{Kind: api.Str}, `""`}, {api.Val{Kind: api.Str, S: "nil"}, `"nil"`}, {api.Val{Kind: api.Str, S: "a'\"\\\n\r\t\x7f\xffé"}, `"a'\"\\\n\r\009\127\xffé"`}, {api.Val{Kind: api.Str, S: long}, `"` + long + `"`},
		{api.Val{Kind: api.Tab, N: 1}, "tab 1"}, {api.Val{Kind: api.Fun, N: 20}, "fun 20"}, {api.Val{Kind: api.Lib, N: 9}, "lib 9"}, {api.Val{Kind: api.Lib, N: math.MaxInt64}, "lib 9223372036854775807"},
		{api.Val{N: 1}, ""}, {api.Val{S: "a"}, ""}, {api.Val{Kind: api.Bool, N: 2}, ""}, {api.Val{Kind: api.Bool, N: -1}, ""}, {api.Val{Kind: api.Int, S: "a"}, ""}, {api.Val{Kind: api.Str, N: 1}, ""}, {api.Val{Kind: api.Str, S: long + "a"}, ""},
		{api.Val{Kind: api.Tab}, ""}, {api.Val{Kind: api.Fun, N: -1}, ""}, {api.Val{Kind: api.Lib, N: 1, S: "a"}, ""}, {api.Val{Kind: 7}, ""}, {api.Val{Kind: -1}, ""}, {api.Val{Kind: math.MaxInt64}, ""},
	} {
		if got := shell.Value(c.v); got != c.want {
			t.Errorf("Value(%.60v) = %.60q, want %.60q", c.v, got, c.want)
		}
	}
}
