package gen_test

import (
	"math/rand"
	"slices"
	"strconv"
	"strings"
	"testing"

	"trestle/api"
	"trestle/check"
	"trestle/gen"
	"trestle/lex"
	"trestle/parse"
)

func ofName(at int) api.Fail { return api.Fail{Code: api.ErrName, At: at} }
func ofSize(at int) api.Fail { return api.Fail{Code: api.ErrSize, At: at} }
func ofText(at int) api.Fail { return api.Fail{Code: api.ErrText, At: at} }

func number(n int) api.Val  { return api.Val{Kind: api.Int, N: n} }
func text(s string) api.Val { return api.Val{Kind: api.Str, S: s} }

func sameUnit(u, v gen.Unit) bool {
	return u.Name == v.Name && u.Params == v.Params && u.Slots == v.Slots && slices.Equal(u.Consts, v.Consts) && slices.Equal(u.Code, v.Code)
}

func sameProgram(p, q gen.Program) bool {
	return slices.Equal(p.Globals, q.Globals) && slices.EqualFunc(p.Units, q.Units, sameUnit)
}

// onOneLine: the program with each Line 1.
func onOneLine(p gen.Program) gen.Program {
	q := gen.Program{Globals: p.Globals, Units: slices.Clone(p.Units)}
	for i := range q.Units {
		code := slices.Clone(q.Units[i].Code)
		for j := range code {
			if code[j].Op == gen.Line {
				code[j].A = 1
			}
		}
		q.Units[i].Code = code
	}
	return q
}

// hasNegative: an Int below 0: the plain form writes it so that it is read as something else.
func hasNegative(n node) bool {
	return n.Kind == parse.Int && n.N < 0 || slices.ContainsFunc(n.Kids, hasNegative)
}

// checkPlain: P14.3 for a text that has code.
func checkPlain(t *testing.T, src string, p gen.Program) {
	t.Helper()
	plain, fail := parse.Text(src)
	if tree, _ := parse.Parse(src); fail != (api.Fail{}) || len(plain) > api.MaxText || hasNegative(tree) {
		return
	}
	q, fail := gen.Gen(plain)
	if fail != (api.Fail{}) || !sameProgram(q, onOneLine(p)) {
		t.Fatalf("P14.3: Gen(%.400q) = %v, %v; its plain form's %v", src, p, fail, q)
	}
}

// checkGen: what holds of every text.
func checkGen(t *testing.T, src string) (gen.Program, api.Fail) {
	t.Helper()
	p, fail := gen.Gen(src)
	want, wantFail := genByHand(src)
	if fail != wantFail || !sameProgram(p, want) {
		t.Fatalf("P14.1: Gen(%.400q) = %v, %v, want %v, %v", src, p, fail, want, wantFail)
	}
	if fail != (api.Fail{}) {
		return p, fail
	}
	if fault := faultOf(src, p); fault != "" {
		t.Fatalf("P14.2: Gen(%.400q): %s; %v", src, fault, p)
	}
	checkPlain(t, src, p)
	return p, fail
}

// wantCode: the code of a unit, its instructions with a ";" between two.
func wantCode(t *testing.T, src string, unit int, want string) {
	t.Helper()
	p, fail := checkGen(t, src)
	if fail != (api.Fail{}) || unit >= len(p.Units) {
		t.Errorf("Gen(%q): %d units, %v", src, len(p.Units), fail)
		return
	}
	if code := numbered(strings.Split(want, ";")); !slices.Equal(p.Units[unit].Code, code) {
		t.Errorf("Gen(%q): unit %d is %v, want %v", src, unit, p.Units[unit].Code, code)
	}
}

// The instructions' numbers stand in package gen as in the chapter.
func TestInstructions_P14_1(t *testing.T) {
	for i, op := range []int{gen.Line, gen.Const, gen.Nil, gen.True, gen.False, gen.Local, gen.SetLocal, gen.Global, gen.SetGlob, gen.Lib, gen.Fun, gen.Index, gen.Put, gen.Copy, gen.Pop, gen.Unary, gen.Binary, gen.Jump, gen.JumpNot, gen.And, gen.Or, gen.Mark, gen.Adjust, gen.Call, gen.Return, gen.Table, gen.Field, gen.Batch, gen.Rest, gen.ForPrep, gen.ForLoop, gen.InPrep, gen.InNext, gen.Turn} {
		if op != i+1 {
			t.Errorf("instruction %d is %d", i+1, op)
		}
	}
	if len(numbers) != 34 {
		t.Errorf("%d instructions", len(numbers))
	}
}

func TestExamples_P14_1(t *testing.T) {
	wantCode(t, "x = 1", 0, "Line 1; Const 1; Copy 0; SetGlob 1; Pop 1; Mark; Return")
	wantCode(t, "return f(a, g())", 0, "Line 1; Mark; Global 1; Mark; Global 2; Global 3; Mark; Call -1; Call -1; Return; Mark; Return")
	wantCode(t, "while x do break end", 0, "Line 1; Global 1; JumpNot 7; Turn; Line 1; Jump 7; Jump 1; Mark; Return")
	for _, src := range []string{"", " ", ";", ";;\n;", "--c", "\n\n"} {
		wantCode(t, src, 0, "Mark; Return")
	}
}

// Each expression behind a return: the code between its Mark and the Return.
func TestExpressions_P14_1(t *testing.T) {
	for src, want := range map[string]string{
		"nil": "Nil", "true": "True", "false": "False", "5": "Const 1", "'a'": "Const 1", "7, 'a', 7, '7', 'a', 0x7": "Const 1; Const 2; Const 1; Const 3; Const 2; Const 1",
		"x": "Global 1", "x, y, x": "Global 1; Global 2; Global 1", "print": "Global 1", "x, tostring, sort": "Global 1; Global 2; Global 3",
		"table.sort": "Lib 17", "table['insert'], utf8.len, utf8.codes": "Lib 12; Lib 18; Lib 22", "(table.concat)": "Lib 14", "table.move.x": "Lib 16; Const 1; Index", "table.sort['sort']": "Lib 17; Const 1; Index",
		"x.y": "Global 1; Const 1; Index", "x.y.z": "Global 1; Const 1; Index; Const 2; Index", "x[y[1]]": "Global 1; Global 2; Const 1; Index; Index", "x.sort, x.table.sort": "Global 1; Const 1; Index; Global 1; Const 2; Index; Const 1; Index", "('a').len": "Const 1; Const 2; Index",
		"f()": "Global 1; Mark; Call -1", "f(), 1": "Global 1; Mark; Call 1; Const 1", "1, f()": "Const 1; Global 1; Mark; Call -1", "f(), f()": "Global 1; Mark; Call 1; Global 1; Mark; Call -1", "(f())": "Global 1; Mark; Call 1", "((f()))": "Global 1; Mark; Call 1", "(f)()": "Global 1; Mark; Call -1",
		"f(1, nil)": "Global 1; Mark; Const 1; Nil; Call -1", "f(g(), g())": "Global 1; Mark; Global 2; Mark; Call 1; Global 2; Mark; Call -1; Call -1", "f((g()))": "Global 1; Mark; Global 2; Mark; Call 1; Call -1", "f(g().x)": "Global 1; Mark; Global 2; Mark; Call 1; Const 1; Index; Call -1",
		"f()(1)(g())": "Global 1; Mark; Call 1; Mark; Const 1; Call 1; Mark; Global 2; Mark; Call -1; Call -1", "f().x": "Global 1; Mark; Call 1; Const 1; Index", "x.f(1)": "Global 1; Const 1; Index; Mark; Const 2; Call -1", "table.unpack(x)": "Lib 15; Mark; Global 1; Call -1", "x[f()]": "Global 1; Global 2; Mark; Call 1; Index",
		"-f()": "Global 1; Mark; Call 1; Unary 3", "f() + g()": "Global 1; Mark; Call 1; Global 2; Mark; Call 1; Binary 1", "f(-g())": "Global 1; Mark; Global 2; Mark; Call 1; Unary 3; Call -1",
		"not x": "Global 1; Unary 1", "#x": "Global 1; Unary 2", "-x": "Global 1; Unary 3", "- -1": "Const 1; Unary 3; Unary 3", "not #x": "Global 1; Unary 2; Unary 1",
		"1 - 2 * 3": "Const 1; Const 2; Const 3; Binary 3; Binary 2", "(1 - 2) * 3": "Const 1; Const 2; Binary 2; Const 3; Binary 3", "x .. y .. z": "Global 1; Global 2; Global 3; Binary 6; Binary 6", "x - y - z": "Global 1; Global 2; Binary 2; Global 3; Binary 2",
		// The numbers of jumps: Line and Mark stand ahead.
		"x and y": "Global 1; And 5; Global 2", "x or y": "Global 1; Or 5; Global 2", "x and y and z": "Global 1; And 5; Global 2; And 7; Global 3", "x and (y and z)": "Global 1; And 7; Global 2; And 7; Global 3", "x or y and z": "Global 1; Or 7; Global 2; And 7; Global 3", "(x or y) and z": "Global 1; Or 5; Global 2; And 7; Global 3", "x and f()": "Global 1; And 7; Global 2; Mark; Call 1", "not (x or 1) == y": "Global 1; Or 5; Const 1; Unary 1; Global 2; Binary 7", "f(x or 1)": "Global 1; Mark; Global 2; Or 7; Const 1; Call -1",
		"{}": "Table 0 0", "": "",
	} {
		wantCode(t, "return "+src, 0, "Line 1; Mark; "+want+"; Return; Mark; Return")
	}
	for i, sign := range strings.Fields("+ - * // % .. == ~= < <= > >=") {
		wantCode(t, "return x "+sign+" 1", 0, "Line 1; Mark; Global 1; Const 1; Binary "+strconv.Itoa(i+1)+"; Return; Mark; Return")
	}
	for name, n := range map[string]int{"table.insert": 12, "table.remove": 13, "table.concat": 14, "table.unpack": 15, "table.move": 16, "table.sort": 17, "utf8.len": 18, "utf8.char": 19, "utf8.codepoint": 20, "utf8.offset": 21, "utf8.codes": 22} {
		wantCode(t, "return "+name, 0, "Line 1; Mark; Lib "+strconv.Itoa(n)+"; Return; Mark; Return")
	}
}

func TestTables_P14_1(t *testing.T) {
	items := func(n int) string { return many(n, ",", "nil") }
	nils := func(n int) string { return many(n, ";", "Nil") }
	for src, want := range map[string]string{
		"{1}": "Table 1 0; Const 1; Batch 1 1", "{1, 2; 3,}": "Table 3 0; Const 1; Const 2; Const 3; Batch 3 1", "{x = 1}": "Table 0 1; Const 1; Const 2; Field 0", "{[x] = y; [1] = nil}": "Table 0 2; Global 1; Global 2; Field 0; Const 1; Nil; Field 0",
		"{nil, x = 1, nil, y = 2}": "Table 2 2; Nil; Const 1; Const 2; Field 1; Nil; Const 3; Const 4; Field 2; Batch 2 1",
		"{f()}":                    "Table 0 0; Mark; Global 1; Mark; Call -1; Rest 1", "{f(),}": "Table 0 0; Mark; Global 1; Mark; Call -1; Rest 1", "{(f())}": "Table 1 0; Global 1; Mark; Call 1; Batch 1 1", "{f(), nil}": "Table 2 0; Global 1; Mark; Call 1; Nil; Batch 2 1", "{f(), x = 1}": "Table 1 1; Global 1; Mark; Call 1; Const 1; Const 2; Field 1; Batch 1 1", "{x = f()}": "Table 0 1; Const 1; Global 1; Mark; Call 1; Field 0", "{[f()] = f()}": "Table 0 1; Global 1; Mark; Call 1; Global 1; Mark; Call 1; Field 0", "{-f()}": "Table 1 0; Global 1; Mark; Call 1; Unary 3; Batch 1 1",
		"{nil, f()}": "Table 1 0; Nil; Batch 1 1; Mark; Global 1; Mark; Call -1; Rest 2", "{x = 1, f()}": "Table 0 1; Const 1; Const 2; Field 0; Mark; Global 1; Mark; Call -1; Rest 1", "{nil, x = 1, f(g())}": "Table 1 1; Nil; Const 1; Const 2; Field 1; Batch 1 1; Mark; Global 1; Mark; Global 2; Mark; Call -1; Call -1; Rest 2",
		"{{}, {{nil}}}":       "Table 2 0; Table 0 0; Table 1 0; Table 1 0; Nil; Batch 1 1; Batch 1 1; Batch 2 1",
		"{" + items(49) + "}": "Table 49 0; " + nils(49) + "; Batch 49 1", "{" + items(50) + "}": "Table 50 0; " + nils(50) + "; Batch 50 1", "{" + items(51) + "}": "Table 51 0; " + nils(50) + "; Batch 50 1; Nil; Batch 1 51", "{" + items(100) + "}": "Table 100 0; " + nils(50) + "; Batch 50 1; " + nils(50) + "; Batch 50 51", "{" + items(200) + "}": "Table 200 0; " + nils(50) + "; Batch 50 1; " + nils(50) + "; Batch 50 51; " + nils(50) + "; Batch 50 101; " + nils(50) + "; Batch 50 151",
		"{" + items(49) + ", x = nil, nil}": "Table 50 1; " + nils(49) + "; Const 1; Nil; Field 49; Nil; Batch 50 1", "{" + items(50) + ", x = nil}": "Table 50 1; " + nils(50) + "; Batch 50 1; Const 1; Nil; Field 0", "{" + items(51) + ", x = nil, nil}": "Table 52 1; " + nils(50) + "; Batch 50 1; Nil; Const 1; Nil; Field 1; Nil; Batch 2 51",
		"{" + items(49) + ", f()}": "Table 49 0; " + nils(49) + "; Batch 49 1; Mark; Global 1; Mark; Call -1; Rest 50", "{" + items(50) + ", f()}": "Table 50 0; " + nils(50) + "; Batch 50 1; Mark; Global 1; Mark; Call -1; Rest 51", "{" + items(51) + ", f()}": "Table 51 0; " + nils(50) + "; Batch 50 1; Nil; Batch 1 51; Mark; Global 1; Mark; Call -1; Rest 52", "{" + items(199) + ", f()}": "Table 199 0; " + nils(50) + "; Batch 50 1; " + nils(50) + "; Batch 50 51; " + nils(50) + "; Batch 50 101; " + nils(49) + "; Batch 49 151; Mark; Global 1; Mark; Call -1; Rest 200",
		"{" + items(49) + ", f(), nil}": "Table 51 0; " + nils(49) + "; Global 1; Mark; Call 1; Batch 50 1; Nil; Batch 1 51",
	} {
		wantCode(t, "return "+src, 0, "Line 1; Mark; "+want+"; Return; Mark; Return")
	}
	wantCode(t, "return {"+many(200, ",", "x = nil")+"}", 0, "Line 1; Mark; Table 0 200; "+many(200, ";", "Const 1; Nil; Field 0")+"; Return; Mark; Return")
}

func TestLocals_P14_1(t *testing.T) {
	for src, want := range map[string]string{
		"local a": "Line 1; Nil; SetLocal 1", "local a, b": "Line 1; Nil; Nil; SetLocal 2; SetLocal 1", "local a = nil": "Line 1; Nil; SetLocal 1", "local a, b = 1, 2": "Line 1; Const 1; Const 2; SetLocal 2; SetLocal 1", "local a, b = 1": "Line 1; Mark; Const 1; Adjust 2; SetLocal 2; SetLocal 1", "local a = 1, 2": "Line 1; Mark; Const 1; Const 2; Adjust 1; SetLocal 1",
		"local a = f()": "Line 1; Global 1; Mark; Call 1; SetLocal 1", "local a, b = f()": "Line 1; Mark; Global 1; Mark; Call -1; Adjust 2; SetLocal 2; SetLocal 1", "local a, b = (f())": "Line 1; Mark; Global 1; Mark; Call 1; Adjust 2; SetLocal 2; SetLocal 1", "local a, b = 1, f()": "Line 1; Const 1; Global 1; Mark; Call 1; SetLocal 2; SetLocal 1", "local a, b, c = 1, f()": "Line 1; Mark; Const 1; Global 1; Mark; Call -1; Adjust 3; SetLocal 3; SetLocal 2; SetLocal 1", "local a = f(), f()": "Line 1; Mark; Global 1; Mark; Call 1; Global 1; Mark; Call -1; Adjust 1; SetLocal 1", "local a, b = f(), 1, 2": "Line 1; Mark; Global 1; Mark; Call 1; Const 1; Const 2; Adjust 2; SetLocal 2; SetLocal 1",
		"local a = a": "Line 1; Global 1; SetLocal 1", "local a local a = a": "Line 1; Nil; SetLocal 1; Line 1; Local 1; SetLocal 2", "local a, a a = a": "Line 1; Nil; Nil; SetLocal 2; SetLocal 1; Line 1; Local 2; Copy 0; SetLocal 2; Pop 1", "local a local b = a, a": "Line 1; Nil; SetLocal 1; Line 1; Mark; Local 1; Local 1; Adjust 1; SetLocal 2",
		// What a block brings ends with it; its numbers are taken again.
		"local a do local a, b a = b end local c = a": "Line 1; Nil; SetLocal 1; Line 1; Line 1; Nil; Nil; SetLocal 3; SetLocal 2; Line 1; Local 3; Copy 0; SetLocal 2; Pop 1; Line 1; Local 1; SetLocal 2",
		"do local a end a = 1":                        "Line 1; Line 1; Nil; SetLocal 1; Line 1; Const 1; Copy 0; SetGlob 1; Pop 1",
		"do end":                                      "Line 1", "do do end end do end": "Line 1; Line 1; Line 1", "do local a do local b end end local c": "Line 1; Line 1; Nil; SetLocal 1; Line 1; Line 1; Nil; SetLocal 2; Line 1; Nil; SetLocal 1",
	} {
		wantCode(t, src, 0, want+"; Mark; Return")
	}
}

func TestAssigns_P14_1(t *testing.T) {
	for src, want := range map[string]string{
		"x, y = y, x": "Global 2; Global 1; Copy 1; SetGlob 1; Copy 0; SetGlob 2; Pop 2", "x = 1, 2": "Mark; Const 1; Const 2; Adjust 1; Copy 0; SetGlob 1; Pop 1", "x, y = 1": "Mark; Const 1; Adjust 2; Copy 1; SetGlob 1; Copy 0; SetGlob 2; Pop 2", "x, y = f()": "Mark; Global 3; Mark; Call -1; Adjust 2; Copy 1; SetGlob 1; Copy 0; SetGlob 2; Pop 2", "x = f()": "Global 2; Mark; Call 1; Copy 0; SetGlob 1; Pop 1", "x, x = 1, 2": "Const 1; Const 2; Copy 1; SetGlob 1; Copy 0; SetGlob 1; Pop 2",
		"x.y = 1": "Global 1; Const 1; Const 2; Put 1 0; Pop 3", "x[1] = 2": "Global 1; Const 1; Const 2; Put 1 0; Pop 3", "f().x = 1": "Global 1; Mark; Call 1; Const 1; Const 2; Put 1 0; Pop 3", "(x).y = 1": "Global 1; Const 1; Const 2; Put 1 0; Pop 3", "x.y.z = nil": "Global 1; Const 1; Index; Const 2; Nil; Put 1 0; Pop 3", "table.sort.x = nil": "Lib 17; Const 1; Nil; Put 1 0; Pop 3", "x[table.sort] = nil": "Global 1; Lib 17; Nil; Put 1 0; Pop 3",
		"x[1], y = nil, true": "Global 1; Const 1; Nil; True; Put 2 1; Copy 0; SetGlob 2; Pop 4", "x, y[1] = nil, true": "Global 2; Const 1; Nil; True; Copy 1; SetGlob 1; Put 2 0; Pop 4", "x[1], x[2] = nil, true": "Global 1; Const 1; Global 1; Const 2; Nil; True; Put 4 1; Put 2 0; Pop 6", "x[1], y, x[2], z, x[3] = f()": "Global 1; Const 1; Global 1; Const 2; Global 1; Const 3; Mark; Global 4; Mark; Call -1; Adjust 5; Put 9 4; Copy 3; SetGlob 2; Put 7 2; Copy 1; SetGlob 3; Put 5 0; Pop 11",
		"a.b, c, d[e] = 1, 2, 3": "Global 1; Const 1; Global 3; Global 4; Const 2; Const 3; Const 4; Put 5 2; Copy 1; SetGlob 2; Put 3 0; Pop 7",
		"x = x and y":            "Global 1; And 4; Global 2; Copy 0; SetGlob 1; Pop 1",
		"f()":                    "Global 1; Mark; Call 0", "f(1)(2)": "Global 1; Mark; Const 1; Call 1; Mark; Const 2; Call 0", "x.f(g())": "Global 1; Const 1; Index; Mark; Global 2; Mark; Call -1; Call 0", "table.sort(x)": "Lib 17; Mark; Global 1; Call 0", "(f)(g(), (g()))": "Global 1; Mark; Global 2; Mark; Call 1; Global 2; Mark; Call 1; Call 0",
		"return": "Mark; Return", "do return end": "Line 1; Mark; Return",
	} {
		wantCode(t, src, 0, "Line 1; "+want+"; Mark; Return")
	}
	wantCode(t, "local a a, x, a.y = a", 0, "Line 1; Nil; SetLocal 1; Line 1; Local 1; Const 1; Mark; Local 1; Adjust 3; Copy 2; SetLocal 1; Copy 1; SetGlob 1; Put 3 0; Pop 5; Mark; Return")
}

func TestChoices_P14_1(t *testing.T) {
	for src, want := range map[string]string{
		"if x then end":                                     "JumpNot 3",
		"if x then else end":                                "JumpNot 4; Jump 4",
		"if x then f() end":                                 "JumpNot 7; Line 1; Global 2; Mark; Call 0",
		"if x then f() else f() end":                        "JumpNot 8; Line 1; Global 2; Mark; Call 0; Jump 12; Line 1; Global 2; Mark; Call 0",
		"if x then elseif y then end":                       "JumpNot 4; Jump 6; Global 2; JumpNot 6",
		"if x then elseif y then else end":                  "JumpNot 4; Jump 7; Global 2; JumpNot 7; Jump 7",
		"if x then elseif y then elseif z then f() end":     "JumpNot 4; Jump 13; Global 2; JumpNot 7; Jump 13; Global 3; JumpNot 13; Line 1; Global 4; Mark; Call 0",
		"if x then if y then end else end":                  "JumpNot 7; Line 1; Global 2; JumpNot 6; Jump 7",
		"if x then return else return end":                  "JumpNot 7; Line 1; Mark; Return; Jump 10; Line 1; Mark; Return",
		"if x then local a elseif y then local a a = x end": "JumpNot 7; Line 1; Nil; SetLocal 1; Jump 17; Global 2; JumpNot 17; Line 1; Nil; SetLocal 1; Line 1; Global 1; Copy 0; SetLocal 1; Pop 1",
	} {
		wantCode(t, src, 0, "Line 1; Global 1; "+want+"; Mark; Return")
	}
}

func TestLoops_P14_1(t *testing.T) {
	for src, want := range map[string]string{
		"while x do end":                                            "Line 1; Global 1; JumpNot 5; Turn; Jump 1",
		"while x and y do local a end local b":                      "Line 1; Global 1; And 4; Global 2; JumpNot 10; Turn; Line 1; Nil; SetLocal 1; Jump 1; Line 1; Nil; SetLocal 1",
		"while x do while y do break end break end":                 "Line 1; Global 1; JumpNot 14; Turn; Line 1; Global 2; JumpNot 11; Turn; Line 1; Jump 11; Jump 5; Line 1; Jump 14; Jump 1",
		"while x do break while y do end end":                       "Line 1; Global 1; JumpNot 12; Turn; Line 1; Jump 12; Line 1; Global 2; JumpNot 11; Turn; Jump 7; Jump 1",
		"while x do if y then break end end":                        "Line 1; Global 1; JumpNot 10; Turn; Line 1; Global 2; JumpNot 9; Line 1; Jump 10; Jump 1",
		"while x do do break end break end":                         "Line 1; Global 1; JumpNot 10; Turn; Line 1; Line 1; Jump 10; Line 1; Jump 10; Jump 1",
		"for i = 1, 2 do end":                                       "Line 1; Const 1; Const 2; ForPrep 1 5 0; ForLoop 1 4",
		"for i = 1, 2, 1 do end":                                    "Line 1; Const 1; Const 2; Const 1; ForPrep 1 6 1; ForLoop 1 5",
		"for i = i, f(), g() do x = i end":                          "Line 1; Global 1; Global 2; Mark; Call 1; Global 3; Mark; Call 1; ForPrep 1 15 1; Line 1; Local 4; Copy 0; SetGlob 4; Pop 1; ForLoop 1 9",
		"for i = 1, 2 do break end":                                 "Line 1; Const 1; Const 2; ForPrep 1 7 0; Line 1; Jump 7; ForLoop 1 4",
		"for i = 1, 2 do for j = i, 2 do break end i = j end i = 1": "Line 1; Const 1; Const 2; ForPrep 1 17 0; Line 1; Local 4; Const 2; ForPrep 5 11 0; Line 1; Jump 11; ForLoop 5 8; Line 1; Global 1; Copy 0; SetLocal 4; Pop 1; ForLoop 1 4; Line 1; Const 1; Copy 0; SetGlob 2; Pop 1",
		"local a for i = 1, 2, 3 do local b = i end local c = a":    "Line 1; Nil; SetLocal 1; Line 1; Const 1; Const 2; Const 3; ForPrep 2 12 1; Line 1; Local 5; SetLocal 6; ForLoop 2 8; Line 1; Local 1; SetLocal 2",
		"for k in x do end":                                         "Line 1; Mark; Global 1; Adjust 3; InPrep 1; Local 1; Mark; Local 2; Local 3; Call 1; InNext 1 12 1; Jump 5",
		"for k in f() do end":                                       "Line 1; Mark; Global 1; Mark; Call -1; Adjust 3; InPrep 1; Local 1; Mark; Local 2; Local 3; Call 1; InNext 1 14 1; Jump 7",
		"for k in x, y, f() do end":                                 "Line 1; Global 1; Global 2; Global 3; Mark; Call 1; InPrep 1; Local 1; Mark; Local 2; Local 3; Call 1; InNext 1 14 1; Jump 7",
		"for k, v in x, y, z, x do break end":                       "Line 1; Mark; Global 1; Global 2; Global 3; Global 1; Adjust 3; InPrep 1; Local 1; Mark; Local 2; Local 3; Call 2; InNext 1 17 2; Line 1; Jump 17; Jump 8",
		"local k for k, v in k, v do k = v end":                     "Line 1; Nil; SetLocal 1; Line 1; Mark; Local 1; Global 1; Adjust 3; InPrep 2; Local 2; Mark; Local 3; Local 4; Call 2; InNext 2 21 2; Line 1; Local 6; Copy 0; SetLocal 5; Pop 1; Jump 9",
		"for a, a in x do a() end":                                  "Line 1; Mark; Global 1; Adjust 3; InPrep 1; Local 1; Mark; Local 2; Local 3; Call 2; InNext 1 16 2; Line 1; Local 5; Mark; Call 0; Jump 5",
		"while x do for i = 1, 2 do end break end":                  "Line 1; Global 1; JumpNot 12; Turn; Line 1; Const 1; Const 2; ForPrep 1 9 0; ForLoop 1 8; Line 1; Jump 12; Jump 1",
		"while x do for k in y do break end break end":              "Line 1; Global 1; JumpNot 21; Turn; Line 1; Mark; Global 2; Adjust 3; InPrep 1; Local 1; Mark; Local 2; Local 3; Call 1; InNext 1 18 1; Line 1; Jump 18; Jump 9; Line 1; Jump 21; Jump 1",
	} {
		wantCode(t, src, 0, want+"; Mark; Return")
	}
}

// Functions: their units, numbers, names, locals and constants.
func TestFunctions_P14_1(t *testing.T) {
	src := "x = 1 function f(a, b) local c = a return c, b, 2, x end local g = 2\nfunction g() end function f(x) f(x, 'a', 1) end g = f"
	wantCode(t, src, 0, "Line 1; Const 1; Copy 0; SetGlob 1; Pop 1; Line 1; Fun 1; SetGlob 2; Line 1; Const 2; SetLocal 1; Line 2; Fun 2; SetGlob 3; Line 2; Fun 3; SetGlob 2; Line 2; Global 2; Copy 0; SetLocal 1; Pop 1; Mark; Return")
	wantCode(t, src, 1, "Line 1; Local 1; SetLocal 3; Line 1; Mark; Local 3; Local 2; Const 1; Global 1; Return; Mark; Return")
	wantCode(t, src, 2, "Mark; Return")
	wantCode(t, src, 3, "Line 2; Global 2; Mark; Local 1; Const 1; Const 2; Call 0; Mark; Return")
	p, _ := checkGen(t, src)
	want := []gen.Unit{{Slots: 1, Consts: []api.Val{number(1), number(2)}}, {Name: "f", Params: 2, Slots: 3, Consts: []api.Val{number(2)}}, {Name: "g"}, {Name: "f", Params: 1, Slots: 1, Consts: []api.Val{text("a"), number(1)}}}
	for i := range p.Units {
		p.Units[i].Code = nil
	}
	if !sameProgram(p, gen.Program{Units: want, Globals: []string{"x", "f", "g"}}) {
		t.Errorf("Gen(%q) = %v, want %v", src, p, want)
	}
	wantCode(t, "function f() while x do break end end while y do end", 1, "Line 1; Global 2; JumpNot 7; Turn; Line 1; Jump 7; Jump 1; Mark; Return")
	wantCode(t, "function f(a, a) return a end", 1, "Line 1; Mark; Local 2; Return; Mark; Return")
	wantCode(t, "function f(a) for i = a, 2 do local b = i end end", 1, "Line 1; Local 1; Const 1; ForPrep 2 8 0; Line 1; Local 5; SetLocal 6; ForLoop 2 4; Mark; Return")
	wantCode(t, "do local a end function f() return a, f end", 1, "Line 1; Mark; Global 2; Global 1; Return; Mark; Return")
	wantCode(t, "local a function f(a) a = b end b = a", 1, "Line 1; Global 2; Copy 0; SetLocal 1; Pop 1; Mark; Return")
	wantCode(t, many(100, " ", "function f%() return % end"), 100, "Line 1; Mark; Const 1; Return; Mark; Return")
	wantCode(t, many(100, " ", "function f%() return % end"), 0, many(100, ";", "Line 1; Fun %; SetGlob %")+"; Mark; Return")
}

// Line: where the statement begins; a return and other runes don't count, a newline in a comment does.
func TestLines_P14_1(t *testing.T) {
	for src, want := range map[string][]int{
		"f()\nf()": {1, 2}, "\n\n f()": {3}, "\r\rf()\r\nf()": {1, 2}, "--c\nf() --\n--\nf()": {2, 4}, "x =\n1\nf\n()": {1, 3}, "if x\nthen\nf()\nelse\nf() end f()": {1, 3, 5, 5}, "while\nx do f()\nend\nf()": {1, 2, 4}, "do\ndo\nf() end end": {1, 2, 3}, "for i = 1,\n2 do\nbreak end return\n1": {1, 3, 3}, ";\n;\n;f()": {3}, "é = '\\n'\né = 'é\xff\\10'\nf()": {1, 2, 3}, "f()\n\n\nf() f()\nf()": {1, 4, 4, 5}, "--é\xff\xff\n\n\xc3\xa9()": {3}, "x = {\n1,\n2}\nlocal\na\nlocal b": {1, 4, 6},
	} {
		p, fail := checkGen(t, src)
		if fail != (api.Fail{}) {
			t.Fatalf("Gen(%q): %v", src, fail)
		}
		var lines []int
		for _, i := range p.Units[0].Code {
			if i.Op == gen.Line {
				lines = append(lines, i.A)
			}
		}
		if !slices.Equal(lines, want) {
			t.Errorf("Gen(%q): lines %v, want %v", src, lines, want)
		}
	}
	src := "\nfunction f()\nx = 1\n\nend f() function\ng() return end\nf()"
	wantCode(t, src, 0, "Line 2; Fun 1; SetGlob 1; Line 5; Global 1; Mark; Call 0; Line 5; Fun 2; SetGlob 3; Line 7; Global 1; Mark; Call 0; Mark; Return")
	wantCode(t, src, 1, "Line 3; Const 1; Copy 0; SetGlob 2; Pop 1; Mark; Return")
	wantCode(t, src, 2, "Line 6; Mark; Return; Mark; Return")
	p, fail := checkGen(t, strings.Repeat("\n", 19997)+"f()")
	if fail != (api.Fail{}) || p.Units[0].Code[0] != (gen.Ins{Op: gen.Line, A: 19998}) {
		t.Errorf("the last line: %v, %v", p, fail)
	}
}

// The limits of the layers below, at their edges.
func TestLimits_P14_1(t *testing.T) {
	for _, src := range []string{
		many(250, " ", "x=%"), many(125, " ", "x=% x='%'"), many(60, " ", "local a%") + " a60 = a1", "local " + many(50, ",", "a%") + " = " + many(50, ",", "f()"), "local " + many(50, ",", "a%") + " = f()", many(50, ",", "x.a%") + " = " + many(49, ",", "f()"), many(50, ",", "x[f()]") + " = f()", "f(" + many(50, ",", "f()") + ")", "return " + many(50, ",", "f()"),
		"for " + many(50, ",", "a%") + " in " + many(50, ",", "f()") + " do x = a1, a50 end", "function f(" + many(50, ",", "a%") + ") return a50, a1 end", strings.Repeat("for i = 1, 2 do ", 15) + "i = 1 break " + strings.Repeat("end ", 15), "x = " + strings.Repeat("(", 97) + "f()" + strings.Repeat(")", 97), "x = " + strings.Repeat("(", 96) + "f()" + strings.Repeat(")", 96), strings.Repeat("do ", 49) + strings.Repeat("end ", 49), "return " + strings.Repeat("{", 49) + strings.Repeat("}", 49), "return " + many(90, " and ", "x"), "return " + many(90, " .. ", "f()"),
		"if x then " + many(500, " ", "elseif x then f()") + " else end", many(100, " ", "function f%() return x% end"), many(1500, " ", "g%=h%"),
	} {
		checkGen(t, src)
	}
	src := many(60, " ", "local a%") + " a60 = a1"
	if p, fail := gen.Gen(src); fail != (api.Fail{}) || p.Units[0].Slots != 60 || !slices.Contains(p.Units[0].Code, gen.Ins{Op: gen.SetLocal, A: 60}) {
		t.Errorf("Gen(%q) = %v, %v", src, p, fail)
	}
}

// What lex, parse or check refuses, gen refuses with the same Fail.
func TestRefused_P2(t *testing.T) {
	for src, want := range map[string]api.Fail{
		"x = table": ofName(4), "break": ofName(0), "local a function f() return a end": ofName(28), "local table": ofName(6), "table.sort = 1": ofName(0), "x = table.foo": ofName(4), "function utf8() end": ofName(0), "while x do end break": ofName(15),
		" local " + many(51, ",", "a"): ofSize(1), " x = {" + many(201, ",", "1") + "}": ofSize(5), "x = " + strings.Repeat("(", 98) + "1" + strings.Repeat(")", 98): ofSize(0), many(101, " ", "function f() end"): ofSize(1700), "f(" + many(51, ",", "1") + ")": ofSize(0), many(250, " ", "x=%") + " x=''": ofSize(9*4 + 90*5 + 151*6 + 2), many(60, " ", "local a") + " local b": ofSize(480),
		"x =": ofText(3), "f() = 1": ofText(0), "if x then function f() end end": ofText(10), "x = 'a": ofText(4), "\xff": ofText(0), "local break": ofText(6), "break table": ofText(11), "break x = 'a": ofText(10),
		"x = 9223372036854775808": {Code: api.ErrBig, At: 4}, strings.Repeat(" ", 20001): {Code: api.ErrBig, At: -1}, "x = " + strings.Repeat("n", 41): {Code: api.ErrBig, At: 4}, "x = '" + strings.Repeat("n", 10001) + "'": {Code: api.ErrBig, At: 4},
	} {
		p, fail := checkGen(t, src)
		if fail != want || len(p.Units) != 0 || len(p.Globals) != 0 {
			t.Errorf("Gen(%.60q) = %v, %v, want %v", src, p, fail, want)
		}
		checkRefusal(t, src, fail)
	}
}

// checkRefusal: P2: a Fail of gen is that of the first layer that has one, and of all behind it.
func checkRefusal(t *testing.T, src string, fail api.Fail) {
	t.Helper()
	_, byLex := lex.Scan(src)
	_, byParse := parse.Parse(src)
	_, byCheck := check.Check(src)
	if byLex != (api.Fail{}) && byParse != byLex || byParse != (api.Fail{}) && byCheck != byParse || fail != byCheck {
		t.Fatalf("P2: %.400q: lex %v, parse %v, check %v, gen %v", src, byLex, byParse, byCheck, fail)
	}
}

// Texts made by chance; and each instruction is met in them, each operator too.
func TestMadeTexts_P14_1(t *testing.T) {
	m := &maker{Rand: rand.New(rand.NewSource(1))}
	met, fine := map[gen.Ins]int{}, 0
	ops := map[int]int{}
	for i := range 8000 {
		m.wild = i%4 == 0
		src := m.made(1 + i%120)
		p, fail := checkGen(t, src)
		checkRefusal(t, src, fail)
		if fail == (api.Fail{}) {
			fine++
		}
		for _, u := range p.Units {
			for _, ins := range u.Code {
				met[gen.Ins{Op: ins.Op, A: ins.A}]++
				ops[ins.Op]++
			}
		}
	}
	for op := 1; op <= 34; op++ {
		if ops[op] < 100 {
			t.Errorf("instruction %d was met %d times", op, ops[op])
		}
	}
	for a := 1; a <= 12; a++ {
		if met[gen.Ins{Op: gen.Binary, A: a}] < 100 || a <= 3 && met[gen.Ins{Op: gen.Unary, A: a}] < 100 {
			t.Errorf("operator %d was seldom met", a)
		}
	}
	if met[gen.Ins{Op: gen.Batch, A: 50}] < 100 || fine < 6000 || fine > 7950 {
		t.Errorf("%d batches of 50; %d texts had code", met[gen.Ins{Op: gen.Batch, A: 50}], fine)
	}
}

// The code is the same whatever stands between the tokens, but for the lines; and so are signs that the tree doesn't tell.
func TestPlainForm_P14_3(t *testing.T) {
	for src, other := range map[string]string{
		"x=1 y=2":               "\n\nx = 1;;\n;y --c\n= 2;",
		"return t.x, 'a', 0x10": "return t['x'], \"\\97\", 16;",
		"x = {1, y = 2; 3,}":    "x = {1; ['y'] = 2, 3}",
		"f() if x then end":     "f()\n;if x\nthen\nend",
		"x = table.sort":        "x = table\n['sort']",
	} {
		p, fail := checkGen(t, src)
		q, failToo := checkGen(t, other)
		if fail != (api.Fail{}) || failToo != (api.Fail{}) || !sameProgram(onOneLine(p), onOneLine(q)) {
			t.Errorf("P14.3: Gen(%q) = %v, %v; Gen(%q) = %v, %v", src, p, fail, other, q, failToo)
		}
	}
	m := &maker{Rand: rand.New(rand.NewSource(2))}
	count := 0
	for i := range 1000 {
		src := m.made(1 + i%100)
		p, fail := gen.Gen(src)
		plain, _ := parse.Text(src)
		if q, failToo := gen.Gen(plain); fail == (api.Fail{}) && len(plain) <= api.MaxText {
			if failToo != (api.Fail{}) || !sameProgram(onOneLine(p), q) {
				t.Fatalf("P14.3: Gen(%q) = %v; of %q %v, %v", src, p, plain, q, failToo)
			}
			count++
		}
	}
	if count < 800 {
		t.Errorf("only %d texts had code", count)
	}
	// An Int below 0 is a constant as any other.
	wantCode(t, "return 0xffffffffffffffff, -1", 0, "Line 1; Mark; Const 1; Const 2; Unary 3; Return; Mark; Return")
}

func TestNoPanic_P1(t *testing.T) {
	r := rand.New(rand.NewSource(3))
	alphabet := strings.Fields("and break do else elseif end false for function if in local nil not or return then true while == .. + - # ( ) { } [ ] ; , . = a b 1 'a' table utf8 sort")
	for i := range 60000 {
		var b []byte
		for range r.Intn(30) {
			if i%2 == 0 {
				b = append(b, byte(r.Intn(256)))
			} else {
				b = append(b, alphabet[r.Intn(len(alphabet))]+" "...)
			}
		}
		_, fail := checkGen(t, string(b))
		checkRefusal(t, string(b), fail)
	}
	// The greatest texts, as deep and as wide as they can be.
	for _, x := range [][3]string{
		{"x=", "(", "1"}, {"x=", "{", "1"}, {"x=", "#", "1"}, {"x=", "a(", "1"}, {"", "do ", ""}, {"", "for a = 1, 2 do ", ""}, {"", "while a do ", ""}, {"", "local a ", ""}, {"f(1", ",1", ")"}, {"x={", "1,", "}"}, {"", "break ", ""}, {"", "function f() end ", ""}, {"f", "()", ""}, {"f", ".a", "()"}, {"", "x=1 ", ""}, {"", "x=y\n", ""}, {"", "f()\n", ""}, {"", "a()", ""}, {"", "f();", ""}, {"", "if a then else ", ""}, {"if a then ", "elseif a then ", "end"}, {"a", ",a", "=1"}, {"while a do ", "break ", "end"},
	} {
		k := (api.MaxText - len(x[0]+x[2])) / len(x[1])
		for _, closing := range []string{"", ")", "}", "end "} {
			n := (api.MaxText - len(x[0]+x[2])) / len(x[1]+closing)
			gen.Gen(x[0] + strings.Repeat(x[1], n) + x[2] + strings.Repeat(closing, n))
		}
		gen.Gen(x[0] + strings.Repeat(x[1], k) + x[2])
	}
	src := strings.Repeat("f()\n", 5000)
	if p, fail := gen.Gen(src); fail != (api.Fail{}) || len(p.Units[0].Code) != 20002 || p.Units[0].Code[4*4999] != (gen.Ins{Op: gen.Line, A: 5000}) {
		t.Errorf("5000 calls: %d units, %v", len(p.Units), fail)
	}
}

// Made texts with tokens taken out, put in, or exchanged.
func TestMarredTexts_P2(t *testing.T) {
	m := &maker{Rand: rand.New(rand.NewSource(4)), wild: true}
	alphabet := strings.Fields("and break do else end for function if in local return then while = ( ) { } [ ] ; , . a p 1 'a' table utf8 sort")
	for i := range 8000 {
		words := strings.Fields(strings.ReplaceAll(m.made(1+i%60), "--é\n", ""))
		j, k := m.Intn(len(words)), m.Intn(len(words))
		switch w := alphabet[m.Intn(len(alphabet))]; m.Intn(4) {
		case 0:
			words[j] = ""
		case 1:
			words[j] += " " + w
		case 2:
			words[j] = w
		case 3:
			words[j], words[k] = words[k], words[j]
		}
		src := strings.Join(words, " ")
		_, fail := checkGen(t, src)
		checkRefusal(t, src, fail)
	}
}

// marked: each list of the programs filled with a number of its own, with its spare room; are they all still there?
func marked(programs ...gen.Program) bool {
	var codes [][]gen.Ins
	var consts [][]api.Val
	var globals [][]string
	for _, p := range programs {
		globals = append(globals, p.Globals[:cap(p.Globals)])
		for _, u := range p.Units {
			codes, consts = append(codes, u.Code[:cap(u.Code)]), append(consts, u.Consts[:cap(u.Consts)])
		}
	}
	isFine := true
	for _, isAsked := range []bool{false, true} {
		for mark := range codes {
			for j := range codes[mark] {
				isFine = isFine && (!isAsked || codes[mark][j].Op == mark)
				codes[mark][j].Op = mark
			}
			for j := range consts[mark] {
				isFine = isFine && (!isAsked || consts[mark][j].N == mark)
				consts[mark][j].N = mark
			}
		}
		for mark := range globals {
			for j := range globals[mark] {
				isFine = isFine && (!isAsked || globals[mark][j] == strconv.Itoa(mark))
				globals[mark][j] = strconv.Itoa(mark)
			}
		}
	}
	return isFine
}

// What one list is told, no other list of any answer shows; the spare room too.
func TestOwnMemory_R3(t *testing.T) {
	m := &maker{Rand: rand.New(rand.NewSource(5))}
	for i := range 1000 {
		src := m.made(1 + i%100)
		first, fail := gen.Gen(src)
		if fail != (api.Fail{}) {
			continue
		}
		want, _ := genByHand(src)
		second, _ := gen.Gen(src)
		if !sameProgram(first, want) || !sameProgram(second, want) {
			t.Fatalf("Gen(%q) = %v, then %v, want %v", src, first, second, want)
		}
		if !marked(first, second) {
			t.Fatalf("two lists of the answers to %q share memory", src)
		}
		units := second.Units[:cap(second.Units)]
		for j := range units {
			units[j] = gen.Unit{}
		}
		if len(first.Units) != len(want.Units) || first.Units[0].Slots != want.Units[0].Slots || first.Units[0].Code == nil {
			t.Fatalf("two answers to %q share their units", src)
		}
		if third, _ := gen.Gen(src); !sameProgram(third, want) {
			t.Fatalf("Gen(%q) hangs on an earlier answer", src)
		}
	}
}
