package lex_test

import (
	"math/rand"
	"regexp"
	"slices"
	"strconv"
	"strings"
	"testing"
	"unicode/utf8"

	"trestle/api"
	"trestle/lex"
	"trestle/runes"
	"trestle/words"
)

// The chapter's words as patterns. (A pattern reads an invalid byte as 0xFFFD, which is no Letter.)
const letter, either = `[a-zA-Z_\x{80}-\x{FFFC}\x{FFFE}-\x{10FFFF}]`, `[0-9a-zA-Z_\x{80}-\x{FFFC}\x{FFFE}-\x{10FFFF}]*`

var (
	blanks   = regexp.MustCompile(`\A(?:[ \t\n\r]|--[^\n]*)`)
	names    = regexp.MustCompile(`\A` + letter + either)
	keywords = regexp.MustCompile(`\A(?:and|break|do|else|elseif|end|false|for|function|if|in|local|nil|not|or|return|then|true|while)\z`)
	numerals = regexp.MustCompile(`\A[0-9]` + either)
	signs    = regexp.MustCompile(`\A(?:==|~=|<=|>=|//|\.\.|[-+*%<>=#(){}\[\];,.])`)
	escapes  = regexp.MustCompile(`\A\\(?:([ntr\\"'])|([0-9]{1,3})|x([0-9a-fA-F]{2})|u\{([0-9a-fA-F]{1,8})\})`)
)

func ofText(at int) api.Fail { return api.Fail{Code: api.ErrText, At: at} }
func ofBig(at int) api.Fail  { return api.Fail{Code: api.ErrBig, At: at} }

// scanByHand: Scan, by the chapter's words.
func scanByHand(src string) ([]lex.Token, api.Fail) {
	if len(src) > 20000 {
		return nil, ofBig(-1)
	}
	var all []lex.Token
	for at := 0; at < len(src); {
		rest := src[at:]
		if s := blanks.FindString(rest); s != "" {
			at += len(s)
			continue
		}
		token, size, fail := tokenByHand(rest, at)
		if fail != (api.Fail{}) {
			return nil, fail
		}
		all = append(all, token)
		at += size
	}
	return append(all, lex.Token{Kind: 6, At: len(src)}), api.Fail{}
}

func tokenByHand(rest string, at int) (lex.Token, int, api.Fail) {
	none := lex.Token{}
	if rest[0] == '\'' || rest[0] == '"' {
		value, size, fail := stringByHand(rest, at)
		return lex.Token{Kind: 4, Text: value, At: at}, size, fail
	}
	if s := names.FindString(rest); s != "" {
		switch {
		case len(s) > 40:
			return none, 0, ofBig(at)
		case keywords.MatchString(s):
			return lex.Token{Kind: 2, Text: s, At: at}, len(s), api.Fail{}
		}
		return lex.Token{Kind: 1, Text: s, At: at}, len(s), api.Fail{}
	}
	if s := numerals.FindString(rest); s != "" {
		n, err := words.Parse(s)
		if err != api.OK {
			return none, 0, api.Fail{Code: err, At: at}
		}
		return lex.Token{Kind: 3, Text: s, N: n, At: at}, len(s), api.Fail{}
	}
	if s := signs.FindString(rest); s != "" {
		return lex.Token{Kind: 5, Text: s, At: at}, len(s), api.Fail{}
	}
	return none, 0, ofText(at)
}

func stringByHand(rest string, open int) (string, int, api.Fail) {
	value := ""
	for i := 1; i < len(rest); {
		switch c := rest[i]; {
		case c == rest[0]:
			if len(value) > 10000 {
				return "", 0, ofBig(open)
			}
			return value, i + 1, api.Fail{}
		case c == '\n' || rest[i:] == `\`:
			return "", 0, ofText(open)
		case c == '\\':
			m := escapes.FindStringSubmatch(rest[i:])
			piece, ok := escapeByHand(m)
			if !ok {
				return "", 0, ofText(open + i)
			}
			value, i = value+piece, i+len(m[0])
		default:
			value, i = value+rest[i:i+1], i+1
		}
	}
	return "", 0, ofText(open)
}

func escapeByHand(m []string) (string, bool) {
	switch {
	case m == nil:
		return "", false
	case m[1] != "":
		return map[string]string{"n": "\x0a", "t": "\x09", "r": "\x0d"}[m[1]] + strings.Trim(m[1], "ntr"), true
	case m[2] != "":
		n, err := strconv.ParseUint(m[2], 10, 8)
		return string([]byte{byte(n)}), err == nil
	case m[3] != "":
		n, err := strconv.ParseUint(m[3], 16, 8)
		return string([]byte{byte(n)}), err == nil
	}
	n, _ := strconv.ParseUint(m[4], 16, 32)
	return string(utf8.AppendRune(nil, rune(n))), n <= 0x10FFFF && utf8.ValidRune(rune(n))
}

func checkScan(t *testing.T, src string) {
	t.Helper()
	got, fail := lex.Scan(src)
	want, wantFail := scanByHand(src)
	if !slices.Equal(got, want) || fail != wantFail {
		t.Fatalf("Scan(%.200q) = %.200v, %v, want %.200v, %v", src, got, fail, want, wantFail)
	}
}

// Every text of up to 2 bytes, alone, in quotes, behind a backslash in quotes, and among names and digits.
func TestShortTexts_P11_1(t *testing.T) {
	for a := range 256 {
		for b := range 257 {
			s := string([]byte{byte(a)})
			if b < 256 {
				s += string([]byte{byte(b)})
			}
			for _, src := range []string{s, "'" + s + "'", "\"" + s, "'\\" + s + "'", "'\\" + s, "x" + s + "1", "0x" + s, "'\\x" + s + "'", "'\\u{" + s + "}'", "'\\1" + s + "'", "--" + s + "\nx"} {
				checkScan(t, src)
			}
		}
	}
	checkScan(t, "")
}

// Every row of up to 6 of the bytes that strings, comments and signs turn on.
func TestShortRows_P11_1(t *testing.T) {
	rows := []string{""}
	for range 6 {
		var longer []string
		for _, s := range rows {
			for _, c := range []byte("'\"\\\nx1u{") {
				longer = append(longer, s+string([]byte{c}))
			}
		}
		rows = longer
		for _, s := range rows {
			checkScan(t, s)
			checkScan(t, "'"+s+"}'")
		}
	}
	rows = []string{""}
	for range 4 {
		var longer []string
		for _, s := range rows {
			for _, c := range []byte("=~<>/.-+*#(];,% \na:") {
				longer = append(longer, s+string([]byte{c}))
			}
		}
		rows = longer
		for _, s := range rows {
			checkScan(t, s)
		}
	}
}

// pieces: what texts are put together of; almost all are tokens or parts of strings.
func pieces() []string {
	return []string{
		"x", "_", "Z9", "é", "\u00a0", "日本", "\U0010FFFF", "\ufeff", "end", "elseif", "else", "if", "and", "And", "nil", "while", "whil", "function", "goto", "repeat", "until",
		"0", "7", "42", "007", "0x", "0xfF", "0X10", "1e5", "9223372036854775807", "9223372036854775808", "0x10000000000000000",
		"==", "=", "~=", "~", "<", "<=", ">", ">=", "//", "/", ".", "..", "...", "+", "-", "*", "%", "#", "(", ")", "{", "}", "[", "]", ";", ",", ":", "&", "!", "@", "^", "|", "?", "$", "`",
		" ", "  ", "\t", "\n", "\r", "\r\n", "\v", "\f", "\x00", "\x7f", "--", "--c\n", "-- 'a\n", "---\xff\n", "-", "\xff", "\xc3", "\xef\xbf\xbd", "\xed\xa0\x80",
		"'", "\"", "'a'", "\"b\"", "'\"'", "\"'\"", "'--'", "''", "'\\''", "'\\\\'", "\\", "\\\\", "\\n", "\\t", "\\r", "\\q", "\\'", "\\\"", "\\\n", "\\0", "\\65", "\\065", "\\255", "\\256", "\\1", "\\99", "\\999",
		"\\x", "\\x4", "\\x4a", "\\xFf", "\\xg0", "\\X41", "\\u", "\\u{", "\\u{}", "\\u{41}", "\\u{20AC}", "\\u{0010FFFF}", "\\u{110000}", "\\u{D800}", "\\u{dfff}", "\\u{E000}", "\\u{00000041}", "\\u{000000041}", "\\u{FFFFFFFF}", "\\u{FFFD}", "\\u{0}", "\\u41", "\\U{41}", "\\é",
	}
}

func TestMixedTexts_P11_1(t *testing.T) {
	r := rand.New(rand.NewSource(24))
	all := pieces()
	passed := 0
	for range 150000 {
		var src strings.Builder
		for range r.Intn(8) {
			switch p := all[r.Intn(len(all))]; r.Intn(4) {
			case 0:
				src.WriteString("'" + p + all[r.Intn(len(all))] + "'")
			case 1:
				src.WriteString(p)
			default:
				src.WriteString(p + " ")
			}
		}
		checkScan(t, src.String())
		if _, fail := lex.Scan(src.String()); fail.Code == api.OK {
			passed++
		}
	}
	if passed < 15000 {
		t.Errorf("only %d texts without an error", passed)
	}
}

func TestTokens_P11_1(t *testing.T) {
	for src, want := range map[string][]lex.Token{
		"":                                   {{Kind: 6}},
		" \t\r\n":                            {{Kind: 6, At: 4}},
		"--":                                 {{Kind: 6, At: 2}},
		"--\r x\nx":                          {{Kind: 1, Text: "x", At: 6}, {Kind: 6, At: 7}},
		"-- \xff'\\\"\n-":                    {{Kind: 5, Text: "-", At: 8}, {Kind: 6, At: 9}},
		"- -":                                {{Kind: 5, Text: "-"}, {Kind: 5, Text: "-", At: 2}, {Kind: 6, At: 3}},
		"1--1\n":                             {{Kind: 3, Text: "1", N: 1}, {Kind: 6, At: 5}},
		"1-1":                                {{Kind: 3, Text: "1", N: 1}, {Kind: 5, Text: "-", At: 1}, {Kind: 3, Text: "1", N: 1, At: 2}, {Kind: 6, At: 3}},
		"1..2":                               {{Kind: 3, Text: "1", N: 1}, {Kind: 5, Text: "..", At: 1}, {Kind: 3, Text: "2", N: 2, At: 3}, {Kind: 6, At: 4}},
		"...":                                {{Kind: 5, Text: ".."}, {Kind: 5, Text: ".", At: 2}, {Kind: 6, At: 3}},
		"....":                               {{Kind: 5, Text: ".."}, {Kind: 5, Text: "..", At: 2}, {Kind: 6, At: 4}},
		"===":                                {{Kind: 5, Text: "=="}, {Kind: 5, Text: "=", At: 2}, {Kind: 6, At: 3}},
		"~==":                                {{Kind: 5, Text: "~="}, {Kind: 5, Text: "=", At: 2}, {Kind: 6, At: 3}},
		"<<=":                                {{Kind: 5, Text: "<"}, {Kind: 5, Text: "<=", At: 1}, {Kind: 6, At: 3}},
		"é1":                                 {{Kind: 1, Text: "é1"}, {Kind: 6, At: 3}},
		"end_ END end":                       {{Kind: 1, Text: "end_"}, {Kind: 1, Text: "END", At: 5}, {Kind: 2, Text: "end", At: 9}, {Kind: 6, At: 12}},
		"0xFfffffffffffffff":                 {{Kind: 3, Text: "0xFfffffffffffffff", N: -1}, {Kind: 6, At: 18}},
		"007'7'":                             {{Kind: 3, Text: "007", N: 7}, {Kind: 4, Text: "7", At: 3}, {Kind: 6, At: 6}},
		"''\"\"":                             {{Kind: 4}, {Kind: 4, At: 2}, {Kind: 6, At: 4}},
		"'\r\t--\x00'":                       {{Kind: 4, Text: "\r\t--\x00"}, {Kind: 6, At: 7}},
		"'\\n\\t\\r\\\\\\\"\\''":             {{Kind: 4, Text: "\x0a\x09\x0d\\\"'"}, {Kind: 6, At: 14}},
		"'\\0\\00\\0000'":                    {{Kind: 4, Text: "\x00\x00\x000"}, {Kind: 6, At: 12}},
		"'\\2555'":                           {{Kind: 4, Text: "\xff5"}, {Kind: 6, At: 7}},
		"'\\x00a\\xfFf'":                     {{Kind: 4, Text: "\x00a\xfff"}, {Kind: 6, At: 12}},
		"'\\u{0}\\u{0010ffFF}\\u{fffd}'":     {{Kind: 4, Text: "\x00\xf4\x8f\xbf\xbf\xef\xbf\xbd"}, {Kind: 6, At: 27}},
		"'\xff\xef\xbf\xbd\xc3\xe2\x82\\65'": {{Kind: 4, Text: "\xff\xef\xbf\xbd\xc3\xe2\x82A"}, {Kind: 6, At: 12}},
	} {
		if got, fail := lex.Scan(src); fail != (api.Fail{}) || !slices.Equal(got, want) {
			t.Errorf("Scan(%q) = %v, %v, want %v", src, got, fail, want)
		}
	}
}

// The words are the chapter's, all of them and no other.
func TestWords_P11_1(t *testing.T) {
	const all = "and break do else elseif end false for function if in local nil not or return then true while"
	tokens, fail := lex.Scan(all)
	if fail != (api.Fail{}) || len(tokens) != 20 {
		t.Fatalf("%v, %v", tokens, fail)
	}
	for i, w := range strings.Fields(all) {
		if tokens[i].Kind != lex.Word || tokens[i].Text != w || tokens[i].N != 0 {
			t.Errorf("%q: %v", w, tokens[i])
		}
		for _, s := range []string{w + "x", "x" + w, w + "1", w + "é", strings.ToUpper(w), w[1:], w[:len(w)-1], w + "_"} {
			if strings.Contains(" "+all+" ", " "+s+" ") {
				continue
			}
			if got, fail := lex.Scan(s); s != "" && (fail != (api.Fail{}) || len(got) != 2 || got[0] != lex.Token{Kind: lex.Name, Text: s}) {
				t.Errorf("%q: %v, %v", s, got, fail)
			}
		}
	}
	for _, s := range []string{"goto", "repeat", "until", "continue", "var"} {
		if got, _ := lex.Scan(s); len(got) != 2 || got[0].Kind != lex.Name {
			t.Errorf("%q: %v", s, got)
		}
	}
}

func TestErrors_P11_1(t *testing.T) {
	for src, want := range map[string]api.Fail{
		"a~b": ofText(1), "a ~": ofText(2), "/": ofText(0), "x /y": ofText(2), "a:b": ofText(1), "\xff": ofText(0), "x\xff": ofText(1), "é\xc3": ofText(2), "\xef\xbf\xbd": ofText(0), "x\xef\xbf\xbd": ofText(1), "\x00": ofText(0), "\v": ofText(0), "a\f": ofText(1), "\\n": ofText(0),
		"1x": ofText(0), " 0x": ofText(1), "0xg": ofText(0), "1_": ofText(0), "1é": ofText(0), "x 9223372036854775808": ofBig(2), "9223372036854775808x": ofText(0), "1\xff": ofText(1),
		"'a": ofText(0), "x 'a": ofText(2), "'a\n'": ofText(0), "'a\"": ofText(0), "'": ofText(0), "'a\\'": ofText(0), "'\\": ofText(0), "  'ab\\": ofText(2), "'\\\\": ofText(0),
		"'\\q'": ofText(1), "'a\\\n'": ofText(2), "'\\256'": ofText(1), "'\\256": ofText(1), "'\\999\n": ofText(1), "'\\25": ofText(0), "'\\a'": ofText(1), "'\\0x1\\N'": ofText(5), "'\\\xff'": ofText(1), "'\\é'": ofText(1), "'\\ '": ofText(1),
		"'\\x": ofText(1), "'\\x4": ofText(1), "'\\x4'": ofText(1), "'\\x'": ofText(1), "'\\x\n": ofText(1), "'\\xg1'": ofText(1), "'\\x+1'": ofText(1), "'\\x41": ofText(0),
		"'\\u": ofText(1), "'\\u'": ofText(1), "'\\u41'": ofText(1), "'\\u{": ofText(1), "'\\u{}'": ofText(1), "'\\u{41'": ofText(1), "'\\u{41\n}'": ofText(1), "'\\u{4g}'": ofText(1), "'\\u{-1}'": ofText(1), "'\\u{0x41}'": ofText(1), "'\\u{ 41}'": ofText(1),
		"'\\u{D800}'": ofText(1), "'\\u{DFFF}'": ofText(1), "'\\u{110000}'": ofText(1), "'\\u{FFFFFFFF}'": ofText(1), "'\\u{000000041}'": ofText(1), "'a' '\\u{10000000000000041}'": ofText(5),
		"'\\q\n": ofText(1), "'\n\\q'": ofText(0), "~ '": ofText(0), "' ~": ofText(0), "1x ~": ofText(0), "~ 1x": ofText(0),
	} {
		if got, fail := lex.Scan(src); fail != want || len(got) != 0 {
			t.Errorf("Scan(%q) = %v, %v, want %v", src, got, fail, want)
		}
	}
}

// At each limit, and one byte beyond it.
func TestLimits_P11_1(t *testing.T) {
	a := func(n int) string { return strings.Repeat("a", n) }
	for _, c := range []struct {
		src  string
		fail api.Fail
	}{
		{strings.Repeat(" ", 20000), api.Fail{}}, {strings.Repeat(" ", 20001), ofBig(-1)}, {"~" + strings.Repeat(" ", 19999), ofText(0)}, {"~" + strings.Repeat(" ", 20000), ofBig(-1)},
		{"--" + a(19998), api.Fail{}}, {"--" + a(19999), ofBig(-1)}, {strings.Repeat("\xff", 30000), ofBig(-1)}, {strings.Repeat("é", 10001), ofBig(-1)},
		{a(40), api.Fail{}}, {a(41), ofBig(0)}, {" " + a(41) + "~", ofBig(1)}, {"~" + a(41), ofText(0)}, {strings.Repeat("é", 20), api.Fail{}}, {strings.Repeat("é", 20) + "a", ofBig(0)}, {a(39) + "é", ofBig(0)}, {a(40) + " " + a(40), api.Fail{}}, {a(40) + "1", ofBig(0)},
		{strings.Repeat("0", 19999) + "1", api.Fail{}}, {strings.Repeat("9", 20000), ofBig(0)},
		{"'" + a(10000) + "'", api.Fail{}}, {"x'" + a(10001) + "'", ofBig(1)}, {"'" + a(10001), ofText(0)}, {"'" + a(10001) + "\n'", ofText(0)}, {"'" + a(10001) + "\\q'", ofText(10002)}, {"'" + a(10001) + "' ~", ofBig(0)}, {"~'" + a(10001) + "'", ofText(0)},
		{"'" + a(9997) + "\\u{20AC}'", api.Fail{}}, {"'" + a(9998) + "\\u{20AC}'", ofBig(0)}, {"'" + strings.Repeat("\\n", 9999) + "'", api.Fail{}}, {"'" + a(9999) + "\\255'", api.Fail{}}, {"'" + a(9999) + "\\255\\x00'", ofBig(0)}, {"'" + strings.Repeat("\\u{41}", 3333) + "'", api.Fail{}},
	} {
		tokens, fail := lex.Scan(c.src)
		if fail != c.fail || (len(tokens) == 0) != (fail != api.Fail{}) {
			t.Errorf("Scan(%.30q, %d bytes): %v, want %v", c.src, len(c.src), fail, c.fail)
		}
		checkScan(t, c.src)
	}
}

func TestExamples_P11_1(t *testing.T) {
	got, fail := lex.Scan("x=10 --c\n..'a\\65\\x42\\u{20AC}'")
	want := []lex.Token{{Kind: lex.Name, Text: "x"}, {Kind: lex.Sign, Text: "=", At: 1}, {Kind: lex.Number, Text: "10", N: 10, At: 2}, {Kind: lex.Sign, Text: "..", At: 9}, {Kind: lex.String, Text: "aAB\xe2\x82\xac", At: 11}, {Kind: lex.End, At: 29}}
	if fail != (api.Fail{}) || !slices.Equal(got, want) {
		t.Errorf("%v, %v, want %v", got, fail, want)
	}
	for src, kind := range map[string]int{"'\xff'": lex.String, "é1": lex.Name} {
		if got, fail := lex.Scan(src); fail != (api.Fail{}) || len(got) != 2 || got[0].Kind != kind {
			t.Errorf("Scan(%q) = %v, %v", src, got, fail)
		}
	}
}

// quoteByHand: Quote, by the chapter's words, a rune of layer 1 at a time.
func quoteByHand(s string) string {
	const hex = "0123456789abcdef"
	quoted := "\""
	for _, r := range runes.List(s) {
		c := s[r.At]
		switch {
		case r.R == 0xFFFD && r.Size == 1:
			quoted += "\\x" + hex[c/16:c/16+1] + hex[c%16:c%16+1]
		case c == '\\':
			quoted += "\\\\"
		case c == '"':
			quoted += "\\\""
		case c == '\n':
			quoted += "\\n"
		case c == '\r':
			quoted += "\\r"
		case c < 32 || c == 127:
			quoted += "\\" + strconv.Itoa(1000 + int(c))[1:]
		default:
			quoted += s[r.At : r.At+r.Size]
		}
	}
	return quoted + "\""
}

// values: texts whose Quotes are looked at: every one of up to 2 bytes, named edges, mixed ones.
func values() []string {
	all := []string{"", "\xef\xbf\xbd", "\xef\xbf", "\xef\xbf\xbd\xff\xef\xbf\xbd", "\xe2\x82\xac", "\xe2\x82", "\xed\xa0\x80", "\xf4\x8f\xbf\xbf", "\xf4\x90\x80\x80", "\x010", "\x0012", "\xffab", "\\65", "\\x41", "'", "--", "a\"\n\x01\xff", "日本\u0080\u009f\u00a0", strings.Repeat("a", 10000), strings.Repeat("\\", 9999), strings.Repeat("\xff", 4999), strings.Repeat("é", 5000), strings.Repeat("\n", 9999)}
	for a := range 256 {
		all = append(all, string([]byte{byte(a)}))
		for b := range 256 {
			all = append(all, string([]byte{byte(a), byte(b)}))
		}
	}
	r := rand.New(rand.NewSource(25))
	for range 5000 {
		text := make([]byte, r.Intn(40))
		for i := range text {
			text[i] = "\x00\t\n\r\x1f \"'\\019afnx\x7f\x80\xa0\xbd\xbf\xc3\xe2\xef\xf0\xf4\xff"[r.Intn(26)]
		}
		all = append(all, string(text))
	}
	return all
}

func TestQuote_P11_1(t *testing.T) {
	for _, s := range values() {
		if got, want := lex.Quote(s), quoteByHand(s); got != want {
			t.Fatalf("Quote(%.60q) = %.200s, want %.200s", s, got, want)
		}
	}
	for s, want := range map[string]string{"": `""`, "a\"\n\x01\xff": `"a\"\n\001\xff"`, "\t\r\x00\x1f\x7f": `"\009\r\000\031\127"`, "'\\é\u0080": `"'\\é` + "\u0080" + `"`, "\x80\xc3\xAF": `"\x80` + "\u00ef" + `"`, "\xef\xbf\xbd\xef": `"` + "\xef\xbf\xbd" + `\xef"`} {
		if got := lex.Quote(s); got != want {
			t.Errorf("Quote(%q) = %s, want %s", s, got, want)
		}
	}
}

func TestQuoteIsScanned_P11_2(t *testing.T) {
	asked := 0
	for _, s := range values() {
		quoted := lex.Quote(s)
		if len(s) > 10000 || len(quoted) > 20000 {
			t.Fatalf("%d bytes, quoted %d: beyond the limits", len(s), len(quoted))
		}
		asked++
		got, fail := lex.Scan(quoted)
		if want := []lex.Token{{Kind: lex.String, Text: s}, {Kind: lex.End, At: len(quoted)}}; fail != (api.Fail{}) || !slices.Equal(got, want) {
			t.Fatalf("Scan(%.60q) = %.100v, %v, want %.60q", quoted, got, fail, s)
		}
	}
	if asked < 65000 {
		t.Errorf("only %d texts", asked)
	}
	// One byte more than each limit.
	if _, fail := lex.Scan(lex.Quote(strings.Repeat("a", 10001))); fail != ofBig(0) {
		t.Errorf("a value of 10001 bytes: %v", fail)
	}
	if _, fail := lex.Scan(lex.Quote(strings.Repeat("\n", 9999) + "a")); fail != ofBig(-1) {
		t.Errorf("a Quote of 20001 bytes: %v", fail)
	}
}

// source: how a token may stand in a text.
func source(token lex.Token) string {
	if token.Kind == lex.String {
		return lex.Quote(token.Text)
	}
	return token.Text
}

// Blanks or a comment between two tokens: the same tokens, each at its own place.
func TestBlanksBetween_P11_3(t *testing.T) {
	between := []string{" ", "\t", "\r", "\n", "--\n", "-- 'x \\ \xff\n", " \n\t --[ x --\r\n ", "\r\n\r\n"}
	r := rand.New(rand.NewSource(26))
	all := slices.DeleteFunc(pieces(), func(p string) bool {
		_, fail := lex.Scan(p)
		return fail != (api.Fail{})
	})
	long := 0
	for range 30000 {
		var src strings.Builder
		for range 1 + r.Intn(12) {
			src.WriteString(all[r.Intn(len(all))] + " ")
		}
		tokens, fail := lex.Scan(src.String())
		if fail != (api.Fail{}) {
			continue
		}
		if len(tokens) > 4 {
			long++
		}
		var spaced strings.Builder
		var want []lex.Token
		for i, token := range tokens {
			gap := between[r.Intn(len(between))]
			if i > 0 && tokens[i-1].Text == "-" && strings.HasPrefix(gap, "--") {
				gap = " " + gap // right behind a - the comment would begin with it
			}
			spaced.WriteString(gap)
			token.At = spaced.Len()
			want = append(want, token)
			spaced.WriteString(source(token))
		}
		if got, fail := lex.Scan(spaced.String()); fail != (api.Fail{}) || !slices.Equal(got, want) {
			t.Fatalf("%q: %v; %q: %v, %v", src.String(), tokens, spaced.String(), got, fail)
		}
	}
	if long < 10000 {
		t.Errorf("only %d texts of more than 4 tokens", long)
	}
}

// Tokens stand in the text in their order, each as it stands there, none within another.
func TestOrder_P11_3(t *testing.T) {
	r := rand.New(rand.NewSource(27))
	all := pieces()
	asked := 0
	for range 50000 {
		text := ""
		for range 1 + r.Intn(8) {
			text += all[r.Intn(len(all))]
		}
		tokens, fail := lex.Scan(text)
		if fail != (api.Fail{}) {
			if len(tokens) != 0 || fail.Code != api.ErrText && fail.Code != api.ErrBig || fail.At < 0 || fail.At >= len(text) {
				t.Fatalf("%q: %v, %v", text, tokens, fail)
			}
			continue
		}
		asked++
		end := 0
		for i, token := range tokens {
			isLast := i == len(tokens)-1
			if token.At < end || (token.Kind == lex.End) != isLast || isLast && token.At != len(text) {
				t.Fatalf("%q: %v", text, tokens)
			}
			if token.Kind != lex.String && !strings.HasPrefix(text[token.At:], token.Text) {
				t.Fatalf("%q: %v", text, token)
			}
			end = token.At + len(token.Text)
			if token.Kind == lex.String && len(token.Text) == 0 {
				end += 2
			}
		}
	}
	if asked < 3000 {
		t.Errorf("only %d texts", asked)
	}
}

func TestNoPanic_P1(t *testing.T) {
	r := rand.New(rand.NewSource(28))
	long := []string{strings.Repeat("'", 20000), strings.Repeat("\\", 20000), "'" + strings.Repeat("\\", 19999), "'" + strings.Repeat("\\1", 9999), "'" + strings.Repeat("\\u{", 6000), "'\\u{" + strings.Repeat("0", 19000) + "}'", "'\\" + strings.Repeat("1", 19000), strings.Repeat("-", 20000), strings.Repeat("--\n", 6666), strings.Repeat("(", 20000), strings.Repeat("\xff", 20000), strings.Repeat("é", 1000000), strings.Repeat("\xff\"\\\n", 500000)}
	for range 20000 {
		text := make([]byte, r.Intn(60))
		for i := range text {
			text[i] = byte(r.Intn(256))
		}
		long = append(long, string(text), "'"+string(text), "'\\"+string(text))
	}
	for _, s := range long {
		tokens, fail := lex.Scan(s)
		if (fail != api.Fail{}) != (len(tokens) == 0) || fail.Code == api.OK && fail.At != 0 {
			t.Fatalf("Scan(%.60q): %d tokens, %v", s, len(tokens), fail)
		}
		if q := lex.Quote(s); len(q) < len(s)+2 || !utf8.ValidString(q) {
			t.Fatalf("Quote(%.60q) = %.60q", s, q)
		}
	}
}

// A list that was answered may be changed, its spare room too: no other answer sees it, and none hangs on another (R5).
func TestOwnMemory_R3(t *testing.T) {
	const src = "x = 'a\\65' .. 10 -- c"
	first, _ := lex.Scan(src)
	second, _ := lex.Scan(src)
	want := slices.Clone(first)
	clear(first[:cap(first)])
	if third, fail := lex.Scan(src); fail != (api.Fail{}) || !slices.Equal(second, want) || !slices.Equal(third, want) {
		t.Errorf("%v, %v, want %v", second, third, want)
	}
	lex.Scan("'\\q'")
	if fourth, fail := lex.Scan(src); fail != (api.Fail{}) || !slices.Equal(fourth, want) {
		t.Errorf("behind an error: %v, %v", fourth, fail)
	}
}
