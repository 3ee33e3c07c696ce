package shell_test

import (
	"regexp"
	"strconv"
	"strings"
	"testing"
)

// The chapter's commands as a pattern over tokens with one blank between.
const (
	texts   = `'(?:s|load)'`
	numbers = `(?:- )?7`
	values  = ` (?:nil|true|false|` + numbers + `|` + texts + `|(?:tab|fun|lib) 7)`
	named   = ` (?:x|X|Load|nobody|load|start|call|run|get|set|make|index|store|next|len|stats|pairs|look|tab|fun|lib)`
)

var commands = regexp.MustCompile(`\A(?:load ` + texts + `|start|call(?:` + values + `)+|run` + named + `(?:` + values + `)*|get` + named + `|set` + named + values +
	`|make ` + numbers + ` ` + numbers + `|(?:index|next)(?:` + values + `){2}|store(?:` + values + `){3}|(?:len|stats|pairs)` + values + `|look)\z`)

func fits(tokens []string) bool { return commands.MatchString(strings.Join(tokens, " ")) }

// begins: is there a command that begins with these tokens? At most three tokens lack.
func begins(tokens []string) bool {
	endings := [][]string{nil}
	for range 4 {
		var longer [][]string
		for _, e := range endings {
			if fits(append(tokens[:len(tokens):len(tokens)], e...)) {
				return true
			}
			for _, token := range []string{"7", "x", "'s'"} {
				longer = append(longer, append(e[:len(e):len(e)], token))
			}
		}
		endings = longer
	}
	return false
}

// refusedAt: does the line answer that its token at that byte doesn't fit, and nothing else?
func refusedAt(t *testing.T, line string, at int) {
	t.Helper()
	if got := ran(t, 9, 9, line); len(got) != 1 || got[0] != "error 16 at "+strconv.Itoa(at) {
		t.Fatalf("%q: %q, want error 16 at %d", line, got, at)
	}
}

// Every row of tokens that begins a command, and every token behind it: the first one that doesn't fit is the one that is refused, the End too.
func TestCommands_P20_1(t *testing.T) {
	all := []string{"x", "load", "start", "call", "run", "get", "set", "make", "index", "store", "next", "len", "stats", "pairs", "look", "tab", "fun", "lib",
		"7", "-", "'s'", "'load'", "nil", "true", "false", "end", "and", "=", ",", "+", "X", "Load", "nobody"}
	few := []string{"x", "load", "tab", "7", "-", "'s'", "nil", "end", "=", "lib"}
	fitting, refused := 0, 0
	var try func(tokens []string)
	try = func(tokens []string) {
		line := strings.Join(tokens, " ")
		if fits(tokens) {
			fitting++
			if got := ran(t, 9, 9, line); len(got) == 0 || strings.HasPrefix(got[0], "error 16") {
				t.Fatalf("%q: %q", line, got)
			}
		} else if len(tokens) > 0 {
			refusedAt(t, line, len(line))
		}
		more := all
		if len(tokens) > 1 {
			more = few
		}
		for _, token := range more {
			longer := append(tokens[:len(tokens):len(tokens)], token)
			if begins(longer) {
				if len(longer) <= 5 {
					try(longer)
				}
				continue
			}
			refused++
			at := len(strings.Join(append(tokens[:len(tokens):len(tokens)], ""), " "))
			refusedAt(t, strings.Join(longer, " "), at)
			refusedAt(t, strings.Join(longer, " ")+" 7 -- go", at)
			refusedAt(t, "\t"+strings.Join(longer, " ")+" = nil", at+1)
		}
	}
	try(nil)
	if fitting < 2000 || refused < 20000 {
		t.Errorf("only %d commands, %d others", fitting, refused)
	}
}

// A command's words are Names and its values tokens, not texts that read so; nothing is a command by half.
func TestOthers_P20_1(t *testing.T) {
	for line, at := range map[string]int{
		"'start'": 0, "\"look\"": 0, "Start": 0, "start1": 0, "starts": 0, "start;": 5, "start()": 5, "start, start": 5, "look -": 5, "7": 0, "-": 0, "= 1": 0, "é": 0,
		"load": 4, "load 7": 5, "load nil": 5, "load - 's'": 5, "load 's' 's'": 9, "load x 's'": 5, "load('s')": 4,
		"get 'x'": 4, "get nil": 4, "get end": 4, "get 7": 4, "get x y": 6, "get x.y": 5, "get x[1]": 5, "get x,y": 5,
		"set": 3, "set x": 5, "set x = 1": 6, "set 1 x": 4, "set x y": 6, "set x 1 2": 8, "set x tab": 9, "set x tab 'a'": 10, "set x tab - 1": 10, "set x -": 7, "set x - -1": 8, "set x - tab 1": 8, "set x - nil": 8, "set x -'1'": 7, "set x {}": 6, "set x (1)": 6, "set x not 1": 6, "set x #'a'": 6, "set x 1+2": 7, "set x 1 -2": 8, "set x Tab 1": 6, "set x table 1": 6, "set x tab1": 6, "set x 'tab' 1": 12, "set x 'a' 'b'": 10, "set x nil nil": 10,
		"make": 4, "make 1": 6, "make 1 2 3": 9, "make '1' 2": 5, "make nil 2": 5, "make 1 x": 7, "make 1 - x": 9, "make tab 1": 5, "make 1, 2": 6, "make + 1 2": 5, "make '-' 1 2": 5, "make - - 1 2": 7,
		"call": 4, "call x": 5, "call print": 5, "call fun": 8, "call fun 1,": 10, "call fun 1 fun": 14, "call fun 1 (2)": 11, "call fun 1 2 and 3": 13,
		"run": 3, "run 7": 4, "run f x": 6, "run f(1)": 5, "run f 1, 2": 7, "run nil": 4, "run fun 1 f": 10, "run 'f'": 4,
		"index tab 1": 11, "index tab 1 1 1": 14, "index tab 1.1": 11, "index tab 1[1]": 11, "index": 5, "index tab": 9,
		"store tab 1 1": 13, "store tab 1 1 = 1": 14, "store tab 1 1 1 1": 16, "next tab 1": 10, "len tab 1 1": 10, "len": 3, "len x": 4, "stats": 5, "stats tab 1 tab 2": 12, "pairs": 5, "pairs x": 6, "pairs tab 1 -": 12,
		"look 1": 5, "look nil": 5, "look look": 5, "start x": 6, "start 'x": -1, "help": 0, "quit": 0, "?": -1,
	} {
		if at >= 0 {
			refusedAt(t, line, at)
		} else if got := ran(t, 9, 9, line); len(got) != 1 || !strings.HasPrefix(got[0], "error 4 at ") {
			t.Errorf("%q: %q", line, got)
		}
	}
}
