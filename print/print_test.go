package print_test

import (
	"math"
	"slices"
	"strings"
	"testing"

	"plenum/api"
	"plenum/parse"
	"plenum/print"
)

// program returns the program of a source.
func program(t *testing.T, source string) api.Program {
	t.Helper()
	p, e, at := parse.Source(source)
	if e != api.OK {
		t.Fatalf("Source(%q): %d, %d", source, e, at)
	}
	return p
}

// prints fails unless a source is printed as want.
func prints(t *testing.T, source, want string) {
	t.Helper()
	if got, e := print.Source(program(t, source)); got != want || e != api.OK {
		t.Errorf("%q is printed as %q, %d, want %q", source, got, e, want)
	}
}

var signs = map[string]int{"or": 0, "and": 1, "==": 2, "!=": 2, "<": 2, "<=": 2, ">": 2, ">=": 2, "..": 3, "+": 4, "-": 4, "*": 5, "/": 5, "%": 5}

// P18.1
func TestClose(t *testing.T) {
	for s, want := range signs {
		if n := print.Close(api.Node{Kind: 11, S: s}); n != want {
			t.Errorf("Close of %s = %d", s, n)
		}
	}
	for _, s := range []string{"", "not", "=", "===", "a", "OR", "(", "-1"} {
		if n := print.Close(api.Node{Kind: 11, S: s}); n != -1 {
			t.Errorf("Close of a Two with %q = %d", s, n)
		}
	}
	for kind := -3; kind < 40; kind++ {
		want := -1
		if kind >= 0 && kind < 11 {
			want = 6
		}
		for _, s := range []string{"", "x", "+"} {
			if n := print.Close(api.Node{Kind: kind, S: s}); kind != 11 && n != want {
				t.Errorf("Close of kind %d = %d", kind, n)
			}
		}
	}
	for _, kind := range []int{math.MaxInt, math.MinInt} {
		if n := print.Close(api.Node{Kind: kind}); n != -1 {
			t.Errorf("Close of kind %d = %d", kind, n)
		}
	}
}

// P18.2
func TestStatements(t *testing.T) {
	prints(t, "", "")
	prints(t, "let x=1;", "let x = 1;\n")
	prints(t, "set  x=  y ;", "set x = y;\n")
	prints(t, `put"a",1;`, "put \"a\", 1;\n")
	prints(t, `delete"a";abort nil;return(x);`, "delete \"a\";\nabort nil;\nreturn x;\n")
	prints(t, "if x{}", "if x { }\n")
	prints(t, "if x{return 1;}", "if x { return 1;\n}\n")
	prints(t, "if x{}else{}", "if x { } else { }\n")
	prints(t, "if x{return 1;return 2;}else{return 3;}return 4;", "if x { return 1;\nreturn 2;\n} else { return 3;\n}\nreturn 4;\n")
	prints(t, `for k,v in scan("a/",9){}`, "for k, v in scan(\"a/\", 9) { }\n")
	prints(t, "for k,v in scan(x..y,64){put k,v;}", "for k, v in scan(x .. y, 64) { put k, v;\n}\n")
	prints(t, "put a or b,c or d;", "put a or b, c or d;\n")
	prints(t, "if(a or b){}", "if a or b { }\n")
	prints(t, "for k,v in scan((a or b),1){}", "for k, v in scan(a or b, 1) { }\n")
	prints(t, "repeat 0{repeat 64{abort 1;}}", "repeat 0 { repeat 64 { abort 1;\n}\n}\n")
}

// P18.2
func TestExpressions(t *testing.T) {
	for _, x := range [][2]string{
		{"(1 + (2 * x)) - (3 - 4)", "1 + 2 * x - (3 - 4)"},
		{"nil", "nil"}, {"true", "true"}, {"false", "false"}, {"0", "0"}, {"9223372036854775807", "9223372036854775807"},
		{`"a\n\"\\b"`, `"a\n\"\\b"`}, {"(x_1)", "x_1"},
		{"get(x)", "get(x)"}, {"has((x))", "has(x)"}, {"len(x or y)", "len(x or y)"}, {"show(-x)", "show(-x)"},
		{"not x", "not x"}, {"not not x", "not not x"}, {"- - x", "--x"}, {"-not -x", "-not -x"}, {"not(x)", "not x"},
		{"not (x == y)", "not (x == y)"}, {"not x == y", "not x == y"}, {"-(1 * 2)", "-(1 * 2)"}, {"-1 * -2", "-1 * -2"}, {"-get(x)", "-get(x)"}, {"not (a and b)", "not (a and b)"},
		{"(a == b) == c", "(a == b) == c"}, {"a == (b == c)", "a == (b == c)"}, {"a .. b == c .. d", "a .. b == c .. d"}, {"(a < b) != (c > d)", "(a < b) != (c > d)"},
		{"((a or b)) and c", "(a or b) and c"}, {"a or (b or c)", "a or (b or c)"}, {"(a or b) or c", "a or b or c"}, {"a and (b or c)", "a and (b or c)"}, {"(a and b) or (c and d)", "a and b or c and d"},
		{"(a .. b) .. c", "a .. b .. c"}, {"a .. (b .. c)", "a .. (b .. c)"},
	} {
		prints(t, "return "+x[0]+";", "return "+x[1]+";\n")
	}
}

// P18.2: of two operators, whichever way they are nested, just the parentheses that are needed are printed.
func TestLevels(t *testing.T) {
	for s, n := range signs {
		for o, m := range signs {
			left, right := "x "+s+" y "+o+" z", "x "+o+" y "+s+" z"
			if n < m || m == 2 && n < 3 {
				left = "(x " + s + " y) " + o + " z"
			}
			if n < m+1 {
				right = "x " + o + " (y " + s + " z)"
			}
			prints(t, "return (x "+s+" y) "+o+" z;", "return "+left+";\n")
			prints(t, "return x "+o+" (y "+s+" z);", "return "+right+";\n")
		}
	}
}

// P18.2
func TestExpr(t *testing.T) {
	p := program(t, `put "a", 1 + 2 * x; return (1 + 2) * 3;`)
	for i, want := range []string{`"a"`, "1", "2", "x", "2 * x", "1 + 2 * x", "", "1", "2", "1 + 2", "3", "(1 + 2) * 3", ""} {
		s, e := print.Expr(p, i)
		if want == "" && (s != "" || e != api.ErrRange) || want != "" && (s != want || e != api.OK) {
			t.Errorf("Expr(%d) = %q, %d, want %q", i, s, e, want)
		}
	}
	if s, e := print.Expr(program(t, "return (a or b);"), 2); s != "a or b" || e != api.OK {
		t.Errorf("Expr of an or = %q, %d", s, e)
	}
	for _, i := range []int{-1, 13, math.MaxInt, math.MinInt} {
		if s, e := print.Expr(p, i); s != "" || e != api.ErrRange {
			t.Errorf("Expr(%d) = %q, %d", i, s, e)
		}
	}
	p.First = 1
	for _, i := range []int{0, 5, 6, -1} {
		if s, e := print.Expr(p, i); s != "" || e != api.ErrArg {
			t.Errorf("Expr(%d) of a wrong program = %q, %d", i, s, e)
		}
	}
	if s, e := print.Source(p); s != "" || e != api.ErrArg {
		t.Errorf("Source of a wrong program = %q, %d", s, e)
	}
}

// P18.2
func TestCount(t *testing.T) {
	p := program(t, "let x = 1 + 2; let y = x; repeat 2 { set x = -x; }")
	for kind, want := range map[int]int{2: 2, 4: 2, 10: 1, 11: 1, 20: 2, 21: 1, 26: 1, 0: 0, 28: 0, 12: 0, -1: 0, math.MaxInt: 0} {
		if n := print.Count(p, kind); n != want {
			t.Errorf("Count(%d) = %d", kind, n)
		}
	}
	p.Nodes[0].I = -1
	if n := print.Count(p, 2); n != 0 {
		t.Errorf("Count of a wrong program = %d", n)
	}
}

const every = `let x = 1; set x = nil; put "a", true; delete "k"; if x == 2 { return 1; return 2; } else { abort 3; }
for k, v in scan("p", 9) { put k, get(k) + 1; } repeat 5 { set x = has("a") or not -x < 7; } if x { abort len(show(x)); } return x;`

// P18.3
func TestRoundTrip(t *testing.T) {
	sources := []string{"", every, strings.Repeat("let x=1;", 204), "repeat 3 { " + every + "}", "return 1" + strings.Repeat("-(2", 14) + strings.Repeat(")", 14) + ";"}
	for s := range signs {
		for o := range signs {
			sources = append(sources, "return not (a "+s+" (b "+o+" -c)) "+s+" ((d "+o+" e) "+s+" get(f "+s+" g));")
		}
	}
	for _, s := range sources {
		p := program(t, s)
		if !print.May(p) {
			t.Fatalf("the program of %q is not valid", s)
		}
		text, e := print.Source(p)
		if e != api.OK {
			t.Fatal(e)
		}
		q, e, at := parse.Source(text)
		if e != api.OK || q.First != p.First || !slices.Equal(q.Nodes, p.Nodes) {
			t.Errorf("%q, printed as %q, is %+v, %d, %d, want %+v", s, text, q, e, at, p)
		}
		if again, _ := print.Source(q); again != text {
			t.Errorf("%q is printed again as %q", text, again)
		}
	}
}
