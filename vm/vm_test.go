package vm_test

import (
	"slices"
	"strings"
	"testing"

	"plenum/api"
	"plenum/store"
	"plenum/vm"
)

const plenty = 100000

func num(n int64) api.Value { return api.Value{Kind: 2, I: n} }

func text(s string) api.Value { return api.Value{Kind: 3, S: s} }

var no, yes = api.Value{Kind: 1}, api.Value{Kind: 1, I: 1}

// all may read and write everything.
var all = api.Want{Writes: []string{""}}

// made returns a store with these items.
func made(t *testing.T, l ...api.Edit) api.Store {
	t.Helper()
	s, _ := store.New(9999, 999)
	s, e, _ := store.Take(s, l)
	if e != api.OK {
		t.Fatal(e)
	}
	return s
}

// some returns a store with a 1, b 2, c/1 "x", c/2 true and q -5.
func some(t *testing.T) api.Store {
	t.Helper()
	return made(t, api.Edit{Key: "a", Val: num(1)}, api.Edit{Key: "b", Val: num(2)}, api.Edit{Key: "c/1", Val: text("x")}, api.Edit{Key: "c/2", Val: yes}, api.Edit{Key: "q", Val: num(-5)})
}

func same(a, b api.Outcome) bool {
	return a.Code == b.Code && a.Node == b.Node && a.Val == b.Val && a.Gas == b.Gas && slices.Equal(a.Edits, b.Edits)
}

// run fails unless a source runs, with all rights on some items, to this outcome.
func run(t *testing.T, source string, want api.Outcome) {
	t.Helper()
	runs(t, source, some(t), all, plenty, want)
}

func runs(t *testing.T, source string, s api.Store, w api.Want, gas int, want api.Outcome) {
	t.Helper()
	got, e, at := vm.Source(source, s, w, gas)
	if !same(got, want) || e != api.OK || at != -1 {
		t.Errorf("%q with gas %d: %+v, %d, %d, want %+v", source, gas, got, e, at, want)
	}
}

// returns fails unless an expression has this value.
func returns(t *testing.T, expr string, gas int, want api.Value) {
	t.Helper()
	got, e, _ := vm.Source("return "+expr+";", some(t), all, plenty)
	if got.Code != api.OK || got.Val != want || e != api.OK || len(got.Edits) != 0 || got.Gas != gas {
		t.Errorf("%s = %+v, %d, want %v with gas %d", expr, got, e, want, gas)
	}
}

// ends fails unless an expression ends with an error at a node.
func ends(t *testing.T, expr string, want api.Errno, node, gas int) {
	t.Helper()
	run(t, "return "+expr+";", api.Outcome{Code: want, Node: node, Gas: gas})
}

func put(k string, v api.Value) api.Edit { return api.Edit{Key: k, Val: v} }

// P21.1
func TestExpressions(t *testing.T) {
	returns(t, "nil", 2, api.Value{})
	returns(t, "true", 2, yes)
	returns(t, "false", 2, no)
	returns(t, "7", 2, num(7))
	returns(t, `"a\n"`, 2, text("a\n"))
	returns(t, `get("a")`, 3, num(1))
	returns(t, `get("c/1")`, 3, text("x"))
	returns(t, `get("none")`, 3, api.Value{})
	returns(t, `has("a")`, 3, yes)
	returns(t, `has("none")`, 3, no)
	returns(t, `len("abc")`, 3, num(3))
	returns(t, "show(12)", 3, text("12"))
	returns(t, "show(nil)", 3, text("nil"))
	returns(t, "not true", 3, no)
	returns(t, "-7", 3, num(-7))
	returns(t, "7 + 2", 4, num(9))
	returns(t, "7 - 2", 4, num(5))
	returns(t, "7 * 2", 4, num(14))
	returns(t, "-7 / 2", 5, num(-3))
	returns(t, "-7 % 2", 5, num(-1))
	returns(t, `"a" .. "b"`, 4, text("ab"))
	for op, want := range map[string][3]api.Value{"==": {no, yes, no}, "!=": {yes, no, yes}, "<": {yes, no, no}, "<=": {yes, yes, no}, ">": {no, no, yes}, ">=": {no, yes, yes}} {
		for i, b := range []string{"5", "4", "3"} {
			returns(t, "4 "+op+" "+b, 4, want[i])
		}
	}
	returns(t, "nil == 0", 4, no)
	returns(t, "nil != 0", 4, yes)
	returns(t, "1 + 2 * 3 - 4", 8, num(3))
	returns(t, `get("c/" .. show(get("a")))`, 7, text("x"))
}

// P21.1
func TestLazy(t *testing.T) {
	returns(t, "true and true", 4, yes)
	returns(t, "true and false", 4, no)
	returns(t, "false and true", 3, no)
	returns(t, "false or true", 4, yes)
	returns(t, "false or false", 4, no)
	returns(t, "true or false", 3, yes)
	returns(t, "false and 1 / 0", 3, no)
	returns(t, "true or 1 / 0", 3, yes)
	returns(t, "false and 1 or true", 5, yes)
	ends(t, "1 and true", api.ErrType, 2, 3)
	ends(t, "nil or true", api.ErrType, 2, 3)
	ends(t, "true and 1", api.ErrType, 2, 4)
	ends(t, "false or nil", api.ErrType, 2, 4)
	ends(t, "true and 1 / 0", api.ErrZero, 3, 6)
	ends(t, "true and true and 1", api.ErrType, 4, 6)
}

// P21.1
func TestExpressionErrors(t *testing.T) {
	ends(t, "len(1)", api.ErrType, 1, 3)
	ends(t, "not 1", api.ErrType, 1, 3)
	ends(t, "-true", api.ErrType, 1, 3)
	ends(t, "1 + true", api.ErrType, 2, 4)
	ends(t, "1 - nil", api.ErrType, 2, 4)
	ends(t, `1 * "a"`, api.ErrType, 2, 4)
	ends(t, "true / 1", api.ErrType, 2, 4)
	ends(t, "true % 1", api.ErrType, 2, 4)
	ends(t, "1 .. 2", api.ErrType, 2, 4)
	ends(t, "1 / 0", api.ErrZero, 2, 4)
	ends(t, "1 % 0", api.ErrZero, 2, 4)
	ends(t, "9223372036854775807 + 1", api.ErrOver, 2, 4)
	ends(t, "-9223372036854775807 - 2", api.ErrOver, 3, 5)
	ends(t, "9223372036854775807 * 2", api.ErrOver, 2, 4)
	ends(t, "nil < 0", api.ErrType, 2, 4)
	ends(t, "1 >= true", api.ErrType, 2, 4)
	ends(t, `"`+strings.Repeat("x", 64)+`" .. "x"`, api.ErrFull, 2, 4)
	ends(t, "1 / 0 + len(1)", api.ErrZero, 2, 4)
	ends(t, "len(1) + 1 / 0", api.ErrType, 1, 3)
	for _, f := range []string{"get", "has"} {
		ends(t, f+"(1)", api.ErrType, 1, 3)
		ends(t, f+"(nil)", api.ErrType, 1, 3)
		ends(t, f+`("")`, api.ErrForm, 1, 3)
		ends(t, f+`("A")`, api.ErrForm, 1, 3)
		ends(t, f+`("`+strings.Repeat("a", 25)+`")`, api.ErrForm, 1, 3)
	}
}

// P21.1
func TestStatements(t *testing.T) {
	run(t, "", api.Outcome{Node: -1})
	run(t, "let x = 5;", api.Outcome{Node: -1, Gas: 2})
	run(t, "let x = 5; let y = x + 1; set x = y * y; return x;", api.Outcome{Node: 11, Val: num(36), Gas: 12})
	run(t, "return 1; return 2;", api.Outcome{Node: 1, Val: num(1), Gas: 2})
	run(t, "return nil;", api.Outcome{Node: 1, Gas: 2})
	run(t, `abort "x";`, api.Outcome{Code: api.ErrAbort, Node: 1, Val: text("x"), Gas: 2})
	run(t, `put "a", 7; abort get("a");`, api.Outcome{Code: api.ErrAbort, Node: 5, Val: num(7), Gas: 6})
	run(t, `put "a", 1 / 0;`, api.Outcome{Code: api.ErrZero, Node: 3, Gas: 5})
	run(t, `put "a", get("a") + get("b");`, api.Outcome{Node: -1, Gas: 7, Edits: []api.Edit{put("a", num(3))}})
	run(t, `put "z", 1; put "b", 2; delete "a"; delete "none";`, api.Outcome{Node: -1, Gas: 10, Edits: []api.Edit{put("a", api.Value{}), put("b", num(2)), put("none", api.Value{}), put("z", num(1))}})
	run(t, `put "a", 5; put "a", get("a") + 1; return get("a");`, api.Outcome{Node: 11, Val: num(6), Gas: 11 + 1, Edits: []api.Edit{put("a", num(6))}})
	run(t, `delete "a"; return has("a");`, api.Outcome{Node: 4, Val: no, Gas: 5, Edits: []api.Edit{put("a", api.Value{})}})
	run(t, `delete "a"; return get("a");`, api.Outcome{Node: 4, Gas: 5, Edits: []api.Edit{put("a", api.Value{})}})
	run(t, `delete "a"; put "a", 9; return get("a");`, api.Outcome{Node: 7, Val: num(9), Gas: 8, Edits: []api.Edit{put("a", num(9))}})
	run(t, `put "n", 1; delete "n"; return has("n");`, api.Outcome{Node: 7, Val: no, Gas: 8, Edits: []api.Edit{put("n", api.Value{})}})
}

// P21.1
func TestWriteErrors(t *testing.T) {
	for source, want := range map[string]api.Outcome{
		"put 1, 2;":                 {Code: api.ErrType, Node: 2, Gas: 3},
		`put "A", 2;`:               {Code: api.ErrForm, Node: 2, Gas: 3},
		`put "", 2;`:                {Code: api.ErrForm, Node: 2, Gas: 3},
		`put "a", nil;`:             {Code: api.ErrType, Node: 2, Gas: 3},
		`put 1, nil;`:               {Code: api.ErrType, Node: 2, Gas: 3},
		`put "A", nil;`:             {Code: api.ErrForm, Node: 2, Gas: 3},
		"delete nil;":               {Code: api.ErrType, Node: 1, Gas: 2},
		`delete "A";`:               {Code: api.ErrForm, Node: 1, Gas: 2},
		`put len(1), 1 / 0;`:        {Code: api.ErrType, Node: 1, Gas: 3},
		`put "a", 1; put "A", 1;`:   {Code: api.ErrForm, Node: 5, Gas: 6},
		`put "a", 1; return -true;`: {Code: api.ErrType, Node: 4, Gas: 6},
	} {
		run(t, source, want)
	}
}

// P21.1
func TestIf(t *testing.T) {
	run(t, "if true { return 1; } else { return 2; } return 3;", api.Outcome{Node: 2, Val: num(1), Gas: 4})
	run(t, "if false { return 1; } else { return 2; } return 3;", api.Outcome{Node: 4, Val: num(2), Gas: 4})
	run(t, "if true { } else { return 2; } return 3;", api.Outcome{Node: 5, Val: num(3), Gas: 4})
	run(t, "if false { return 1; } return 3;", api.Outcome{Node: 5, Val: num(3), Gas: 4})
	run(t, "if false { return 1; } else { } return 3;", api.Outcome{Node: 5, Val: num(3), Gas: 4})
	run(t, "if true { let x = 1; } let y = 2; return y;", api.Outcome{Node: 7, Val: num(2), Gas: 8})
	run(t, "if 1 { return 1; }", api.Outcome{Code: api.ErrType, Node: 3, Gas: 2})
	run(t, "if nil { }", api.Outcome{Code: api.ErrType, Node: 1, Gas: 2})
	run(t, `if get("a") == 1 and not has("z") { put "z", 1; } else { put "y", 1; }`, api.Outcome{Node: -1, Gas: 12, Edits: []api.Edit{put("z", num(1))}})
}

// P21.1
func TestRepeat(t *testing.T) {
	run(t, "repeat 0 { abort 1; }", api.Outcome{Node: -1, Gas: 1})
	run(t, "repeat 5 { }", api.Outcome{Node: -1, Gas: 6})
	run(t, "let x = 1; repeat 5 { set x = x * 2; } return x;", api.Outcome{Node: 8, Val: num(32), Gas: 2 + 1 + 5*5 + 2})
	run(t, "let x = 0; repeat 3 { repeat 4 { set x = x + 1; } } return x;", api.Outcome{Node: 9, Val: num(12), Gas: 2 + 1 + 3*2 + 12*5 + 2})
	run(t, "let x = 0; repeat 9 { set x = x + 1; if x == 4 { return x; } }", api.Outcome{Node: 10, Val: num(4), Gas: 2 + 1 + 4*9 + 2})
	run(t, "repeat 3 { let x = 1; let y = x; } repeat 2 { let z = 1; }", api.Outcome{Node: -1, Gas: 1 + 3*5 + 1 + 2*3})
}

// P21.1
func TestFor(t *testing.T) {
	run(t, `for k, v in scan("", 9) { if v == 2 { return k; } }`, api.Outcome{Node: 5, Val: text("b"), Gas: 2 + 2*5 + 2})
	run(t, `let s = ""; for k, v in scan("", 64) { set s = s .. k .. "=" .. show(v) .. ","; } return s;`, api.Outcome{Node: 16, Val: text("a=1,b=2,c/1=x,c/2=true,q=-5,"), Gas: 2 + 2 + 5*12 + 2})
	run(t, `let s = ""; for k, v in scan("c/", 64) { set s = s .. k; } return s;`, api.Outcome{Node: 9, Val: text("c/1c/2"), Gas: 2 + 2 + 2*5 + 2})
	run(t, `let s = ""; for k, v in scan("", 3) { set s = s .. k; } return s;`, api.Outcome{Node: 9, Val: text("abc/1"), Gas: 2 + 2 + 3*5 + 2})
	run(t, `for k, v in scan("", 0) { abort 1; }`, api.Outcome{Node: -1, Gas: 2})
	run(t, `for k, v in scan("zz", 9) { abort 1; }`, api.Outcome{Node: -1, Gas: 2})
	run(t, `for k, v in scan("a", 9) { abort v; }`, api.Outcome{Code: api.ErrAbort, Node: 2, Val: num(1), Gas: 5})
	run(t, "for k, v in scan(1, 9) { }", api.Outcome{Code: api.ErrType, Node: 1, Gas: 2})
	run(t, "for k, v in scan(nil, 0) { }", api.Outcome{Code: api.ErrType, Node: 1, Gas: 2})
	run(t, `for k, v in scan("A", 9) { }`, api.Outcome{Code: api.ErrForm, Node: 1, Gas: 2})
	run(t, `for k, v in scan("A", 0) { }`, api.Outcome{Code: api.ErrForm, Node: 1, Gas: 2})
	run(t, `for k, v in scan("c", 9) { for l, w in scan(k, 9) { put "r/" .. l, w; } }`, api.Outcome{Node: -1, Gas: 2 + 2*(1+2+1+5), Edits: []api.Edit{put("r/c/1", text("x")), put("r/c/2", yes)}})
}

// P21.1: a loop runs over what the run saw when it began.
func TestForChanged(t *testing.T) {
	show := `let s = ""; for k, v in scan("", 64) { set s = s .. k .. show(v) .. ","; } return s;`
	for change, want := range map[string]string{
		`put "aa", 7;`:                 "a1,aa7,b2,c/1x,c/2true,q-5,",
		`put "a", 7;`:                  "a7,b2,c/1x,c/2true,q-5,",
		`put "z", 7; put "-", 8;`:      "-8,a1,b2,c/1x,c/2true,q-5,z7,",
		`delete "b"; delete "n";`:      "a1,c/1x,c/2true,q-5,",
		`delete "a"; put "a", 3;`:      "a3,b2,c/1x,c/2true,q-5,",
		`put "n", 3; delete "n";`:      "a1,b2,c/1x,c/2true,q-5,",
		`delete "a"; delete "q";`:      "b2,c/1x,c/2true,",
		`put "c", nil == nil;`:         "a1,b2,ctrue,c/1x,c/2true,q-5,",
		`delete "c/1"; put "c/0", "";`: "a1,b2,c/0,c/2true,q-5,",
	} {
		got, e, _ := vm.Source(change+show, some(t), all, plenty)
		if got.Val != text(want) || got.Code != api.OK || e != api.OK {
			t.Errorf("after %q: %v, %d", change, got.Val, got.Code)
		}
	}
	first := `let s = ""; for k, v in scan("", 2) { set s = s .. k; } return s;`
	for change, want := range map[string]string{`delete "a";`: "bc/1", `put "aa", 1;`: "aaa", `delete "a"; delete "b"; put "0", 1;`: "0c/1", `put "0", 1; put "1", 1; put "2", 1;`: "01", `put "b", 9;`: "ab"} {
		if got, _, _ := vm.Source(change+first, some(t), all, plenty); got.Val != text(want) {
			t.Errorf("the first two after %q: %v", change, got.Val)
		}
	}
	run(t, `for k, v in scan("", 64) { delete k; put "n" .. k, v; put "q", 1; }`, api.Outcome{Node: -1, Gas: 2 + 5*(1+2+5+3), Edits: []api.Edit{
		put("a", api.Value{}), put("b", api.Value{}), put("c/1", api.Value{}), put("c/2", api.Value{}), put("na", num(1)), put("nb", num(2)), put("nc/1", text("x")), put("nc/2", yes), put("nq", num(-5)), put("q", num(1)),
	}})
	run(t, `for k, v in scan("a/", 9) { put k, v + 1; }`, api.Outcome{Node: -1, Gas: 2})
}
