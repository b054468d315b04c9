package code_test

import (
	"fmt"
	"math"
	"slices"
	"strings"
	"testing"

	"plenum/api"
	"plenum/code"
	"plenum/parse"
	"plenum/scope"
)

// sources are programs with all kinds of nodes, at the limits too.
func sources() []string {
	l := []string{
		"", "return 1 + 2;", "return 1;", "let x = 1; set x = -x; return x;",
		`put "a", 1; delete "b"; abort nil;`,
		"if true { return 1; } else { return 2; } return 3;", "if true { } else { }", "if true { }",
		`for k, v in scan("a", 9) { put k, v + 1; }`, `for k, v in scan("a", 0) { }`,
		"repeat 64 { repeat 64 { } }", "repeat 0 { }",
		`return not has("a") and get("b") == nil or len(show(1 .. 2)) <= 3 % 4 / 5 * 6 - 7;`,
		"return 1" + strings.Repeat("+1", 255) + ";",
		"return " + strings.Repeat("(1+", 15) + "1" + strings.Repeat(")", 15) + ";",
		strings.Repeat("if true { } ", 170),
		strings.Repeat(`for k,v in scan(1,1){}`, 70),
		"return true" + strings.Repeat(" and true", 250) + ";",
	}
	s := ""
	for i := range 32 {
		s += fmt.Sprintf("let x%d = %d; ", i, i)
	}
	return append(l, s)
}

func program(t *testing.T, source string) api.Program {
	t.Helper()
	p, e, at := parse.Source(source)
	if e != api.OK {
		t.Fatalf("Source(%q): %d, %d", source, e, at)
	}
	return p
}

func same(a, b api.Program) bool { return a.First == b.First && slices.Equal(a.Nodes, b.Nodes) }

// P20.1, P20.2
func TestMake(t *testing.T) {
	for _, s := range sources() {
		p := program(t, s)
		c, e, at := code.Make(p)
		if e != api.OK || at != -1 || c == nil {
			t.Errorf("Make of %q: %d, %d", s, e, at)
			continue
		}
		n := len(p.Nodes)
		if _, most, _, _ := scope.Slots(p); c.Slots() != most {
			t.Errorf("%q: Slots = %d, want %d", s, c.Slots(), most)
		}
		if c.High() < 0 || c.High() > n+1 {
			t.Errorf("%q: High = %d of %d nodes", s, c.High(), n)
		}
		if c.Size() < 1 || c.Size() > 4*n+1 {
			t.Errorf("%q: Size = %d of %d nodes", s, c.Size(), n)
		}
		if !same(c.Program(), p) {
			t.Errorf("%q: Program = %+v", s, c.Program())
		}
		for i := range c.Size() {
			if in, ok := c.At(i); !ok || in.Node < -1 || in.Node >= n {
				t.Errorf("%q: At(%d) = %+v, %v", s, i, in, ok)
			}
		}
		for _, i := range []int{-1, c.Size(), c.Size() + 1, math.MaxInt, math.MinInt} {
			if in, ok := c.At(i); ok || in != (api.Ins{}) {
				t.Errorf("%q: At(%d) = %+v, %v", s, i, in, ok)
			}
		}
	}
	if c, _, _ := code.Make(program(t, "return 1 + 2;")); c.Slots() != 0 || c.Size() > 17 {
		t.Errorf("the first example has %d slots, %d instructions", c.Slots(), c.Size())
	}
}

// valid is layer 7's word for values that a program can have.
func valid(v api.Value) bool {
	switch v.Kind {
	case 0:
		return v.I == 0 && v.S == ""
	case 1:
		return (v.I == 0 || v.I == 1) && v.S == ""
	case 2:
		return v.S == ""
	}
	return v.Kind == 3 && v.I == 0 && len(v.S) <= 64
}

// P20.2
func TestValue(t *testing.T) {
	for _, s := range append(sources(), `put "`+strings.Repeat("x", 64)+`", 9223372036854775807; put nil, true;`) {
		c, e, _ := code.Source(s)
		if e != api.OK {
			t.Fatalf("%q: %d", s, e)
		}
		n := 0
		for ; ; n++ {
			v, ok := c.Value(n)
			if !ok {
				break
			}
			if !valid(v) {
				t.Errorf("%q: Value(%d) = %v", s, n, v)
			}
		}
		for _, i := range []int{-1, n, n + 1, math.MaxInt, math.MinInt} {
			if v, ok := c.Value(i); ok || v != (api.Value{}) {
				t.Errorf("%q: Value(%d) = %v, %v", s, i, v, ok)
			}
		}
	}
}

// P20.1
func TestErrors(t *testing.T) {
	wrong := program(t, "return 1;")
	wrong.First = 0
	for _, x := range []struct {
		p  api.Program
		e  api.Errno
		at int
	}{
		{wrong, api.ErrArg, -1},
		{program(t, "return x;"), api.ErrName, 0},
		{program(t, "let x = 1; let x = 2;"), api.ErrThere, 3},
		{program(t, "let x = 1; return 1 + y;"), api.ErrName, 3},
		{program(t, "repeat 1 { "+lets(33)+"}"), api.ErrFull, 65},
	} {
		if c, e, at := code.Make(x.p); c != nil || e != x.e || at != x.at {
			t.Errorf("Make = %v, %d, %d, want %d, %d", c, e, at, x.e, x.at)
		}
	}
	for s, want := range map[string]struct {
		e  api.Errno
		at int
	}{
		"return x;": {api.ErrName, 0}, "let a = 1; return 1 - x;": {api.ErrName, 3}, "1;": {api.ErrForm, 0}, "return 1; return ?;": {api.ErrForm, 17},
		`return "a`: {api.ErrShort, 7}, "repeat 65 { }": {api.ErrOver, 7}, strings.Repeat(" ", 4097): {api.ErrFull, 4096}, "return x; }": {api.ErrForm, 10},
	} {
		if c, e, at := code.Source(s); c != nil || e != want.e || at != want.at {
			t.Errorf("Source(%.40q) = %v, %d, %d, want %v", s, c, e, at, want)
		}
	}
}

func lets(n int) string {
	s := ""
	for i := range n {
		s += fmt.Sprintf("let x%d = 1; ", i)
	}
	return s
}

// P20.1, P20.3
func TestSame(t *testing.T) {
	for _, s := range sources() {
		a, _, _ := code.Make(program(t, s))
		b, e, at := code.Source(s)
		if e != api.OK || at != -1 {
			t.Fatalf("Source(%q): %d, %d", s, e, at)
		}
		if a.Slots() != b.Slots() || a.High() != b.High() || a.Size() != b.Size() || !same(a.Program(), b.Program()) {
			t.Errorf("%q is compiled in two ways", s)
		}
		for i := range a.Size() {
			x, _ := a.At(i)
			if y, _ := b.At(i); x != y {
				t.Errorf("%q: At(%d) = %v and %v", s, i, x, y)
			}
			v, vok := a.Value(i)
			if w, wok := b.Value(i); v != w || vok != wok {
				t.Errorf("%q: Value(%d) = %v and %v", s, i, v, w)
			}
		}
	}
}

// P20.2, R3: the program of a code is its own, whatever happens to the argument or to a result.
func TestCopies(t *testing.T) {
	p := program(t, "return 1 + 2;")
	c, _, _ := code.Make(p)
	clear(p.Nodes)
	if !same(c.Program(), program(t, "return 1 + 2;")) {
		t.Error("the code shares its argument")
	}
	clear(c.Program().Nodes)
	if !same(c.Program(), program(t, "return 1 + 2;")) {
		t.Error("the code shares its result")
	}
}
