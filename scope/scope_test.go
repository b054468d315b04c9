package scope_test

import (
	"fmt"
	"slices"
	"strings"
	"testing"

	"plenum/api"
	"plenum/parse"
	"plenum/scope"
)

// program returns the program of a source.
func program(t *testing.T, source string) api.Program {
	t.Helper()
	p, e, at := parse.Source(source)
	if e != api.OK {
		t.Fatalf("Source(%q): %d, %d", source, e, at)
	}
	return p
}

// slots fails unless a source has these slots (of the nodes that have one), and so many names at most.
func slots(t *testing.T, source string, most int, want ...int) {
	t.Helper()
	p := program(t, source)
	l, n, e, at := scope.Slots(p)
	if n != most || e != api.OK || at != -1 || len(l) != len(p.Nodes) {
		t.Errorf("Slots of %q = %v, %d, %d, %d", source, l, n, e, at)
		return
	}
	var got []int
	for i, x := range p.Nodes {
		if slices.Contains([]int{4, 20, 21, 25}, x.Kind) {
			got = append(got, l[i])
		} else if l[i] != -1 {
			t.Errorf("Slots of %q: node %d of kind %d has the slot %d", source, i, x.Kind, l[i])
		}
	}
	if !slices.Equal(got, want) {
		t.Errorf("Slots of %q = %v, want %v", source, got, want)
	}
	if f, e := scope.Free(p); len(f) != 0 || e != api.OK {
		t.Errorf("Free of %q = %v, %d", source, f, e)
	}
}

// fails fails unless a source has this error at this node.
func fails(t *testing.T, source string, want api.Errno, node int) {
	t.Helper()
	if l, n, e, at := scope.Slots(program(t, source)); len(l) != 0 || n != 0 || e != want || at != node {
		t.Errorf("Slots of %q = %v, %d, %d, %d, want %d, %d", source, l, n, e, at, want, node)
	}
}

// lets declares n names.
func lets(n int) string {
	s := ""
	for i := range n {
		s += fmt.Sprintf("let x%d = 1; ", i)
	}
	return s
}

// P19.1
func TestSlots(t *testing.T) {
	slots(t, "", 0)
	slots(t, "return 1;", 0)
	slots(t, "let x = 1; let y = x;", 2, 0, 0, 1)
	slots(t, "let x = 1; set x = x + 1; return x;", 1, 0, 0, 0, 0)
	slots(t, "let x = 1; let y = 2; put x, y; delete y; abort get(x .. y); return not -y;", 2, 0, 1, 0, 1, 1, 0, 1, 1)
	slots(t, "repeat 1 { let x = 1; } let x = 2;", 1, 0, 0)
	slots(t, "let a = 1; repeat 1 { let b = a; let c = b; } let b = a; return b;", 3, 0, 0, 1, 1, 2, 0, 1, 1)
	slots(t, "if true { let a = 1; let b = a; } else { let b = 1; let a = b; } let c = 1;", 2, 0, 0, 1, 0, 0, 1, 0)
	slots(t, "let a = 1; for k, v in scan(a, 9) { put k, v; let w = v; set k = w; } let k = a; return k;", 4, 0, 0, 1, 2, 2, 3, 3, 1, 1, 0, 1, 1)
	slots(t, `for k, v in scan("a", 1) { for l, w in scan(k, 1) { put l, w; } } for k, v in scan("a", 1) { }`, 4, 0, 2, 3, 2, 0, 0)
	slots(t, lets(32)+"return x31;", 32, append(upTo(32), 31)...)
	slots(t, lets(30)+"for k, v in scan(x0, 1) { put k, v; }", 32, append(upTo(30), 0, 30, 31, 30)...)
	slots(t, lets(31)+"repeat 1 { let a = 1; } repeat 2 { let b = 1; }", 32, append(upTo(31), 31, 31)...)
}

func upTo(n int) []int {
	var l []int
	for i := range n {
		l = append(l, i)
	}
	return l
}

// P19.1
func TestName(t *testing.T) {
	fails(t, "return x;", api.ErrName, 0)
	fails(t, "let x = x;", api.ErrName, 0)
	fails(t, "set x = 1;", api.ErrName, 1)
	fails(t, "set x = y;", api.ErrName, 0)
	fails(t, "return 1 + (2 - x);", api.ErrName, 2)
	fails(t, "return x + y;", api.ErrName, 0)
	fails(t, "return get(x) + y;", api.ErrName, 0)
	fails(t, "put 1, x;", api.ErrName, 1)
	fails(t, "put x, y;", api.ErrName, 0)
	fails(t, "return x; return y;", api.ErrName, 0)
	fails(t, "repeat 1 { let x = 1; } return x;", api.ErrName, 3)
	fails(t, "if true { let x = 1; } else { return x; }", api.ErrName, 3)
	fails(t, "if true { } else { let x = 1; } return x;", api.ErrName, 4)
	fails(t, "if x { return y; } else { return z; }", api.ErrName, 0)
	fails(t, "if true { return y; } else { return z; }", api.ErrName, 1)
	fails(t, "for k, v in scan(k, 1) { }", api.ErrName, 0)
	fails(t, `for k, v in scan("a", 1) { } return k;`, api.ErrName, 2)
	fails(t, `for k, v in scan("a", 1) { } return v;`, api.ErrName, 2)
	fails(t, `for k, v in scan("a", 1) { return w; }`, api.ErrName, 1)
	fails(t, "repeat 1 { return a; let a = 1; }", api.ErrName, 0)
}

// P19.1
func TestThere(t *testing.T) {
	fails(t, "let x = 1; let x = 2;", api.ErrThere, 3)
	fails(t, "let x = 1; repeat 1 { let x = 2; }", api.ErrThere, 3)
	fails(t, "let x = 1; let x = y;", api.ErrName, 2)
	fails(t, `let k = 1; for k, v in scan("a", 1) { }`, api.ErrThere, 3)
	fails(t, `let v = 1; for k, v in scan("a", 1) { }`, api.ErrThere, 3)
	fails(t, `for k, k in scan("a", 1) { }`, api.ErrThere, 1)
	fails(t, `for k, k in scan(x, 1) { }`, api.ErrName, 0)
	fails(t, `for k, k in scan("a", 1) { return x; }`, api.ErrThere, 2+1)
	fails(t, `for k, v in scan("a", 1) { let k = 1; }`, api.ErrThere, 2)
	fails(t, `for k, v in scan("a", 1) { let v = 1; }`, api.ErrThere, 2)
	fails(t, lets(32)+"let x5 = 1;", api.ErrThere, 65)
	fails(t, lets(32)+"for x7, v in scan(\"a\", 1) { }", api.ErrThere, 65)
	fails(t, lets(31)+"for k, k in scan(\"a\", 1) { }", api.ErrThere, 63)
}

// P19.1
func TestFull(t *testing.T) {
	fails(t, lets(33), api.ErrFull, 65)
	fails(t, lets(32)+"let y = z;", api.ErrName, 64)
	fails(t, lets(32)+"repeat 1 { let y = 1; }", api.ErrFull, 65)
	fails(t, lets(32)+`for k, v in scan("a", 1) { }`, api.ErrFull, 65)
	fails(t, lets(31)+`for k, v in scan("a", 1) { }`, api.ErrFull, 63)
	fails(t, lets(30)+`for k, v in scan("a", 1) { let z = 1; }`, api.ErrFull, 62)
}

// P19.1, P19.2
func TestArg(t *testing.T) {
	wrong := program(t, "return 1;")
	wrong.First = 0
	if l, n, e, at := scope.Slots(wrong); len(l) != 0 || n != 0 || e != api.ErrArg || at != -1 {
		t.Errorf("Slots of a wrong program = %v, %d, %d, %d", l, n, e, at)
	}
	if l, e := scope.Names(wrong); len(l) != 0 || e != api.ErrArg {
		t.Errorf("Names of a wrong program = %v, %d", l, e)
	}
	if l, e := scope.Free(wrong); len(l) != 0 || e != api.ErrArg {
		t.Errorf("Free of a wrong program = %v, %d", l, e)
	}
}

// P19.2
func TestNames(t *testing.T) {
	for source, want := range map[string]string{
		"": "", "return x;": "", "set x = 1;": "", "let b = 1; let a = 2;": "b a", "let a = 1; let a = a;": "a a",
		`for k, v in scan("a", 1) { let w = 1; for k, z in scan("a", 1) { } } let k = 1;`:                   "k v w k z k",
		"if true { let c = 1; repeat 1 { let d = 1; } let e = 1; } else { let b = 1; } let a = undeclared;": "c d e b a",
		`for k, k in scan("a", 1) { }`: "k k",
		lets(34):                       strings.TrimSpace(strings.NewReplacer("let ", "", " = 1;", "").Replace(lets(34))),
	} {
		if l, e := scope.Names(program(t, source)); !slices.Equal(l, strings.Fields(want)) || e != api.OK {
			t.Errorf("Names of %q = %v, %d, want %s", source, l, e, want)
		}
	}
}

// P19.2
func TestFree(t *testing.T) {
	for source, want := range map[string]string{
		"": "", "return x;": "x", "set x = y;": "y x", "return b + a * b - c;": "b a c", "put b, a; delete c; let d = d; return d + e;": "b a c d e",
		"let x = 1; let x = 2; return x;":                                 "",
		"repeat 1 { let x = y; } return x;":                               "y x",
		`for k, k in scan(z, 1) { return k + v; } set k = 1;`:             "z v k",
		"if a { set b = 1; } else { set c = 1; } set d = e;":              "a b c e d",
		"let x = 1; repeat 1 { let x = 2; } return x;":                    "",
		lets(40) + "return x39 + x0;":                                     "",
		"repeat 1 { " + lets(33) + "return x32; } return x32 + x32 + x0;": "x32 x0",
	} {
		if l, e := scope.Free(program(t, source)); !slices.Equal(l, strings.Fields(want)) || e != api.OK {
			t.Errorf("Free of %q = %v, %d, want %s", source, l, e, want)
		}
	}
}

// P19.3: names that are visible at one point have different slots below the number that Slots returns.
func TestDistinct(t *testing.T) {
	source := `let a = 1; repeat 1 { let b = a; for k, v in scan("a", 1) { let c = a + b; put k, v + c; } let d = b; } if a == 1 { let e = a; } else { let f = a; let g = f; } let h = a;`
	p := program(t, source)
	l, n, _, _ := scope.Slots(p)
	of := map[string]int{}
	for i, x := range p.Nodes {
		if l[i] >= n {
			t.Errorf("node %d has the slot %d of %d", i, l[i], n)
		}
		if s, ok := of[x.S]; x.S != "" && l[i] >= 0 && ok && s != l[i] {
			t.Errorf("%s has the slots %d and %d", x.S, s, l[i])
		}
		if l[i] >= 0 {
			of[x.S] = l[i]
		}
	}
	if of["a"] != 0 || of["b"] != 1 || of["k"] != 2 || of["v"] != 3 || of["c"] != 4 || of["d"] != 2 || of["e"] != 1 || of["f"] != 1 || of["g"] != 2 || of["h"] != 1 || n != 5 {
		t.Errorf("the slots are %v, %d", of, n)
	}
}
