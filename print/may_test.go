package print_test

import (
	"fmt"
	"math"
	"slices"
	"strings"
	"testing"

	"plenum/api"
	"plenum/print"
)

func blank(kind int) api.Node { return api.Node{Kind: kind, A: -1, B: -1, C: -1, Next: -1} }

func with(n api.Node, f func(*api.Node)) api.Node {
	f(&n)
	return n
}

// alone returns the program with one statement of this expression.
func alone(n ...api.Node) api.Program {
	return api.Program{Nodes: append(n, with(blank(28), func(r *api.Node) { r.A = len(n) - 1 })), First: len(n)}
}

// changed returns p with its node i changed.
func changed(p api.Program, i int, f func(*api.Node)) api.Program {
	p.Nodes = slices.Clone(p.Nodes)
	f(&p.Nodes[i])
	return p
}

// may fails unless May says so.
func may(t *testing.T, what string, p api.Program, want bool) {
	t.Helper()
	if print.May(p) != want {
		t.Errorf("May of %s is %v: %.200v", what, !want, p)
	}
}

// P18.1: a node has the fields of its kind, and no others.
func TestFields(t *testing.T) {
	p := program(t, every)
	may(t, "every kind", p, true)
	has := map[int]string{0: "", 1: "I", 2: "I", 3: "S", 4: "S", 5: "A", 6: "A", 7: "A", 8: "A", 9: "A", 10: "A", 11: "ABS", 20: "SAN", 21: "SAN", 22: "ABN", 23: "AN", 24: "ABCIN", 25: "ABISTN", 26: "IBN", 27: "AN", 28: "AN"}
	seen := map[int]bool{}
	for i, n := range p.Nodes {
		seen[n.Kind] = true
		for _, field := range "ABCNIST" {
			if strings.ContainsRune(has[n.Kind], field) {
				continue
			}
			for _, number := range []int{0, 1, -2, max(0, i-1), i + 1, math.MaxInt} {
				may(t, fmt.Sprintf("node %d of kind %d with %c", i, n.Kind, field), changed(p, i, func(n *api.Node) {
					switch field {
					case 'A':
						n.A = number
					case 'B':
						n.B = number
					case 'C':
						n.C = number
					case 'N':
						n.Next = number
					case 'I':
						n.I = max(1, int64(number))
					case 'S':
						n.S = "x"
					case 'T':
						n.T = "x"
					}
				}), false)
			}
		}
	}
	for kind := -1; kind < 40; kind++ {
		_, known := has[kind]
		if known != seen[kind] {
			t.Errorf("kind %d is not in the program", kind)
		}
		if !known {
			may(t, "an unknown expression", alone(blank(kind)), false)
			may(t, "an unknown statement", api.Program{Nodes: []api.Node{blank(kind)}, First: 0}, false)
		}
	}
	may(t, "an unknown kind", alone(blank(math.MinInt)), false)
	may(t, "an unknown kind", api.Program{Nodes: []api.Node{blank(math.MaxInt)}}, false)
}

// P18.1
func TestNumbers(t *testing.T) {
	for _, x := range []struct {
		kind int
		good []int64
		bad  []int64
	}{
		{1, []int64{0, 1}, []int64{-1, 2, math.MaxInt64, math.MinInt64}},
		{2, []int64{0, 1, math.MaxInt64}, []int64{-1, math.MinInt64}},
	} {
		for _, i := range x.good {
			may(t, "a number", alone(with(blank(x.kind), func(n *api.Node) { n.I = i })), true)
		}
		for _, i := range x.bad {
			may(t, "a number", alone(with(blank(x.kind), func(n *api.Node) { n.I = i })), false)
		}
	}
	for i, want := range map[int64]bool{0: true, 1: true, 64: true, 65: false, -1: false, math.MaxInt64: false, math.MinInt64: false} {
		p := program(t, `repeat 5 { } for k, v in scan("a", 5) { }`)
		may(t, "a Repeat", changed(p, 0, func(n *api.Node) { n.I = i }), want)
		may(t, "a For", changed(p, 2, func(n *api.Node) { n.I = i }), want)
	}
	p := program(t, "if x { } else { }")
	for i, want := range map[int64]bool{0: true, 1: true, 2: false, -1: false, 64: false} {
		may(t, "an If", changed(p, 1, func(n *api.Node) { n.I = i }), want)
	}
	may(t, "an If with a second block", changed(program(t, "if x { } else { return 1; }"), 3, func(n *api.Node) { n.I = 0 }), false)
}

// P18.1
func TestTexts(t *testing.T) {
	long := strings.Repeat("a", 16)
	names := map[string]bool{"x": true, "_": true, long: true, long + "a": false, "": false, "if": false, "X": false, "1": false, "x y": false, " x": false, "x ": false, "x#": false, "\"x\"": false, "==": false, "x;": false}
	for s, want := range names {
		may(t, "a Name", alone(with(blank(4), func(n *api.Node) { n.S = s })), want)
		p := program(t, `let x = 1; set x = 1; for k, v in scan("a", 5) { }`)
		may(t, "a Let", changed(p, 1, func(n *api.Node) { n.S = s }), want)
		may(t, "a Set", changed(p, 3, func(n *api.Node) { n.S = s }), want)
		may(t, "a For", changed(p, 5, func(n *api.Node) { n.S = s }), want)
		may(t, "a For", changed(p, 5, func(n *api.Node) { n.T = s }), want)
	}
	for s, want := range map[string]bool{"": true, "a\n\"\\": true, strings.Repeat("a", 64): true, strings.Repeat("a", 65): false, "\x00": false, "\t": false, "é": false} {
		may(t, "a Text", alone(with(blank(3), func(n *api.Node) { n.S = s })), want)
	}
	for s, want := range map[string]bool{"+": true, "and": true, "": false, "not": false, "=": false, "x": false} {
		may(t, "a Two", alone(blank(0), blank(0), with(blank(11), func(n *api.Node) { n.A, n.B, n.S = 0, 1, s })), want)
	}
}

// P18.1: what a node refers to stands before it, and is of the right sort.
func TestReferences(t *testing.T) {
	p := program(t, every)
	for i, n := range p.Nodes {
		for _, f := range []func(*api.Node, int){
			func(n *api.Node, j int) { n.A = j }, func(n *api.Node, j int) { n.B = j }, func(n *api.Node, j int) { n.C = j }, func(n *api.Node, j int) { n.Next = j },
		} {
			for _, j := range []int{-2, math.MinInt, math.MaxInt, len(p.Nodes), i} {
				may(t, fmt.Sprintf("node %d of kind %d that refers to %d", i, n.Kind, j), changed(p, i, func(n *api.Node) { f(n, j) }), false)
			}
		}
		if n.A >= 0 {
			may(t, "a node without its A", changed(p, i, func(n *api.Node) { n.A = -1 }), false)
		}
	}
	leaf, two := blank(0), with(blank(11), func(n *api.Node) { n.A, n.B, n.S = 0, 1, "+" })
	may(t, "a Two", alone(leaf, leaf, two), true)
	may(t, "a Two of one", alone(leaf, with(two, func(n *api.Node) { n.B = 0 })), false)
	may(t, "a Two without B", alone(leaf, with(two, func(n *api.Node) { n.B = -1 })), false)
	may(t, "a later operand", api.Program{Nodes: []api.Node{with(blank(28), func(n *api.Node) { n.A = 1 }), leaf}, First: 0}, false)
	repeat := func(block, next int) api.Node {
		return with(blank(26), func(n *api.Node) { n.B, n.Next = block, next })
	}
	ret := with(blank(28), func(n *api.Node) { n.A = 0 })
	for _, x := range []struct {
		what  string
		first int
		want  bool
		nodes []api.Node
	}{
		{"nothing", -1, true, nil},
		{"First without a node", 0, false, nil},
		{"First below -1", -2, false, nil},
		{"First above the nodes", 1, false, []api.Node{repeat(-1, -1)}},
		{"First far above", math.MaxInt, false, []api.Node{repeat(-1, -1)}},
		{"one statement", 0, true, []api.Node{repeat(-1, -1)}},
		{"a statement that nothing refers to", -1, false, []api.Node{repeat(-1, -1)}},
		{"First is an expression", 0, false, []api.Node{leaf}},
		{"an expression that nothing refers to", 1, false, []api.Node{leaf, repeat(-1, -1)}},
		{"two in a row", 0, true, []api.Node{repeat(-1, 1), repeat(-1, -1)}},
		{"Next goes back", 1, false, []api.Node{repeat(-1, -1), repeat(-1, 0)}},
		{"Next is the same", 0, false, []api.Node{repeat(-1, 0)}},
		{"a block", 1, true, []api.Node{repeat(-1, -1), repeat(0, -1)}},
		{"a block that comes later", 0, false, []api.Node{repeat(1, -1), repeat(-1, -1)}},
		{"a block that is itself", 0, false, []api.Node{repeat(0, -1)}},
		{"a block that is an expression", 1, false, []api.Node{leaf, repeat(0, -1)}},
		{"Next is an expression", 1, false, []api.Node{leaf, with(ret, func(n *api.Node) { n.Next = 2 }), leaf}},
		{"A is a statement", 1, false, []api.Node{repeat(-1, -1), ret}},
		{"referred to twice", 2, false, []api.Node{repeat(-1, -1), repeat(0, -1), repeat(0, 1)}},
		{"referred to by First and a block", 0, false, []api.Node{repeat(-1, -1), repeat(0, -1)}},
		{"an operand that is itself", -1, false, []api.Node{with(blank(9), func(n *api.Node) { n.A = 0 })}},
		{"an If behind its block", 2, true, []api.Node{repeat(-1, -1), leaf, with(blank(24), func(n *api.Node) { n.A, n.B = 1, 0 })}},
		{"an If behind its second block", 2, true, []api.Node{repeat(-1, -1), leaf, with(blank(24), func(n *api.Node) { n.A, n.C, n.I = 1, 0, 1 })}},
		{"a For behind its block", 2, true, []api.Node{repeat(-1, -1), leaf, with(blank(25), func(n *api.Node) { n.A, n.B, n.S, n.T = 1, 0, "k", "v" })}},
		{"an operand of two", 1, false, []api.Node{leaf, with(ret, func(n *api.Node) { n.Next = 2 }), ret}},
	} {
		may(t, x.what, api.Program{Nodes: x.nodes, First: x.first}, x.want)
	}
}

// P18.1
func TestMost(t *testing.T) {
	nest := func(n int) api.Program {
		l := []api.Node{blank(0)}
		for len(l) < n-1 {
			l = append(l, with(blank(9), func(x *api.Node) { x.A = len(l) - 1 }))
		}
		return alone(l...)
	}
	may(t, "512 nodes", nest(512), true)
	may(t, "513 nodes", nest(513), false)
	if s, e := print.Source(nest(512)); e != api.OK || s != "return "+strings.Repeat("not ", 510)+"nil;\n" {
		t.Errorf("Source of 512 nodes: %d, %q", e, s)
	}
	var blocks []api.Node
	for i := range 512 {
		blocks = append(blocks, with(blank(26), func(n *api.Node) { n.B = i - 1 }))
	}
	if s, e := print.Source(api.Program{Nodes: blocks, First: 511}); e != api.OK || s != strings.Repeat("repeat 0 { ", 511)+"repeat 0 { }\n"+strings.Repeat("}\n", 511) {
		t.Errorf("Source of 512 blocks: %d", e)
	}
}

// P18.1, P18.2: statements that refer to one another are valid though First does not reach them; they are not printed.
func TestUnreached(t *testing.T) {
	p := api.Program{First: -1, Nodes: []api.Node{
		with(blank(26), func(n *api.Node) { n.Next = 1 }),
		with(blank(26), func(n *api.Node) { n.B = 0 }),
	}}
	may(t, "a ring of statements", p, true)
	if s, e := print.Source(p); s != "" || e != api.OK {
		t.Errorf("Source = %q, %d", s, e)
	}
	if n := print.Count(p, 26); n != 2 {
		t.Errorf("Count = %d", n)
	}
}
