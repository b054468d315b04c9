package parse_test

import (
	"math"
	"slices"
	"strings"
	"testing"

	"plenum/api"
	"plenum/lex"
	"plenum/parse"
)

// node returns a node of a kind; what it does not have is -1, 0 or empty.
func node(kind int, f ...func(*api.Node)) api.Node {
	n := api.Node{Kind: kind, A: -1, B: -1, C: -1, Next: -1}
	for _, g := range f {
		g(&n)
	}
	return n
}

func a(i int) func(*api.Node)        { return func(n *api.Node) { n.A = i } }
func b(i int) func(*api.Node)        { return func(n *api.Node) { n.B = i } }
func c(i int) func(*api.Node)        { return func(n *api.Node) { n.C = i } }
func next(i int) func(*api.Node)     { return func(n *api.Node) { n.Next = i } }
func num(i int64) func(*api.Node)    { return func(n *api.Node) { n.I = i } }
func text(s string) func(*api.Node)  { return func(n *api.Node) { n.S = s } }
func other(s string) func(*api.Node) { return func(n *api.Node) { n.T = s } }

func lit(i int64) api.Node                { return node(2, num(i)) }
func name(s string) api.Node              { return node(4, text(s)) }
func two(s string, l, r int) api.Node     { return node(11, text(s), a(l), b(r)) }
func ret(i int, more ...int) api.Node     { return node(28, a(i), next(append(more, -1)[0])) }
func repeat(i int64, b1, nx int) api.Node { return node(26, num(i), b(b1), next(nx)) }

// gives fails unless a source has this program.
func gives(t *testing.T, source string, first int, want ...api.Node) {
	t.Helper()
	p, e, at := parse.Source(source)
	if e != api.OK || at != 0 || p.First != first || !slices.Equal(p.Nodes, want) {
		t.Errorf("Source(%q) = %+v, %d, %d\nwant %d %+v", source, p, e, at, first, want)
	}
	l, _, _ := lex.Tokens(source)
	q, e, at := parse.Tokens(l)
	if e != api.OK || at != 0 || q.First != first || !slices.Equal(q.Nodes, want) {
		t.Errorf("Tokens of %q = %+v, %d, %d", source, q, e, at)
	}
}

// fails fails unless a source has this error there.
func fails(t *testing.T, source string, want api.Errno, where int) {
	t.Helper()
	if p, e, at := parse.Source(source); e != want || at != where || p.First != 0 || len(p.Nodes) != 0 {
		t.Errorf("Source(%q) = %+v, %d, %d, want %d, %d", source, p, e, at, want, where)
	}
}

// full fails unless a source has too many nodes, from one offset to another one.
func full(t *testing.T, source string, from, to int) {
	t.Helper()
	if p, e, at := parse.Source(source); e != api.ErrFull || at < from || at > to || p.First != 0 || len(p.Nodes) != 0 {
		t.Errorf("Source(%q) = %+v, %d, %d, want %d to %d", source, p, e, at, from, to)
	}
}

// P17.1
func TestStatements(t *testing.T) {
	gives(t, "", -1)
	gives(t, `put "a", 1 + 2 * x;`, 6, node(3, text("a")), lit(1), lit(2), name("x"), two("*", 2, 3), two("+", 1, 4), node(22, a(0), b(5)))
	gives(t, "let x = 1;", 1, lit(1), node(20, text("x"), a(0)))
	gives(t, "set x = y;", 1, name("y"), node(21, text("x"), a(0)))
	gives(t, `delete "k";`, 1, node(3, text("k")), node(23, a(0)))
	gives(t, "abort nil;", 1, node(0), node(27, a(0)))
	gives(t, "return true;", 1, node(1, num(1)), ret(0))
	gives(t, "let x = 1; set x = 2; return x;", 1, lit(1), node(20, text("x"), a(0), next(3)), lit(2), node(21, text("x"), a(2), next(5)), name("x"), ret(4))
}

// P17.1
func TestBlocks(t *testing.T) {
	gives(t, "if x { }", 1, name("x"), node(24, a(0)))
	gives(t, "if x { } else { }", 1, name("x"), node(24, a(0), num(1)))
	gives(t, "if x { return 1; return 2; } return 3;", 5, name("x"), lit(1), ret(1, 4), lit(2), ret(3), node(24, a(0), b(2), next(7)), lit(3), ret(6))
	gives(t, "if x { } else { return 1; }", 3, name("x"), lit(1), ret(1), node(24, a(0), c(2), num(1)))
	gives(t, "if x { return 1; } else { return 2; return 3; }", 7, name("x"), lit(1), ret(1), lit(2), ret(3, 6), lit(3), ret(5), node(24, a(0), b(2), c(4), num(1)))
	gives(t, `for k, v in scan("a/", 9) { }`, 1, node(3, text("a/")), node(25, a(0), text("k"), other("v"), num(9)))
	gives(t, `for k, v in scan("a/", 64) { put k, v; delete k; } return 0;`, 6,
		node(3, text("a/")), name("k"), name("v"), node(22, a(1), b(2), next(5)), name("k"), node(23, a(4)),
		node(25, a(0), b(3), text("k"), other("v"), num(64), next(8)), lit(0), ret(7))
	gives(t, "repeat 0 { repeat 64 { return 1; } repeat 2 { } }", 4, lit(1), ret(0), repeat(64, 1, 3), repeat(2, -1, -1), repeat(0, 2, -1))
}

// P17.1
func TestExpressions(t *testing.T) {
	gives(t, "return nil;", 1, node(0), ret(0))
	gives(t, "return false;", 1, node(1), ret(0))
	gives(t, `return "a\n";`, 1, node(3, text("a\n")), ret(0))
	gives(t, "return 9223372036854775807;", 1, lit(math.MaxInt64), ret(0))
	for word, kind := range map[string]int{"get": 5, "has": 6, "len": 7, "show": 8} {
		gives(t, "return "+word+"(x);", 2, name("x"), node(kind, a(0)), ret(1))
		gives(t, "return "+word+"(x .. y);", 4, name("x"), name("y"), two("..", 0, 1), node(kind, a(2)), ret(3))
	}
	gives(t, "return not x;", 2, name("x"), node(9, a(0)), ret(1))
	gives(t, "return -x;", 2, name("x"), node(10, a(0)), ret(1))
	gives(t, "return - - not -1;", 5, lit(1), node(10, a(0)), node(9, a(1)), node(10, a(2)), node(10, a(3)), ret(4))
	gives(t, "return ((x));", 1, name("x"), ret(0))
	gives(t, "return -(1 + 2);", 4, lit(1), lit(2), two("+", 0, 1), node(10, a(2)), ret(3))
	gives(t, "return not a == b;", 4, name("a"), node(9, a(0)), name("b"), two("==", 1, 2), ret(3))
}

// P17.1: each operator binds closer than those of the levels before it, and those of one level from the left.
func TestLevels(t *testing.T) {
	levels := [][]string{{"or"}, {"and"}, {"==", "!=", "<", "<=", ">", ">="}, {".."}, {"+", "-"}, {"*", "/", "%"}}
	x, y, z := name("x"), name("y"), name("z")
	for i, high := range levels {
		for _, op := range high {
			gives(t, "return x "+op+" y;", 3, x, y, two(op, 0, 1), ret(2))
			for j, low := range levels {
				for _, op2 := range low {
					switch {
					case i == j && i == 2:
						fails(t, "return x "+op+" y "+op2+" z;", api.ErrForm, 12+len(op))
					case i >= j:
						gives(t, "return x "+op+" y "+op2+" z;", 5, x, y, two(op, 0, 1), z, two(op2, 2, 3), ret(4))
					default:
						gives(t, "return x "+op+" y "+op2+" z;", 5, x, y, z, two(op2, 1, 2), two(op, 0, 3), ret(4))
					}
					gives(t, "return x "+op+" (y "+op2+" z);", 5, x, y, z, two(op2, 1, 2), two(op, 0, 3), ret(4))
				}
			}
		}
	}
}

// P17.1
func TestForm(t *testing.T) {
	for source, at := range map[string]int{
		`put "a" 1;`: 8, "1;": 0, "x;": 0, "}": 0, "return 1; }": 10, ";": 0, "else { }": 0, "in": 0, "nil": 0, "scan": 0, "and": 0,
		"let 1 = 1;": 4, "let let = 1;": 4, "let x == 1;": 6, "let x 1;": 6, "let x = ;": 8, "let x = 1": 9, "let x = 1,": 9, "let": 3,
		"set = 1;": 4, "put 1; 2;": 5, "put 1, ;": 7, "put 1, 2": 8, "put": 3, "delete;": 6, "delete 1 2;": 9, "abort;": 5, "return;": 6, "return 1": 8, "return 1 return 2;": 9,
		"if { }": 3, "if x return 1;": 5, "if x { return 1; ": 17, "if x { } else return 1;": 14, "if x { } else if y { }": 14, "if x { } { }": 9, "if x { ": 7, "if x { } else { ": 16,
		"for k v in scan(x, 1) { }": 6, "for 1, v in scan(x, 1) { }": 4, "for k, 1 in scan(x, 1) { }": 7, "for k, v of scan(x, 1) { }": 9, "for k, v in get(x, 1) { }": 12, "for k, v in scan x, 1) { }": 17,
		"for k, v in scan(x 1) { }": 19, "for k, v in scan(x, y) { }": 20, "for k, v in scan(x, 1 { }": 22, "for k, v in scan(x, 1) return 1;": 23, "for k, v in scan(, 1) { }": 17, "for k, v in scan(x, -1) { }": 20, "for k, v in scan(x, 1) { ": 25,
		"repeat x { }": 7, "repeat { }": 7, "repeat -1 { }": 7, "repeat 1 return 2;": 9, "repeat 1 { return 2 }": 20, "repeat 1 {": 10, "repeat 1 { } }": 13,
		"return 1 +;": 10, "return + 1;": 7, "return * 1;": 7, "return 1 2;": 9, "return (1;": 9, "return ();": 8, "return (1));": 10, "return get 1;": 11, "return get();": 11, "return get(1;": 12, "return get(1, 2);": 12,
		"return not;": 10, "return -;": 8, "return or 1;": 7, "return 1 or;": 11, "return 1 and and 2;": 13, "return 1 = 2;": 9, "return 1 not 2;": 9, "return let;": 7, "return scan(1);": 7, "return a < b < c;": 13, "return a == b != c;": 14, "return { };": 7,
	} {
		fails(t, source, api.ErrForm, at)
	}
	fails(t, "return 01;", api.ErrForm, 7)
	fails(t, `return "a`, api.ErrShort, 7)
	fails(t, "return 1 +; 99999999999999999999", api.ErrOver, 12)
	fails(t, strings.Repeat(" ", 4097), api.ErrFull, 4096)
}

// P17.1
func TestOver(t *testing.T) {
	fails(t, "repeat 65 { }", api.ErrOver, 7)
	fails(t, "repeat 9223372036854775807 ;", api.ErrOver, 7)
	fails(t, "return 1; repeat 65", api.ErrOver, 17)
	fails(t, "for k, v in scan(x, 65) { }", api.ErrOver, 20)
	fails(t, "for k, v in scan(x, 65;", api.ErrOver, 20)
	gives(t, "repeat 64 { }", 0, repeat(64, -1, -1))
}

// P17.1
func TestDeep(t *testing.T) {
	open := strings.Repeat
	for _, x := range []struct {
		part, end string
		most      int
	}{
		{"(", ")", 15}, {"-", "", 15}, {"not ", "", 15}, {"get(", ")", 15}, {"has(", ")", 15}, {"len(", ")", 15}, {"show(", ")", 15},
	} {
		good := "return " + open(x.part, x.most) + "1" + open(x.end, x.most) + ";"
		if _, e, at := parse.Source(good); e != api.OK {
			t.Errorf("Source(%q): %d, %d", good, e, at)
		}
		bad := "return " + open(x.part, x.most+1)
		where := len(strings.TrimRight(bad, " "))
		fails(t, bad, api.ErrDeep, len(bad))
		fails(t, strings.TrimRight(bad, " ")+";", api.ErrDeep, where)
		fails(t, bad+"1"+open(x.end, x.most+1)+";", api.ErrDeep, len(bad))
	}
	for _, head := range []string{"repeat 1 {", "if x {", "if x { } else {", "for k, v in scan(x, 1) {"} {
		in := open(head, 15)
		good := in + open("}", 15)
		if _, e, at := parse.Source(good); e != api.OK {
			t.Errorf("Source(%q): %d, %d", good, e, at)
		}
		brace := len(in) + strings.Index(head, "{") + 1
		fails(t, in+head[:brace-len(in)]+open("}", 16), api.ErrDeep, brace)
		fails(t, in+head[:brace-len(in)]+" ", api.ErrDeep, brace+1)
		fails(t, in+head[:brace-len(in)]+";", api.ErrDeep, brace)
		if _, e, _ := parse.Source(in + "return 1;" + open("}", 15)); e != api.OK {
			t.Errorf("a statement of depth 16: %d", e)
		}
		fails(t, in+"return (1);", api.ErrDeep, len(in)+8)
		fails(t, in+"return 1 + 2 * -3;", api.ErrDeep, len(in)+16)
	}
	gives(t, "return (1) + (2);", 3, lit(1), lit(2), two("+", 0, 1), ret(2))
	side := "return " + open("(", 15) + "1" + open(")", 15) + " + " + open("-", 15) + "2;"
	if _, e, at := parse.Source(side); e != api.OK {
		t.Errorf("two parts of depth 16 side by side: %d, %d", e, at)
	}
	fails(t, "return "+open("(", 15)+"not 1", api.ErrDeep, 26)
	fails(t, "return "+open("(", 14)+"1 * get(-2", api.ErrDeep, 30)
	fails(t, "return "+open("(", 15)+"1 + 2 * 3 or get(x)", api.ErrDeep, 7+15+17)
	deep := "repeat 1 { if "
	fails(t, deep+open("(", 15)+"x", api.ErrDeep, len(deep)+15)
	fails(t, "if x { "+open("(", 3), api.ErrForm, 7)
}

// P17.1
func TestFull(t *testing.T) {
	leaves := func(n int) string { return "return 1" + strings.Repeat("+1", n-1) }
	if p, e, at := parse.Source(leaves(256) + ";"); e != api.OK || len(p.Nodes) != 512 || p.First != 511 {
		t.Errorf("512 nodes: %d, %d, %d nodes", e, at, len(p.Nodes))
	}
	n := len(leaves(257))
	fails(t, leaves(257)+";", api.ErrFull, n)
	fails(t, leaves(257), api.ErrFull, n)
	fails(t, leaves(257)+" ?", api.ErrForm, n+1)
	fails(t, leaves(257)+" 2", api.ErrFull, n+1)
	fails(t, leaves(257)+"+"+strings.Repeat("(", 20), api.ErrFull, n)
	some := strings.Repeat("abort 1;", 248)
	if p, e, _ := parse.Source(some + "return " + strings.Repeat("-", 14) + "1;"); e != api.OK || len(p.Nodes) != 512 {
		t.Errorf("512 nodes: %d, %d nodes", e, len(p.Nodes))
	}
	// a statement is the 513th node: that shows at its last token, or at the one after it
	last := some + "return " + strings.Repeat("-", 15) + "1"
	full(t, last+"; x", len(last), len(last)+2)
	more := strings.Repeat("abort 1;", 254) + "abort -1;"
	fails(t, more+"repeat 1 { }  repeat 65", api.ErrOver, len(more)+21)
	full(t, more+"repeat 1 { } repeat 2 { }  repeat 65", len(more)+24, len(more)+27)
	full(t, more+"repeat 1 { repeat 2 { }  } repeat 65", len(more)+22, len(more)+27)
	full(t, more+"if x { }  x", len(more)+7, len(more)+10)
	full(t, more+"if x { } else { }  x", len(more)+16, len(more)+19)
	full(t, more+"for k, v in scan(x, 1) { }  x", len(more)+25, len(more)+28)
	// the leaf, or an operator, is the 513th node
	fails(t, strings.Repeat("abort 1;", 254)+"abort - - -1 ; if", api.ErrFull, 254*8+15)
	fails(t, strings.Repeat("abort 1;", 254)+"abort - - - -1 ; if", api.ErrFull, 254*8+15)
	fails(t, strings.Repeat("abort 1;", 254)+"abort - - - - 1 ; if", api.ErrFull, 254*8+16)
}

// P17.1
func TestArg(t *testing.T) {
	end := api.Token{At: 9}
	one := api.Token{Kind: api.TokName, S: "x"}
	for _, l := range [][]api.Token{nil, {}, {one}, {end, one}, {end, end}, {one, end, end}, {end, one, end}} {
		if p, e, at := parse.Tokens(l); e != api.ErrArg || at != 0 || len(p.Nodes) != 0 || p.First != 0 {
			t.Errorf("Tokens(%v) = %+v, %d, %d", l, p, e, at)
		}
	}
	if p, e, at := parse.Tokens([]api.Token{end}); e != api.OK || at != 0 || len(p.Nodes) != 0 || p.First != -1 {
		t.Errorf("Tokens of the end = %+v, %d, %d", p, e, at)
	}
}

// P17.1: tokens count as what their kind says.
func TestKinds(t *testing.T) {
	for source, swap := range map[string]int{"return 1;": 0, "return 1 ;": 2, "let x = 1;": 2, "let x  = 1;": 1, "return a and b;": 2, "return a + b;": 2, "return get(1);": 1, "return not 1;": 1, "if a { }": 2} {
		l, _, _ := lex.Tokens(source)
		for kind := -1; kind < 8; kind++ {
			m := slices.Clone(l)
			if m[swap].Kind == kind || kind == api.TokEnd {
				continue
			}
			m[swap].Kind = kind
			if _, e, at := parse.Tokens(m); e != api.ErrForm || at != m[swap].At && kind != api.TokNumber && kind != api.TokName && kind != api.TokText {
				t.Errorf("Tokens of %q with token %d of kind %d: %d, %d", source, swap, kind, e, at)
			}
		}
	}
}

// P17.2
func TestSource(t *testing.T) {
	for _, s := range []string{"return ?;", "return 1 1; ?", "\"", "01"} {
		_, want, where := lex.Tokens(s)
		fails(t, s, want, where)
	}
}

// P17.3
func TestShape(t *testing.T) {
	const dense = `let x=1+2*3;if(x==7 and not has("a"))or false{put "a",-x;}else{for k,v in scan("b",3){set x=x+len(k..show(v));}}repeat 2{delete "q";}return x;`
	const loose = "let x = ((1) + (2 * 3)) ; # comment\n if (((x) == 7) and (not (has((\"a\"))))) or (false)\n{ put (\"a\"), (-x); } else { for k, v in scan((\"b\"), 3) { set x = (x + (len((k) .. show(v)))); } } repeat 2 { delete \"q\"; } return (x);"
	p, e, _ := parse.Source(dense)
	q, f, _ := parse.Source(loose)
	if e != api.OK || f != api.OK || p.First != q.First || !slices.Equal(p.Nodes, q.Nodes) {
		t.Errorf("%d, %d:\n%+v\n%+v", e, f, p, q)
	}
	for i, n := range p.Nodes {
		if n.A >= i || n.B >= i || n.C >= i || n.Next >= 0 && n.Next <= i {
			t.Errorf("node %d refers to %d, %d, %d, %d", i, n.A, n.B, n.C, n.Next)
		}
	}
}
