package root_test

import (
	"fmt"
	"math"
	"slices"
	"strconv"
	"strings"
	"testing"

	"plenum/api"
	"plenum/leaf"
	"plenum/root"
	"plenum/term"
	"plenum/trunk"
)

func item(k string, n int64, ver int) api.Item {
	return api.Item{Key: k, Val: api.Value{Kind: 2, I: n}, Ver: ver}
}

// many returns n items of bucket 1.
func many(n int) []api.Item {
	var l []api.Item
	for i := range n {
		l = append(l, item(fmt.Sprintf("a%02d", i), int64(i), i))
	}
	return l
}

// some returns a trunk with items in the buckets 0, 1 and 15.
func some() api.Trunk {
	var t api.Trunk
	t.Leaves[0], t.Vers[0] = []api.Item{item("p", 1, 9)}, 9
	t.Leaves[1], t.Vers[1] = many(20), 30
	t.Leaves[15], t.Vers[15] = []api.Item{item("/", 1, 0), item("_", 1, 3)}, api.MaxVer
	t.Vers[7] = 4
	return t
}

// strings of a table, in order.
func all(t *term.Table) []string {
	var l []string
	for n := range t.Count() {
		s, _ := t.Text(n + 1)
		l = append(l, s)
	}
	return l
}

// fill returns a table in which only left numbers are left.
func fill(left int) *term.Table {
	t := term.New()
	for i := range api.MaxTerms - left {
		t.Of("f" + strconv.Itoa(i))
	}
	return t
}

// of returns the number of s.
func of(t *term.Table, s string) int {
	n, _ := t.Of(s)
	return n
}

// P12.1
func TestLeaf(t *testing.T) {
	x := term.New()
	l := many(20)
	chunks := leaf.Chunks(l)
	if n, e := root.Leaf(x, l, 30); n != 4 || e != api.OK {
		t.Errorf("Leaf = %d, %d", n, e)
	}
	if want := []string{string(chunks[0]), string(chunks[1]), string(chunks[2]), "30,1,2,3,"}; !slices.Equal(all(x), want) {
		t.Errorf("the table is %q", all(x))
	}
	if n, e := root.Leaf(x, l[:8], 0); n != 5 || e != api.OK {
		t.Errorf("Leaf of the first chunk = %d, %d", n, e)
	}
	if s, _ := x.Text(5); s != "0,1," {
		t.Errorf("its string is %q", s)
	}
	if n, e := root.Leaf(x, nil, api.MaxVer); n != 6 || e != api.OK {
		t.Errorf("Leaf of nothing = %d, %d", n, e)
	}
	if s, _ := x.Text(6); s != "2147483647," {
		t.Errorf("its string is %q", s)
	}
	for _, w := range []struct {
		l   []api.Item
		ver int
	}{
		{nil, -1}, {nil, api.MaxVer + 1}, {l, math.MinInt}, {l, math.MaxInt}, {many(65), 99}, {[]api.Item{item("b", 1, 1), item("a", 1, 1)}, 1}, {[]api.Item{{Key: "a"}}, 1},
	} {
		if n, e := root.Leaf(x, w.l, w.ver); n != 0 || e != api.ErrArg {
			t.Errorf("Leaf(%v, %d) = %d, %d", w.l, w.ver, n, e)
		}
	}
	if x.Count() != 6 {
		t.Error("a wrong leaf has got numbers")
	}
}

// P12.1
func TestFull(t *testing.T) {
	l := many(20)
	for left := range 4 {
		x := fill(left)
		if n, e := root.Leaf(x, l, 30); n != 0 || e != api.ErrFull || x.Count() != api.MaxTerms {
			t.Errorf("Leaf with %d left = %d, %d", left, n, e)
		}
		for i, b := range leaf.Chunks(l)[:left] {
			if n, ok := x.Has(string(b)); !ok || n != api.MaxTerms-left+i+1 {
				t.Errorf("with %d left chunk %d has the number %d", left, i, n)
			}
		}
	}
	if n, e := root.Leaf(fill(4), l, 30); n != api.MaxTerms || e != api.OK {
		t.Errorf("Leaf with 4 left = %d, %d", n, e)
	}
	need := term.New()
	root.Of(need, some())
	for _, less := range []int{1, 2, need.Count()} {
		x := fill(need.Count() - less)
		if n, l, e := root.Of(x, some()); n != 0 || len(l) != 0 || e != api.ErrFull || x.Count() != api.MaxTerms {
			t.Errorf("Of with %d too few left = %d, %v, %d", less, n, l, e)
		}
	}
	if n, _, e := root.Of(fill(need.Count()), some()); n != api.MaxTerms || e != api.OK {
		t.Errorf("Of with just enough left = %d, %d", n, e)
	}
}

// P12.1
func TestOf(t *testing.T) {
	x := term.New()
	n, l, e := root.Of(x, api.Trunk{})
	if n != 2 || !slices.Equal(l, slices.Repeat([]int{1}, 16)) || e != api.OK {
		t.Errorf("Of of the empty trunk = %d, %v, %d", n, l, e)
	}
	if want := []string{"0,", strings.Repeat("1,", 16)}; !slices.Equal(all(x), want) {
		t.Errorf("the table is %q", all(x))
	}
	y := term.New()
	s := some()
	n, l, e = root.Of(y, s)
	z := term.New()
	var want []int
	for b := range 16 {
		m, _ := root.Leaf(z, s.Leaves[b], s.Vers[b])
		want = append(want, m)
	}
	last, _ := z.List(want)
	if n != last || !slices.Equal(l, want) || e != api.OK || !slices.Equal(all(y), all(z)) {
		t.Errorf("Of = %d, %v, %d, want %d, %v", n, l, e, last, want)
	}
	s.Vers[1] = 3
	if n, l, e := root.Of(y, s); n != 0 || len(l) != 0 || e != api.ErrArg || y.Count() != z.Count() {
		t.Errorf("Of of a wrong trunk = %d, %v, %d", n, l, e)
	}
}

// P12.2
func TestUnlike(t *testing.T) {
	a := []int{0, 1, 2, 3, 4, 5, 6, 7, 8, 9, 10, 11, 12, 13, 14, 15}
	b := slices.Clone(a)
	b[0], b[7], b[15] = 9, -9, 0
	x := term.New()
	if l, e := root.Unlike(x, a, b); !slices.Equal(l, []int{0, 7, 15}) || e != api.OK {
		t.Errorf("Unlike = %v, %d", l, e)
	}
	if l, e := root.Unlike(x, a, slices.Clone(a)); len(l) != 0 || e != api.OK {
		t.Errorf("Unlike of the same = %v, %d", l, e)
	}
	for _, w := range [][]int{nil, a[:15], append(slices.Clone(a), 1)} {
		for _, p := range [][2][]int{{a, w}, {w, a}, {w, w}} {
			if l, e := root.Unlike(x, p[0], p[1]); len(l) != 0 || e != api.ErrArg {
				t.Errorf("Unlike(%v, %v) = %v, %d", p[0], p[1], l, e)
			}
		}
	}
	if x.Count() != 0 {
		t.Error("Unlike has assigned numbers")
	}
}

// notLists are strings that layer 2 makes of no list of integers.
var notLists = []string{"1", ",", "1,,", "01,", "+1,", "-0,", "00,", "1, ", " 1,", "1;", "a,", "1,a,", "1.0,", "0x1,", "1e1,", "1_0,", "9223372036854775808,", "1,2"}

// P12.3
func TestLeaves(t *testing.T) {
	x := term.New()
	good := "9223372036854775807," + strings.Repeat("5,", 14) + "1,"
	want := slices.Concat([]int{math.MaxInt}, slices.Repeat([]int{5}, 14), []int{1})
	if l, e := root.Leaves(x, of(x, good)); !slices.Equal(l, want) || e != api.OK {
		t.Errorf("Leaves = %v, %d", l, e)
	}
	head := strings.Repeat("1,", 15)
	wrong := []string{"", head, head + "1,1,", head + "0,", head + "-1,", "0," + head, head + "1", head + "1,x", "x" + head + "1,", strings.Repeat("1", 32)}
	for _, s := range notLists {
		wrong = append(wrong, s, head+s)
		if strings.HasSuffix(s, ",") {
			wrong = append(wrong, s+head)
		}
	}
	for _, s := range wrong {
		if l, e := root.Leaves(x, of(x, s)); len(l) != 0 || e != api.ErrForm {
			t.Errorf("Leaves of %q = %v, %d", s, l, e)
		}
	}
	for _, n := range []int{0, -1, x.Count() + 1, math.MaxInt, math.MinInt} {
		if l, e := root.Leaves(x, n); len(l) != 0 || e != api.ErrNone {
			t.Errorf("Leaves(%d) = %v, %d", n, l, e)
		}
	}
}

// P12.3
func TestChunks(t *testing.T) {
	x := term.New()
	of(x, "one")
	of(x, "two")
	for s, want := range map[string][]string{"0,": nil, "2147483647,": nil, "7,2,1,2,": {"two", "one", "two"}, "0,1,": {"one"}} {
		ver := 0
		fmt.Sscanf(s, "%d,", &ver)
		if v, l, e := root.Chunks(x, of(x, s)); v != ver || !slices.Equal(l, want) || e != api.OK {
			t.Errorf("Chunks of %q = %d, %q, %d", s, v, l, e)
		}
	}
	wrong := []string{"", "-1,", "2147483648,", "-1,1,", "2147483648,1,", "5,0,", "5,-1,", "5,1,0,", "5,999999,0,", "5,0,999999,"}
	for _, s := range notLists {
		wrong = append(wrong, s, "5,"+s, "5,1,"+s)
	}
	for _, s := range wrong {
		if v, l, e := root.Chunks(x, of(x, s)); v != 0 || len(l) != 0 || e != api.ErrForm {
			t.Errorf("Chunks of %q = %d, %q, %d", s, v, l, e)
		}
	}
	for _, s := range []string{"5,999999,", "5,1,999999,", "5,999999,1,", "5,9223372036854775807,"} {
		if v, l, e := root.Chunks(x, of(x, s)); v != 0 || len(l) != 0 || e != api.ErrNone {
			t.Errorf("Chunks of %q = %d, %q, %d", s, v, l, e)
		}
	}
	for _, n := range []int{0, -1, x.Count() + 1, math.MaxInt, math.MinInt} {
		if v, l, e := root.Chunks(x, n); v != 0 || len(l) != 0 || e != api.ErrNone {
			t.Errorf("Chunks(%d) = %d, %q, %d", n, v, l, e)
		}
	}
}

// P12.4
func TestBackWrong(t *testing.T) {
	x := term.New()
	empty := of(x, "0,")
	chunk := func(l ...api.Item) int { return of(x, string(leaf.Chunks(l)[0])) }
	a, q, b := chunk(item("a", 1, 5)), chunk(item("q", 1, 5)), chunk(item("b", 1, 5))
	leafOf := func(n ...int) int { l, _ := x.List(n); return l }
	trunkOf := func(bucket, leaf int, more ...int) int {
		l := slices.Repeat([]int{empty}, 16)
		l[bucket] = leaf
		for i, n := range more {
			l[bucket+1+i] = n
		}
		n, _ := x.List(l)
		return n
	}
	form := leafOf(5, of(x, "no chunk"))
	none := leafOf(5, 999999)
	for _, w := range []struct {
		what string
		root int
		e    api.Errno
	}{
		{"no number", 999999, api.ErrNone},
		{"no list", of(x, "1"), api.ErrForm},
		{"a leaf", empty, api.ErrForm},
		{"a leaf without a number", trunkOf(1, 999999), api.ErrNone},
		{"a leaf of another form", trunkOf(1, of(x, "5,0,")), api.ErrForm},
		{"a chunk without a number", trunkOf(1, none), api.ErrNone},
		{"a chunk of another form", trunkOf(1, form), api.ErrForm},
		{"two short chunks", trunkOf(1, leafOf(5, a, q)), api.ErrForm},
		{"an item of another bucket", trunkOf(1, leafOf(5, b)), api.ErrArg},
		{"an item that is too new", trunkOf(1, leafOf(4, a)), api.ErrArg},
		{"form before none", trunkOf(1, form, none), api.ErrForm},
		{"none before form", trunkOf(1, none, form), api.ErrNone},
		{"form before another bucket", trunkOf(1, leafOf(5, b), form), api.ErrForm},
	} {
		if got, e := root.Back(x, w.root); e != w.e || !trunk.Same(got, api.Trunk{}) {
			t.Errorf("Back of %s = %v, %d, want %d", w.what, got, e, w.e)
		}
	}
	got, e := root.Back(x, trunkOf(1, leafOf(5, a)))
	if want, _ := trunk.Put(api.Trunk{}, item("a", 1, 5)); e != api.OK || !trunk.Same(got, want) {
		t.Errorf("Back = %v, %d", got, e)
	}
}

// P12.4, P12.5
func TestRoundTrip(t *testing.T) {
	x := term.New()
	trunks := []api.Trunk{{}, some()}
	for i := range 30 {
		next, e := trunk.Put(trunks[len(trunks)-1], item(string(rune('b'+i%13)), int64(i%3), 40+i/4))
		if e != api.OK {
			t.Fatal(e)
		}
		trunks = append(trunks, next)
	}
	moved := some()
	moved.Vers[7] = 5
	trunks = append(trunks, moved)
	for i, a := range trunks {
		n, l, e := root.Of(x, a)
		if e != api.OK {
			t.Fatal(e)
		}
		if got, e := root.Back(x, n); e != api.OK || !trunk.Same(got, a) {
			t.Errorf("Back of trunk %d = %v, %d", i, got, e)
		}
		if got, e := root.Leaves(x, n); !slices.Equal(got, l) || e != api.OK {
			t.Errorf("Leaves of trunk %d = %v, %d", i, got, e)
		}
		for j, b := range trunks {
			m, k, _ := root.Of(x, b)
			if (n == m) != trunk.Same(a, b) {
				t.Errorf("the roots of %d and %d are %d and %d", i, j, n, m)
			}
			got, _ := root.Unlike(x, l, k)
			if want, _ := trunk.Unlike(a, b); !slices.Equal(got, want) {
				t.Errorf("Unlike of %d and %d = %v, want %v", i, j, got, want)
			}
		}
	}
}
