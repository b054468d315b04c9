package parcel_test

import (
	"fmt"
	"math"
	"slices"
	"strconv"
	"testing"

	"plenum/api"
	"plenum/leaf"
	"plenum/parcel"
	"plenum/root"
	"plenum/store"
	"plenum/term"
	"plenum/trunk"
)

// made returns a store with the quotas 9999 and 99, after one version for each list of keys.
func made(t *testing.T, lists ...[]string) api.Store {
	t.Helper()
	s, _ := store.New(9999, 99)
	for _, keys := range lists {
		var l []api.Edit
		for _, k := range keys {
			l = append(l, api.Edit{Key: k, Val: api.Value{Kind: 2, I: 7}})
		}
		var e api.Errno
		if s, e, _ = store.Take(s, l); e != api.OK {
			t.Fatal(e)
		}
	}
	return s
}

// some returns a store with 20 items in bucket 1, and one each in the buckets 2 and 15.
func some(t *testing.T) api.Store {
	t.Helper()
	var many []string
	for i := range 20 {
		many = append(many, fmt.Sprintf("a%02d", i))
	}
	return made(t, many, []string{"b"}, []string{"/"}, nil)
}

// texts returns the strings of a table, in order.
func texts(t *term.Table) []string {
	var l []string
	for n := range t.Count() {
		s, _ := t.Text(n + 1)
		l = append(l, s)
	}
	return l
}

// fill returns a table in which only left numbers are left.
func fill(left int) *term.Table {
	t := term.New()
	for i := range api.MaxTerms - left {
		t.Of("f" + strconv.Itoa(i))
	}
	return t
}

func sameCrate(a, b api.Crate) bool {
	for i := range a.T.Leaves {
		if !slices.Equal(a.T.Leaves[i], b.T.Leaves[i]) {
			return false
		}
	}
	return a.M == b.M && a.Got == b.Got && a.T.Vers == b.T.Vers
}

// manifest returns the manifest of s in t.
func manifest(t *testing.T, tab *term.Table, s api.Store) api.Manifest {
	t.Helper()
	m, e := parcel.Of(tab, s)
	if e != api.OK {
		t.Fatal(e)
	}
	return m
}

// P15.1
func TestOf(t *testing.T) {
	s := some(t)
	x, y := term.New(), term.New()
	m := manifest(t, x, s)
	want := api.Manifest{Ver: 4, Bytes: 9999, Keys: 99}
	for b := range 16 {
		want.Leaves[b], _ = root.Leaf(y, s.T.Leaves[b], s.T.Vers[b])
	}
	if m != want || !slices.Equal(texts(x), texts(y)) {
		t.Errorf("Of = %v, want %v; the table is %q", m, want, texts(x))
	}
	wrong := s
	wrong.Ver = 2
	if m, e := parcel.Of(x, wrong); m != (api.Manifest{}) || e != api.ErrArg || x.Count() != y.Count() {
		t.Errorf("Of of a wrong store = %v, %d", m, e)
	}
	for _, left := range []int{0, 1, y.Count() - 1} {
		x := fill(left)
		if m, e := parcel.Of(x, s); m != (api.Manifest{}) || e != api.ErrFull || x.Count() != api.MaxTerms {
			t.Errorf("Of with %d left = %v, %d", left, m, e)
		}
	}
	if _, e := parcel.Of(fill(y.Count()), s); e != api.OK {
		t.Errorf("Of with just enough left: %d", e)
	}
}

// P15.1
func TestNumber(t *testing.T) {
	x := term.New()
	m := api.Manifest{Ver: 5, Bytes: -6, Keys: 7}
	for b := range m.Leaves {
		m.Leaves[b] = 10 * b
	}
	if n, e := parcel.Number(x, m); n != 1 || e != api.OK {
		t.Errorf("Number = %d, %d", n, e)
	}
	if s, _ := x.Text(1); s != "5,-6,7,0,10,20,30,40,50,60,70,80,90,100,110,120,130,140,150," {
		t.Errorf("its string is %q", s)
	}
	if n, e := parcel.Number(x, api.Manifest{}); n != 2 || e != api.OK {
		t.Errorf("Number of another one = %d, %d", n, e)
	}
	if n, e := parcel.Number(x, m); n != 1 || e != api.OK {
		t.Errorf("Number again = %d, %d", n, e)
	}
	if n, e := parcel.Number(fill(0), m); n != 0 || e != api.ErrFull {
		t.Errorf("Number in a full table = %d, %d", n, e)
	}
}

// P15.2
func TestCut(t *testing.T) {
	s := some(t)
	for b := range 16 {
		p, e := parcel.Cut(s, b)
		var want []string
		for _, c := range leaf.Chunks(s.T.Leaves[b]) {
			want = append(want, string(c))
		}
		if p.Bucket != b || p.Ver != s.T.Vers[b] || !slices.Equal(p.Chunks, want) || e != api.OK {
			t.Errorf("Cut(%d) = %v, %d", b, p, e)
		}
	}
	wrong := s
	wrong.Keys = 1
	for _, b := range []int{-1, 16, math.MaxInt, math.MinInt} {
		if p, e := parcel.Cut(s, b); p.Bucket != 0 || p.Ver != 0 || len(p.Chunks) != 0 || e != api.ErrRange {
			t.Errorf("Cut(%d) = %v, %d", b, p, e)
		}
		if _, e := parcel.Cut(wrong, b); e != api.ErrArg {
			t.Errorf("Cut(%d) of a wrong store: %d", b, e)
		}
	}
	if p, e := parcel.Cut(wrong, 1); p.Bucket != 0 || len(p.Chunks) != 0 || e != api.ErrArg {
		t.Errorf("Cut of a wrong store = %v, %d", p, e)
	}
}

// P15.3
func TestBegin(t *testing.T) {
	s := some(t)
	x := term.New()
	m := manifest(t, x, s)
	for _, w := range []struct {
		have api.Trunk
		need []int
	}{
		{api.Trunk{}, []int{1, 2, 15}},
		{s.T, nil},
		{made(t, []string{"a00"}, []string{"b", "/"}, []string{"c"}).T, []int{1, 3, 15}},
	} {
		c, e := parcel.Begin(m, w.have, x)
		want := api.Crate{M: m}
		for b := range 16 {
			if !slices.Contains(w.need, b) {
				want.Got[b], want.T.Leaves[b], want.T.Vers[b] = true, w.have.Leaves[b], w.have.Vers[b]
			}
		}
		if e != api.OK || !sameCrate(c, want) {
			t.Errorf("Begin = %v, %d, want %v", c, e, want)
		}
		if got := parcel.Need(c); !slices.Equal(got, w.need) {
			t.Errorf("Need = %v, want %v", got, w.need)
		}
	}
	var below, foreign, old api.Trunk
	below.Vers[3] = -1
	foreign.Leaves[3], foreign.Vers[3] = s.T.Leaves[1], 9
	old.Leaves[1] = s.T.Leaves[1]
	count := x.Count()
	for _, wrong := range []api.Trunk{below, foreign, old} {
		if c, e := parcel.Begin(m, wrong, x); !sameCrate(c, api.Crate{}) || e != api.ErrArg || x.Count() != count {
			t.Errorf("Begin with a wrong trunk = %v, %d", c, e)
		}
	}
	for left := range 2 {
		x = fill(left)
		if c, e := parcel.Begin(m, made(t, []string{"a"}).T, x); !sameCrate(c, api.Crate{}) || e != api.ErrFull || x.Count() != api.MaxTerms {
			t.Errorf("Begin with %d left = %v, %d", left, c, e)
		}
	}
	if got := parcel.Need(api.Crate{}); len(got) != 16 || got[0] != 0 || got[15] != 15 {
		t.Errorf("Need of nothing = %v", got)
	}
}

// started returns the crate of a store in which only the empty buckets have arrived.
func started(t *testing.T, x *term.Table, s api.Store) api.Crate {
	t.Helper()
	c, e := parcel.Begin(manifest(t, x, s), api.Trunk{}, x)
	if e != api.OK {
		t.Fatal(e)
	}
	return c
}

// P15.4
func TestTake(t *testing.T) {
	s := some(t)
	x := term.New()
	c := started(t, x, s)
	for i, b := range []int{15, 1, 2} {
		p, _ := parcel.Cut(s, b)
		next, e := parcel.Take(c, x, p)
		want := c
		want.Got[b], want.T.Leaves[b], want.T.Vers[b] = true, s.T.Leaves[b], s.T.Vers[b]
		if e != api.OK || !sameCrate(next, want) {
			t.Fatalf("Take of bucket %d = %v, %d", b, next, e)
		}
		if got, e := parcel.Take(next, x, p); !sameCrate(got, api.Crate{}) || e != api.ErrThere {
			t.Errorf("Take of bucket %d again = %v, %d", b, got, e)
		}
		if got := parcel.Need(next); len(got) != 2-i || slices.Contains(got, b) {
			t.Errorf("Need after bucket %d = %v", b, got)
		}
		c = next
	}
}

// P15.4
func TestTakeWrong(t *testing.T) {
	s := some(t)
	x := term.New()
	c := started(t, x, s)
	right, _ := parcel.Cut(s, 1)
	with := func(f func(*api.Parcel)) api.Parcel {
		p := right
		p.Chunks = slices.Clone(right.Chunks)
		f(&p)
		return p
	}
	broken := c
	broken.T.Vers[7] = -1
	foreign, _ := parcel.Cut(s, 2)
	foreign.Bucket = 1
	other := c
	other.M.Leaves[1] = other.M.Leaves[2]
	for _, w := range []struct {
		what string
		c    api.Crate
		p    api.Parcel
		e    api.Errno
	}{
		{"no bucket", c, with(func(p *api.Parcel) { p.Bucket = -1 }), api.ErrRange},
		{"no bucket", c, with(func(p *api.Parcel) { p.Bucket = 16; p.Ver = -1 }), api.ErrRange},
		{"no bucket", c, api.Parcel{Bucket: math.MinInt}, api.ErrRange},
		{"no bucket", c, api.Parcel{Bucket: math.MaxInt}, api.ErrRange},
		{"what is there", c, with(func(p *api.Parcel) { p.Bucket, p.Ver, p.Chunks = 3, -1, []string{"x"} }), api.ErrThere},
		{"no chunk", c, with(func(p *api.Parcel) { p.Chunks[1] = "x" }), api.ErrForm},
		{"an empty chunk", c, with(func(p *api.Parcel) { p.Chunks = append(p.Chunks, "\x00") }), api.ErrForm},
		{"chunks in another order", c, with(func(p *api.Parcel) { slices.Reverse(p.Chunks) }), api.ErrForm},
		{"a version below 0", c, with(func(p *api.Parcel) { p.Ver = -1 }), api.ErrForm},
		{"a version that is too great", c, with(func(p *api.Parcel) { p.Ver = api.MaxVer + 1 }), api.ErrForm},
		{"a version that is too great", c, with(func(p *api.Parcel) { p.Ver = math.MaxInt }), api.ErrForm},
		{"another version", c, with(func(p *api.Parcel) { p.Ver++ }), api.ErrForged},
		{"a version that is too small for its items", c, with(func(p *api.Parcel) { p.Ver = 0 }), api.ErrForged},
		{"fewer chunks", c, with(func(p *api.Parcel) { p.Chunks = p.Chunks[:2] }), api.ErrForged},
		{"no chunks", c, with(func(p *api.Parcel) { p.Chunks = nil }), api.ErrForged},
		{"the leaf of another bucket", c, foreign, api.ErrForged},
		{"a leaf that the manifest names for another bucket", other, foreign, api.ErrArg},
		{"a broken crate", broken, right, api.ErrArg},
		{"a broken crate and a forged parcel", broken, with(func(p *api.Parcel) { p.Ver++ }), api.ErrForged},
	} {
		if got, e := parcel.Take(w.c, x, w.p); !sameCrate(got, api.Crate{}) || e != w.e {
			t.Errorf("Take of %s = %v, %d, want %d", w.what, got, e, w.e)
		}
	}
	if got, e := parcel.Take(c, x, right); e != api.OK || len(parcel.Need(got)) != 2 {
		t.Errorf("Take of the right one: %d", e)
	}
}

// P15.4: which strings a parcel leaves in the table.
func TestTakeTerms(t *testing.T) {
	s := some(t)
	m := manifest(t, term.New(), s)
	p, _ := parcel.Cut(s, 1)
	list := func(l ...int) string {
		x := term.New()
		x.List(l)
		text, _ := x.Text(1)
		return text
	}
	x := term.New()
	if _, e := parcel.Take(api.Crate{M: m}, x, p); e != api.ErrForged {
		t.Errorf("Take with another table: %d", e)
	}
	if want := append(slices.Clone(p.Chunks), list(p.Ver, 1, 2, 3)); !slices.Equal(texts(x), want) {
		t.Errorf("the table is %q, want %q", texts(x), want)
	}
	bad := p
	bad.Ver = -1
	x = term.New()
	if _, e := parcel.Take(api.Crate{M: m}, x, bad); e != api.ErrForm || x.Count() != 0 {
		t.Errorf("what is not of its form has left %q", texts(x))
	}
	for left := range 4 {
		x = fill(left)
		c := api.Crate{M: m}
		c.T.Vers[0] = -1
		if got, e := parcel.Take(c, x, p); !sameCrate(got, api.Crate{}) || e != api.ErrFull || x.Count() != api.MaxTerms {
			t.Errorf("Take with %d left = %v, %d", left, got, e)
		}
		for i := range left {
			if n, ok := x.Has(p.Chunks[i]); !ok || n != api.MaxTerms-left+1+i {
				t.Errorf("with %d left chunk %d has the number %d", left, i, n)
			}
		}
	}
}

// P15.5
func TestDone(t *testing.T) {
	s := some(t)
	x := term.New()
	c := api.Crate{M: manifest(t, x, s), T: s.T}
	for b := range c.Got {
		if got, e := parcel.Done(c); !store.Same(got, api.Store{}) || e != api.ErrBusy {
			t.Errorf("Done with %d buckets = %v, %d", b, got, e)
		}
		c.Got[b] = true
	}
	if got, e := parcel.Done(c); !store.Same(got, s) || e != api.OK {
		t.Errorf("Done = %v, %d", got, e)
	}
	for i, f := range []func(*api.Crate){
		func(c *api.Crate) { c.M.Ver = 1 },
		func(c *api.Crate) { c.M.Ver = -1 },
		func(c *api.Crate) { c.M.Bytes = 10 },
		func(c *api.Crate) { c.M.Keys = 3 },
		func(c *api.Crate) { c.M.Keys = api.MaxKeys + 1 },
		func(c *api.Crate) { c.T.Vers[1] = 0 },
		func(c *api.Crate) { c.T.Leaves[3] = c.T.Leaves[2] },
	} {
		w := c
		f(&w)
		if got, e := parcel.Done(w); !store.Same(got, api.Store{}) || e != api.ErrArg {
			t.Errorf("Done of wrong crate %d = %v, %d", i, got, e)
		}
		w.Got[9] = false
		if _, e := parcel.Done(w); e != api.ErrBusy {
			t.Errorf("Done of wrong crate %d without a bucket: %d", i, e)
		}
	}
}

// P15.6
func TestAnyOrder(t *testing.T) {
	s := some(t)
	old := made(t, []string{"a00", "q"}, []string{"b"}, []string{"0"}, nil, nil)
	for _, order := range [][]int{{0, 1, 2, 15}, {15, 2, 1, 0}, {1, 1, 2, 0, 2, 15, 15}} {
		x := term.New()
		c, e := parcel.Begin(manifest(t, x, s), old.T, x)
		if e != api.OK {
			t.Fatal(e)
		}
		for _, b := range order {
			for _, from := range []api.Store{old, s, old} {
				p, _ := parcel.Cut(from, b)
				if next, e := parcel.Take(c, x, p); e == api.OK {
					c = next
				}
			}
		}
		if got, e := parcel.Done(c); e != api.OK || !store.Same(got, s) || !trunk.Same(got.T, s.T) {
			t.Errorf("in the order %v: %v, %d, still needed %v", order, got, e, parcel.Need(c))
		}
	}
}
