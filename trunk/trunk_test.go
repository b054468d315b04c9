package trunk_test

import (
	"fmt"
	"math"
	"slices"
	"testing"

	"plenum/api"
	"plenum/trunk"
)

func item(k string, n int64, ver int) api.Item {
	return api.Item{Key: k, Val: api.Value{Kind: 2, I: n}, Ver: ver}
}

// with returns t with l and ver as the leaf and the version of a bucket.
func with(t api.Trunk, bucket, ver int, l ...api.Item) api.Trunk {
	t.Leaves[bucket], t.Vers[bucket] = l, ver
	return t
}

// full returns 64 items of bucket 1, at version 5.
func full() []api.Item {
	var l []api.Item
	for i := range 64 {
		l = append(l, item(fmt.Sprintf("a%02d", i), 1, 5))
	}
	return l
}

// some returns a trunk with a few items in three buckets.
func some() api.Trunk {
	t := with(api.Trunk{}, 1, 5, item("a", 1, 3), item("ab", 2, 5), item("q", 3, 4))
	t = with(t, 0, 9, item("0", 1, 9), item("p", 2, 0))
	return with(t, 15, api.MaxVer, item("/", 1, api.MaxVer))
}

// wrong are trunks that are not valid.
var wrong = []api.Trunk{
	with(some(), 1, 5, item("b", 1, 5)),
	with(some(), 2, 5, item("a", 1, 5)),
	with(some(), 15, 5, item("/", 1, 5), item("a", 1, 5)),
	with(some(), 1, 5, item("a", 1, 6)),
	with(some(), 1, 5, item("a", 1, 5), item("q", 1, 6)),
	with(some(), 1, -1),
	with(some(), 3, -1),
	with(some(), 3, api.MaxVer+1),
	with(some(), 3, math.MaxInt),
	with(some(), 3, math.MinInt),
	with(some(), 1, 5, item("q", 1, 5), item("a", 1, 5)),
	with(some(), 1, 5, item("a", 1, 5), item("a", 1, 5)),
	with(some(), 1, 5, item("a", 1, -1)),
	with(some(), 1, 5, item("A", 1, 1)),
	with(some(), 1, 5, api.Item{Key: "a"}),
	with(some(), 0, 5, append(full(), item("q", 1, 5))...),
	with(some(), 1, 5, append(full(), item("q", 1, 5))...),
}

// equal reports whether a and b are the same, field by field.
func equal(a, b api.Trunk) bool {
	for i := range a.Leaves {
		if !slices.Equal(a.Leaves[i], b.Leaves[i]) {
			return false
		}
	}
	return a.Vers == b.Vers
}

// gives fails unless a call returned this trunk or this error, and some() stays as it is.
func gives(t *testing.T, what string, got api.Trunk, e api.Errno, want api.Trunk, wantErr api.Errno) {
	t.Helper()
	if !equal(got, want) || e != wantErr {
		t.Errorf("%s: %v, %d, want %v, %d", what, got, e, want, wantErr)
	}
}

// P10.1
func TestMay(t *testing.T) {
	for _, x := range []api.Trunk{{}, some(), with(api.Trunk{}, 1, 5, full()...), with(api.Trunk{}, 4, api.MaxVer), with(api.Trunk{}, 4, 0, item("d", 1, 0))} {
		if !trunk.May(x) {
			t.Errorf("May(%v) is false", x)
		}
	}
	for _, x := range wrong {
		if trunk.May(x) {
			t.Errorf("May(%v) is true", x)
		}
	}
}

// P10.1
func TestWrong(t *testing.T) {
	for _, w := range wrong {
		for _, k := range []string{"a", "0", "none", ""} {
			if x, ok := trunk.Get(w, k); ok || x != (api.Item{}) {
				t.Errorf("Get(%q) of %v = %v", k, w, x)
			}
		}
		if trunk.Count(w) != 0 || trunk.Weight(w) != 0 {
			t.Errorf("Count, Weight of %v = %d, %d", w, trunk.Count(w), trunk.Weight(w))
		}
		for _, x := range []api.Item{item("d", 1, 9), {}, item("p", 1, 0)} {
			got, e := trunk.Put(w, x)
			gives(t, "Put", got, e, api.Trunk{}, api.ErrArg)
		}
		for _, ver := range []int{9, -1, 0} {
			for _, k := range []string{"p", "none", ""} {
				got, e := trunk.Delete(w, k, ver)
				gives(t, "Delete", got, e, api.Trunk{}, api.ErrArg)
			}
		}
		for _, b := range []int{1, 16, -1} {
			got, e := trunk.Replace(w, b, nil, 0)
			gives(t, "Replace", got, e, api.Trunk{}, api.ErrArg)
		}
		for _, o := range []api.Trunk{{}, some(), w} {
			for _, x := range [][2]api.Trunk{{w, o}, {o, w}} {
				if l, e := trunk.Unlike(x[0], x[1]); len(l) != 0 || e != api.ErrArg {
					t.Errorf("Unlike = %v, %d", l, e)
				}
				if trunk.Same(x[0], x[1]) {
					t.Error("a trunk that is not valid is the same as something")
				}
			}
		}
	}
}

// P10.2
func TestGet(t *testing.T) {
	for _, want := range []api.Item{item("a", 1, 3), item("ab", 2, 5), item("q", 3, 4), item("0", 1, 9), item("p", 2, 0), item("/", 1, api.MaxVer)} {
		if x, ok := trunk.Get(some(), want.Key); x != want || !ok {
			t.Errorf("Get(%q) = %v, %v", want.Key, x, ok)
		}
	}
	for _, k := range []string{"", "A", "b", "aa", "z", "@"} {
		if x, ok := trunk.Get(some(), k); ok || x != (api.Item{}) {
			t.Errorf("Get(%q) = %v", k, x)
		}
	}
}

// P10.2
func TestPut(t *testing.T) {
	x, e := trunk.Put(api.Trunk{}, item("a", 1, 5))
	gives(t, "Put in the empty trunk", x, e, with(api.Trunk{}, 1, 5, item("a", 1, 5)), api.OK)
	for _, ver := range []int{5, 6, api.MaxVer} {
		x, e = trunk.Put(some(), item("a", 9, ver))
		gives(t, "Put in place", x, e, with(some(), 1, ver, item("a", 9, ver), item("ab", 2, 5), item("q", 3, 4)), api.OK)
		x, e = trunk.Put(some(), item("b", 9, ver))
		gives(t, "Put in an empty leaf", x, e, with(some(), 2, ver, item("b", 9, ver)), api.OK)
	}
	x, e = trunk.Put(some(), item("d", 9, 0))
	gives(t, "Put at version 0", x, e, with(some(), 4, 0, item("d", 9, 0)), api.OK)
	for _, ver := range []int{0, 4} {
		x, e = trunk.Put(some(), item("az", 9, ver))
		gives(t, "Put of an old version", x, e, api.Trunk{}, api.ErrOld)
	}
	for _, w := range []api.Item{{}, item("A", 1, 9), item("a", 1, -1), item("a", 1, api.MaxVer+1), {Key: "a", Ver: 9}, {Key: "a", Ver: 2}, item("", 1, 9)} {
		x, e = trunk.Put(some(), w)
		gives(t, "Put of a wrong item", x, e, api.Trunk{}, api.ErrArg)
	}
	f := with(some(), 1, 5, full()...)
	x, e = trunk.Put(f, item("q", 1, 5))
	gives(t, "Put in a full leaf", x, e, api.Trunk{}, api.ErrFull)
	x, e = trunk.Put(f, item("q", 1, 4))
	gives(t, "Put of an old version in a full leaf", x, e, api.Trunk{}, api.ErrOld)
	x, e = trunk.Put(f, item("b", 1, 5))
	gives(t, "Put beside a full leaf", x, e, with(f, 2, 5, item("b", 1, 5)), api.OK)
}

// P10.2
func TestDelete(t *testing.T) {
	for _, ver := range []int{5, 9, api.MaxVer} {
		x, e := trunk.Delete(some(), "ab", ver)
		gives(t, "Delete", x, e, with(some(), 1, ver, item("a", 1, 3), item("q", 3, 4)), api.OK)
	}
	x, e := trunk.Delete(with(api.Trunk{}, 1, 5, item("a", 1, 5)), "a", 9)
	gives(t, "Delete of the only item", x, e, with(api.Trunk{}, 1, 9), api.OK)
	for _, ver := range []int{0, 4} {
		x, e = trunk.Delete(some(), "a", ver)
		gives(t, "Delete at an old version", x, e, api.Trunk{}, api.ErrOld)
	}
	for _, k := range []string{"", "A", "b", "aa", "z"} {
		for _, ver := range []int{0, 9} {
			x, e = trunk.Delete(some(), k, ver)
			gives(t, "Delete of what is not there", x, e, api.Trunk{}, api.ErrNone)
		}
	}
	for _, ver := range []int{-1, api.MaxVer + 1, math.MaxInt, math.MinInt} {
		for _, k := range []string{"a", "none", ""} {
			x, e = trunk.Delete(some(), k, ver)
			gives(t, "Delete at a wrong version", x, e, api.Trunk{}, api.ErrArg)
		}
	}
}

// P10.3
func TestCountWeight(t *testing.T) {
	if trunk.Count(api.Trunk{}) != 0 || trunk.Weight(api.Trunk{}) != 0 {
		t.Error("the empty trunk has something")
	}
	if n := trunk.Count(some()); n != 6 {
		t.Errorf("Count = %d", n)
	}
	if n := trunk.Weight(some()); n != 6*3+1 {
		t.Errorf("Weight = %d", n)
	}
	if n := trunk.Count(with(some(), 1, 5, full()...)); n != 67 {
		t.Errorf("Count = %d", n)
	}
}

// P10.3
func TestUnlike(t *testing.T) {
	for _, x := range []struct {
		a, b api.Trunk
		want []int
	}{
		{api.Trunk{}, api.Trunk{}, nil},
		{some(), some(), nil},
		{some(), api.Trunk{}, []int{0, 1, 15}},
		{some(), with(some(), 1, 6, some().Leaves[1]...), []int{1}},
		{some(), with(some(), 1, 5, item("a", 1, 3), item("ab", 2, 5)), []int{1}},
		{some(), with(some(), 1, 5, item("a", 1, 4), item("ab", 2, 5), item("q", 3, 4)), []int{1}},
		{some(), with(some(), 1, 5, item("a", 7, 3), item("ab", 2, 5), item("q", 3, 4)), []int{1}},
		{some(), with(some(), 1, 5, item("ac", 1, 3), item("ad", 2, 5), item("q", 3, 4)), []int{1}},
		{with(api.Trunk{}, 15, 1), with(api.Trunk{}, 0, 1), []int{0, 15}},
		{with(api.Trunk{}, 7, 0, []api.Item{}...), api.Trunk{}, nil},
	} {
		for _, p := range [][2]api.Trunk{{x.a, x.b}, {x.b, x.a}} {
			if l, e := trunk.Unlike(p[0], p[1]); !slices.Equal(l, x.want) || e != api.OK {
				t.Errorf("Unlike(%v, %v) = %v, %d", p[0], p[1], l, e)
			}
			if trunk.Same(p[0], p[1]) != (len(x.want) == 0) {
				t.Errorf("Same(%v, %v) = %v", p[0], p[1], len(x.want) != 0)
			}
		}
	}
}

// P10.4
func TestReplace(t *testing.T) {
	l := []api.Item{item("a", 9, 0), item("q", 8, 2)}
	x, e := trunk.Replace(some(), 1, l, 2)
	gives(t, "Replace", x, e, with(some(), 1, 2, item("a", 9, 0), item("q", 8, 2)), api.OK)
	clear(l)
	gives(t, "Replace shares its argument", x, e, with(some(), 1, 2, item("a", 9, 0), item("q", 8, 2)), api.OK)
	for _, b := range []int{0, 15} {
		x, e = trunk.Replace(some(), b, nil, 0)
		gives(t, "Replace with nothing", x, e, with(some(), b, 0), api.OK)
	}
	x, e = trunk.Replace(some(), 1, full(), api.MaxVer)
	gives(t, "Replace with a full leaf", x, e, with(some(), 1, api.MaxVer, full()...), api.OK)
	for _, b := range []int{-1, 16, math.MaxInt, math.MinInt} {
		for _, ver := range []int{0, -1} {
			x, e = trunk.Replace(some(), b, nil, ver)
			gives(t, "Replace of no bucket", x, e, api.Trunk{}, api.ErrRange)
		}
	}
	for _, w := range []struct {
		b, ver int
		l      []api.Item
	}{
		{1, -1, nil}, {1, api.MaxVer + 1, nil}, {1, math.MinInt, nil}, {1, math.MaxInt, nil},
		{2, 9, []api.Item{item("a", 1, 1)}}, {1, 9, []api.Item{item("a", 1, 1), item("b", 1, 1)}},
		{1, 4, []api.Item{item("a", 1, 5)}}, {1, 9, []api.Item{item("q", 1, 1), item("a", 1, 1)}}, {1, 9, []api.Item{{Key: "a"}}},
		{1, 9, append(full(), item("q", 1, 5))},
	} {
		x, e = trunk.Replace(some(), w.b, w.l, w.ver)
		gives(t, "Replace with what may not be", x, e, api.Trunk{}, api.ErrArg)
	}
}

// P10.5
func TestPersistent(t *testing.T) {
	history := []api.Trunk{{}}
	var copies []api.Trunk
	for i := range 60 {
		last := history[len(history)-1]
		k := string(rune('a'+i*7%26)) + string(rune('a'+i%3))
		next, e := trunk.Put(last, item(k, int64(i), i))
		if i%4 == 3 {
			next, e = trunk.Delete(last, k, i)
			if e == api.ErrNone {
				continue
			}
		}
		if e != api.OK {
			t.Fatalf("change %d: %d", i, e)
		}
		if l, _ := trunk.Unlike(last, next); len(l) > 1 {
			t.Errorf("change %d makes %v differ", i, l)
		}
		history = append(history, next)
		var c api.Trunk
		c.Vers = next.Vers
		for b := range c.Leaves {
			c.Leaves[b] = slices.Clone(next.Leaves[b])
		}
		copies = append(copies, c)
	}
	for i, c := range copies {
		if !equal(history[i+1], c) {
			t.Errorf("trunk %d has changed", i+1)
		}
	}
}
