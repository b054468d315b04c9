package leaf_test

import (
	"fmt"
	"math"
	"slices"
	"strings"
	"testing"

	"plenum/api"
	"plenum/leaf"
)

func item(k string, n int64, ver int) api.Item {
	return api.Item{Key: k, Val: api.Value{Kind: 2, I: n}, Ver: ver}
}

// many returns n items with ascending keys.
func many(n int) []api.Item {
	var l []api.Item
	for i := range n {
		l = append(l, item(fmt.Sprintf("k%02d", i), int64(i), 100+i))
	}
	return l
}

// wrong are items that are not valid, though their keys are between "a" and "z" or no keys.
var wrong = []api.Item{
	{},
	item("", 1, 1),
	item("A", 1, 1),
	item(strings.Repeat("k", 25), 1, 1),
	{Key: "k"},
	{Key: "k", Val: api.Value{Kind: 4}},
	{Key: "k", Val: api.Value{Kind: 1, I: 2}},
	{Key: "k", Val: api.Value{Kind: 3, S: strings.Repeat("x", 65)}},
	item("k", 1, -1),
	item("k", 1, math.MinInt),
	item("k", 1, 1<<31),
	item("k", 1, math.MaxInt),
}

// faulty returns lists that are no leaves, with what Check says of them.
func faulty() []fault {
	l := []fault{
		{[]api.Item{item("b", 1, 1), item("a", 1, 1)}, api.ErrForm, 1},
		{[]api.Item{item("a", 1, 1), item("a", 1, 1)}, api.ErrForm, 1},
		{[]api.Item{item("a", 1, 1), item("c", 1, 1), item("b", 1, 1), {}}, api.ErrForm, 2},
		{[]api.Item{item("a", 1, 1), item("c", 1, -1), item("b", 1, 1)}, api.ErrArg, 1},
		{[]api.Item{item("a", 1, 1), item("c", 1, 1), item("b", 1, -1)}, api.ErrArg, 2},
		{many(65), api.ErrFull, 64},
		{slices.Repeat(many(5), 20), api.ErrFull, 64},
		{make([]api.Item, 65), api.ErrFull, 64},
	}
	for _, x := range wrong {
		l = append(l, fault{[]api.Item{x}, api.ErrArg, 0}, fault{[]api.Item{item("a", 1, 1), x, item("z", 1, 1)}, api.ErrArg, 1})
	}
	return l
}

type fault struct {
	l  []api.Item
	e  api.Errno
	at int
}

// P9.1
func TestCheck(t *testing.T) {
	for _, l := range [][]api.Item{nil, many(1), many(8), many(64), {item("a", 1, 0), item("b", 1, math.MaxInt32)}, {item("a", 1, 9), item("a-", 1, 3), item("aa", 1, 5)}} {
		if e, at := leaf.Check(l); e != api.OK || at != 0 {
			t.Errorf("Check(%v) = %d, %d", l, e, at)
		}
	}
	for _, x := range faulty() {
		if e, at := leaf.Check(x.l); e != x.e || at != x.at {
			t.Errorf("Check(%v) = %d, %d, want %d, %d", x.l, e, at, x.e, x.at)
		}
	}
}

// P9.1
func TestFaulty(t *testing.T) {
	good := item("a", 1, 1)
	for _, x := range faulty() {
		if got, ok := leaf.Get(x.l, "a"); ok || got != (api.Item{}) {
			t.Errorf("Get in %v = %v", x.l, got)
		}
		for _, in := range []api.Item{good, {}} {
			if got, e := leaf.Put(x.l, in); len(got) != 0 || e != api.ErrArg {
				t.Errorf("Put in %v = %v, %d", x.l, got, e)
			}
		}
		for _, k := range []string{"a", "none"} {
			if got, e := leaf.Delete(x.l, k); len(got) != 0 || e != api.ErrArg {
				t.Errorf("Delete in %v = %v, %d", x.l, got, e)
			}
		}
		if got := leaf.Scan(x.l, "", "", 9); len(got) != 0 {
			t.Errorf("Scan of %v = %v", x.l, got)
		}
		if got := leaf.Chunks(x.l); len(got) != 0 {
			t.Errorf("Chunks of %v = %v", x.l, got)
		}
		if n := leaf.Weight(x.l); n != 0 {
			t.Errorf("Weight of %v = %d", x.l, n)
		}
	}
}

// P9.2
func TestGet(t *testing.T) {
	for n := range 65 {
		l := many(n)
		for i, x := range l {
			if got, ok := leaf.Get(l, x.Key); got != x || !ok {
				t.Fatalf("Get of item %d of %d = %v, %v", i, n, got, ok)
			}
		}
		for _, k := range []string{"", "a", "k", "k00-", "k63-", "k9", "z", "A", fmt.Sprintf("k%02d", n)} {
			if got, ok := leaf.Get(l, k); ok || got != (api.Item{}) {
				t.Fatalf("Get of %q in %d = %v, %v", k, n, got, ok)
			}
		}
	}
}

// put fails unless Put of x in l gives want.
func put(t *testing.T, l []api.Item, x api.Item, want []api.Item) {
	t.Helper()
	was := slices.Clone(l)
	got, e := leaf.Put(l, x)
	if !slices.Equal(got, want) || e != api.OK {
		t.Errorf("Put(%v, %v) = %v, %d", l, x, got, e)
	}
	clear(got)
	if !slices.Equal(l, was) {
		t.Errorf("Put(%v) has changed its argument, or shares it", x)
	}
}

// P9.2, P9.5
func TestPut(t *testing.T) {
	put(t, nil, item("a", 1, 5), []api.Item{item("a", 1, 5)})
	for _, n := range []int{1, 2, 9, 64} {
		l := many(n)
		for i := range l {
			without := slices.Delete(slices.Clone(l), i, i+1)
			put(t, without, l[i], l)
			other := item(l[i].Key, -5, 3)
			want := slices.Clone(l)
			want[i] = other
			put(t, l, other, want)
			put(t, l, l[i], l)
		}
	}
	for _, x := range wrong {
		for _, l := range [][]api.Item{nil, many(3), many(64)} {
			if got, e := leaf.Put(l, x); len(got) != 0 || e != api.ErrArg {
				t.Errorf("Put of %v = %v, %d", x, got, e)
			}
		}
	}
	for _, k := range []string{"a", "k1-", "z"} {
		if got, e := leaf.Put(many(64), item(k, 1, 1)); len(got) != 0 || e != api.ErrFull {
			t.Errorf("Put of a 65th item = %v, %d", got, e)
		}
	}
}

// P9.2, P9.5
func TestDelete(t *testing.T) {
	for _, n := range []int{1, 2, 9, 64} {
		l := many(n)
		for i := range l {
			got, e := leaf.Delete(l, l[i].Key)
			if want := slices.Delete(slices.Clone(l), i, i+1); !slices.Equal(got, want) || e != api.OK {
				t.Errorf("Delete of item %d of %d = %v, %d", i, n, got, e)
			}
			clear(got)
			if !slices.Equal(l, many(n)) {
				t.Fatalf("Delete of item %d has changed its argument, or shares it", i)
			}
		}
		for _, k := range []string{"", "a", "k00-", "z", "A"} {
			if got, e := leaf.Delete(l, k); len(got) != 0 || e != api.ErrNone {
				t.Errorf("Delete of %q = %v, %d", k, got, e)
			}
		}
	}
	if got, e := leaf.Delete(nil, "a"); len(got) != 0 || e != api.ErrNone {
		t.Errorf("Delete of nothing = %v, %d", got, e)
	}
}

// P9.3
func TestScan(t *testing.T) {
	l := many(20)
	for _, x := range []struct {
		from, to string
		most     int
		want     []api.Item
	}{
		{"", "", 99, l}, {"", "", 20, l}, {"", "", 19, l[:19]}, {"", "", 1, l[:1]}, {"", "", 0, nil}, {"", "", -1, nil}, {"", "", math.MinInt, nil}, {"", "", math.MaxInt, l},
		{"k05", "", 99, l[5:]}, {"k05", "k08", 99, l[5:8]}, {"k05", "k08", 2, l[5:7]}, {"k05-", "k08-", 99, l[6:9]}, {"", "k02", 99, l[:2]},
		{"k08", "k05", 99, nil}, {"k05", "k05", 99, nil}, {"z", "", 99, nil}, {"", "a", 99, nil},
		{"A", "", 99, nil}, {"", "k05\x00", 99, nil}, {"", strings.Repeat("z", 25), 99, nil},
	} {
		got := leaf.Scan(l, x.from, x.to, x.most)
		if !slices.Equal(got, x.want) {
			t.Errorf("Scan(%q, %q, %d) = %v", x.from, x.to, x.most, got)
		}
		clear(got)
	}
	if !slices.Equal(l, many(20)) {
		t.Error("Scan shares its argument")
	}
}

// P9.3
func TestWeight(t *testing.T) {
	if n := leaf.Weight(nil); n != 0 {
		t.Errorf("Weight of nothing = %d", n)
	}
	if n := leaf.Weight([]api.Item{item("a", 1, 5)}); n != 3 {
		t.Errorf("Weight = %d", n)
	}
	l := []api.Item{
		{Key: "a", Val: api.Value{Kind: 1, I: 1}, Ver: 1 << 30},
		{Key: "ab", Val: api.Value{Kind: 2, I: 64}},
		{Key: "abc", Val: api.Value{Kind: 3, S: "hello"}},
		{Key: "b", Val: api.Value{Kind: 3}},
	}
	if n := leaf.Weight(l); n != 1+2+2+3+3+7+1+2 {
		t.Errorf("Weight = %d", n)
	}
}
