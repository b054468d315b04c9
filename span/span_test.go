package span_test

import (
	"cmp"
	"fmt"
	"math"
	"slices"
	"strings"
	"testing"

	"plenum/api"
	"plenum/span"
)

func num(k string, n int64) api.Item {
	return api.Item{Key: k, Val: api.Value{Kind: 2, I: n}, Ver: 1}
}

// of returns the trunk of items, whatever their order.
func of(l ...api.Item) api.Trunk {
	var t api.Trunk
	slices.SortFunc(l, func(a, b api.Item) int { return cmp.Compare(a.Key, b.Key) })
	for _, x := range l {
		b := x.Key[0] % 16
		t.Leaves[b] = append(t.Leaves[b], x)
		t.Vers[b] = 1
	}
	return t
}

// sorted returns items of all buckets, in key order.
func sorted() []api.Item {
	var l []api.Item
	for i, c := range "-./0123456789_abcdefghijklmnopqrstuvwxyz" {
		l = append(l, num(string(c), int64(i)))
		if i%3 == 0 {
			l = append(l, num(string(c)+"/x", int64(100+i)), num(string(c)+"z", int64(200+i)))
		}
	}
	return l
}

// wrong is a trunk that is not valid.
var wrong = api.Trunk{Leaves: [16][]api.Item{{num("a", 1)}}, Vers: [16]int{1}}

// noPatterns are neither keys nor empty.
var noPatterns = []string{"A", "a\x00", "a b", "{", strings.Repeat("a", 25)}

// within returns the items of l in a range.
func within(l []api.Item, from, to string) []api.Item {
	var out []api.Item
	for _, x := range l {
		if x.Key >= from && (to == "" || x.Key < to) {
			out = append(out, x)
		}
	}
	return out
}

// P11.1
func TestErrors(t *testing.T) {
	type call struct {
		name string
		do   func(api.Trunk, string, string) (bool, api.Errno)
	}
	calls := []call{
		{"Scan", func(x api.Trunk, a, b string) (bool, api.Errno) { l, e := span.Scan(x, a, b, 9); return len(l) == 0, e }},
		{"Scan of none", func(x api.Trunk, a, b string) (bool, api.Errno) { l, e := span.Scan(x, a, b, 0); return len(l) == 0, e }},
		{"Back", func(x api.Trunk, a, b string) (bool, api.Errno) { l, e := span.Back(x, a, b, 9); return len(l) == 0, e }},
		{"Back of none", func(x api.Trunk, a, b string) (bool, api.Errno) {
			l, e := span.Back(x, a, b, -1)
			return len(l) == 0, e
		}},
		{"Count", func(x api.Trunk, a, b string) (bool, api.Errno) { n, e := span.Count(x, a, b); return n == 0, e }},
		{"Sum", func(x api.Trunk, a, b string) (bool, api.Errno) { n, e := span.Sum(x, a, b); return n == 0, e }},
		{"First", func(x api.Trunk, a, b string) (bool, api.Errno) {
			i, e := span.First(x, cmp.Or(a, b))
			return i == api.Item{}, e
		}},
		{"Last", func(x api.Trunk, a, b string) (bool, api.Errno) {
			i, e := span.Last(x, cmp.Or(a, b))
			return i == api.Item{}, e
		}},
		{"Under", func(x api.Trunk, a, b string) (bool, api.Errno) {
			l, e := span.Under(x, cmp.Or(a, b))
			return len(l) == 0, e
		}},
		{"Names", func(x api.Trunk, a, b string) (bool, api.Errno) {
			l, e := span.Names(x, cmp.Or(a, b))
			return len(l) == 0, e
		}},
	}
	texts := of(api.Item{Key: "b", Val: api.Value{Kind: 3}, Ver: 1})
	for _, c := range calls {
		for _, s := range append(noPatterns, "") {
			if zero, e := c.do(wrong, s, ""); !zero || e != api.ErrArg {
				t.Errorf("%s(%q) of a wrong trunk: %d", c.name, s, e)
			}
		}
		for _, s := range noPatterns {
			for _, x := range []api.Trunk{{}, of(num("b", 1)), texts} {
				if zero, e := c.do(x, s, ""); !zero || e != api.ErrForm {
					t.Errorf("%s(%q): %d", c.name, s, e)
				}
				if zero, e := c.do(x, "", s); !zero || e != api.ErrForm {
					t.Errorf("%s to %q: %d", c.name, s, e)
				}
			}
		}
	}
}

// P11.2, P11.5
func TestRanges(t *testing.T) {
	l := sorted()
	x := of(sorted()...)
	for _, from := range []string{"", "-", "/", "0", "0/y", "a", "m", "z", "zz"} {
		for _, to := range []string{"", "-", "/", "0", "0/y", "a", "m", "z", "zz"} {
			want := within(l, from, to)
			var sum int64
			for _, i := range want {
				sum += i.Val.I
			}
			if n, e := span.Count(x, from, to); n != len(want) || e != api.OK {
				t.Errorf("Count(%q, %q) = %d, %d", from, to, n, e)
			}
			if n, e := span.Sum(x, from, to); n != sum || e != api.OK {
				t.Errorf("Sum(%q, %q) = %d, %d", from, to, n, e)
			}
			back := slices.Clone(want)
			slices.Reverse(back)
			for _, most := range []int{math.MinInt, -1, 0, 1, 2, len(want) - 1, len(want), len(want) + 1, math.MaxInt} {
				n := max(0, min(most, len(want)))
				if got, e := span.Scan(x, from, to, most); !slices.Equal(got, want[:n]) || e != api.OK {
					t.Errorf("Scan(%q, %q, %d) = %v, %d", from, to, most, got, e)
				}
				if got, e := span.Back(x, from, to, most); !slices.Equal(got, back[:n]) || e != api.OK {
					t.Errorf("Back(%q, %q, %d) = %v, %d", from, to, most, got, e)
				}
			}
		}
	}
}

// P11.2: a trunk may have 1024 items.
func TestFull(t *testing.T) {
	var l []api.Item
	for _, c := range "0123456789-./jkl" {
		for i := range 64 {
			l = append(l, num(fmt.Sprintf("%c%02d", c, i), 1))
		}
	}
	x := of(l...)
	first, e := span.Scan(x, "", "", 9999)
	if len(first) != 1024 || e != api.OK || !slices.IsSortedFunc(first, func(a, b api.Item) int { return cmp.Compare(a.Key, b.Key) }) {
		t.Errorf("Scan: %d items, %d", len(first), e)
	}
	if n, e := span.Count(x, "", ""); n != 1024 || e != api.OK {
		t.Errorf("Count = %d, %d", n, e)
	}
	if l, e := span.Back(x, "", "", 9999); len(l) != 1024 || e != api.OK || l[0] != first[1023] || l[1023] != first[0] {
		t.Errorf("Back: %d items, %d", len(l), e)
	}
}

// P11.2
func TestSum(t *testing.T) {
	const top, low = math.MaxInt64, math.MinInt64
	text := api.Item{Key: "m", Val: api.Value{Kind: 3, S: "1"}, Ver: 1}
	yes := api.Item{Key: "m", Val: api.Value{Kind: 1, I: 1}, Ver: 1}
	for _, x := range []struct {
		l    []api.Item
		want int64
		e    api.Errno
	}{
		{nil, 0, api.OK},
		{[]api.Item{num("a", 1), num("b", 2), num("q", 3)}, 6, api.OK},
		{[]api.Item{num("a", top), num("b", -1), num("c", 1)}, top, api.OK},
		{[]api.Item{num("a", top), num("b", 1)}, 0, api.ErrOver},
		{[]api.Item{num("a", top), num("b", 1), num("c", -5)}, 0, api.ErrOver},
		{[]api.Item{num("a", top), num("b", -5), num("c", 6)}, 0, api.ErrOver},
		{[]api.Item{num("a", low), num("b", 1), num("c", -1)}, low, api.OK},
		{[]api.Item{num("a", low), num("b", -1)}, 0, api.ErrOver},
		{[]api.Item{num("a", low), num("b", low), num("c", 1)}, 0, api.ErrOver},
		{[]api.Item{num("a", low), num("b", 0), num("c", top)}, -1, api.OK},
		{[]api.Item{num("a", top), num("b", 0)}, top, api.OK},
		{[]api.Item{num("a", 1), text}, 0, api.ErrType},
		{[]api.Item{num("a", 1), yes}, 0, api.ErrType},
		{[]api.Item{num("a", top), num("b", 1), text}, 0, api.ErrType},
		{[]api.Item{text, num("p", top), num("q", 1)}, 0, api.ErrType},
	} {
		if n, e := span.Sum(of(x.l...), "", ""); n != x.want || e != x.e {
			t.Errorf("Sum of %v = %d, %d, want %d, %d", x.l, n, e, x.want, x.e)
		}
	}
	if n, e := span.Sum(of(num("a", 1), text, num("z", 5)), "a", "m"); n != 1 || e != api.OK {
		t.Errorf("Sum beside a Text = %d, %d", n, e)
	}
}

// P11.3
func TestFirstLast(t *testing.T) {
	l := sorted()
	x := of(sorted()...)
	for _, k := range []string{"", "-", "-.", "/", "0/", "0/y", "9z", "_z", "a", "az", "b", "m", "yz", "z", "zz"} {
		var first, last api.Item
		firstErr, lastErr := api.ErrNone, api.ErrNone
		if in := within(l, k, ""); len(in) > 0 {
			first, firstErr = in[0], api.OK
		}
		if in := within(l, "", k); k != "-" {
			last, lastErr = in[len(in)-1], api.OK
		}
		if got, e := span.First(x, k); got != first || e != firstErr {
			t.Errorf("First(%q) = %v, %d, want %v, %d", k, got, e, first, firstErr)
		}
		if got, e := span.Last(x, k); got != last || e != lastErr {
			t.Errorf("Last(%q) = %v, %d, want %v, %d", k, got, e, last, lastErr)
		}
	}
	for _, k := range []string{"", "a"} {
		if got, e := span.First(api.Trunk{}, k); got != (api.Item{}) || e != api.ErrNone {
			t.Errorf("First of nothing = %v, %d", got, e)
		}
		if got, e := span.Last(api.Trunk{}, k); got != (api.Item{}) || e != api.ErrNone {
			t.Errorf("Last of nothing = %v, %d", got, e)
		}
	}
}

// P11.5: a range that is divided has the items of both parts; the next item of an item is the first one from the least key above its key on.
func TestDivide(t *testing.T) {
	l := sorted()
	x := of(sorted()...)
	for i, at := range l {
		a, _ := span.Scan(x, "", at.Key, 999)
		b, _ := span.Scan(x, at.Key, "", 999)
		if !slices.Equal(slices.Concat(a, b), l) {
			t.Errorf("divided at %q: %v and %v", at.Key, a, b)
		}
		if i+1 < len(l) {
			if next, e := span.First(x, at.Key+"-"); next != l[i+1] || e != api.OK {
				t.Errorf("behind %q: %v, %d", at.Key, next, e)
			}
		}
	}
}

// P11.4
func TestUnder(t *testing.T) {
	x := of(sorted()...)
	for _, p := range []string{"", "-", "0", "0/", "a", "m", "z", "zz", "0/x", "_"} {
		var want []api.Item
		for _, i := range sorted() {
			if strings.HasPrefix(i.Key, p) {
				want = append(want, i)
			}
		}
		if l, e := span.Under(x, p); !slices.Equal(l, want) || e != api.OK {
			t.Errorf("Under(%q) = %v, %d", p, l, e)
		}
	}
}

// P11.4
func TestNames(t *testing.T) {
	x := of(num("x/1/a", 1), num("x/2", 1), num("x/1/b", 1), num("x/1-a", 1), num("x/1-", 1), num("x/", 1), num("x", 1), num("y/1", 1), num("x//2", 1), num("x/10/5", 1))
	for p, want := range map[string][]string{
		"x/": {"", "1", "1-", "1-a", "10", "2"}, "x/1": {"", "-", "-a", "0"}, "x/1/": {"a", "b"}, "x/2": {""}, "": {"x", "y"}, "y": {""}, "y/": {"1"}, "z": nil, "x//": {"2"},
	} {
		if l, e := span.Names(x, p); !slices.Equal(l, want) || e != api.OK {
			t.Errorf("Names(%q) = %q, %d, want %q", p, l, e, want)
		}
	}
}

// R3: what is returned shares nothing with the trunk.
func TestCopies(t *testing.T) {
	x := of(sorted()...)
	for _, f := range []func() ([]api.Item, api.Errno){
		func() ([]api.Item, api.Errno) { return span.Scan(x, "", "", 999) },
		func() ([]api.Item, api.Errno) { return span.Back(x, "", "", 999) },
		func() ([]api.Item, api.Errno) { return span.Under(x, "a") },
	} {
		l, _ := f()
		clear(l)
	}
	if l, _ := span.Scan(x, "", "", 999); !slices.Equal(l, sorted()) {
		t.Error("a result shares the trunk's memory")
	}
}
