package clash_test

import (
	"math"
	"slices"
	"strings"
	"testing"

	"plenum/api"
	"plenum/clash"
)

// want returns a declaration; the patterns are divided by blanks, and a dot stands for the empty pattern.
func want(reads, writes string) api.Want {
	split := func(s string) []string {
		l := strings.Fields(s)
		for i := range l {
			if l[i] == "." {
				l[i] = ""
			}
		}
		return l
	}
	return api.Want{Reads: split(reads), Writes: split(writes)}
}

// four are the declarations of the examples.
var four = []api.Want{want("", "a/"), want("a/1", ""), want("b", ""), want("", ".")}

var wrong = []api.Want{want("A", ""), want("", "A"), want("a b c D", "a"), want("a", "a B b"), {Reads: []string{"\x00"}}, {Writes: []string{strings.Repeat("a", 25)}}, {Writes: []string{"", "a{"}}}

func sameLists(a, b [][]int) bool {
	return slices.EqualFunc(a, b, func(x, y []int) bool { return slices.Equal(x, y) })
}

// P23.1, P23.4
func TestPair(t *testing.T) {
	for _, x := range []struct {
		a, b api.Want
		is   bool
	}{
		{want("", "a"), want("", "a"), true},
		{want("", "a"), want("a", ""), true},
		{want("a", ""), want("a", ""), false},
		{want("a", ""), want("", "b"), false},
		{want("", "a"), want("", "b"), false},
		{want("", "a/"), want("a/1", ""), true},
		{want("", "a/1"), want("a/", ""), true},
		{want("", "a/1"), want("a/2", ""), false},
		{want("", "."), want("x", ""), true},
		{want("", "."), want("", "x"), true},
		{want(".", ""), want("", "x"), true},
		{want(".", ""), want(".", ""), false},
		{want("", "."), want("", ""), false},
		{want("", ""), want("", ""), false},
		{want("a b", "c d"), want("e f", "g h"), false},
		{want("a b", "c d"), want("e f", "g d"), true},
		{want("a b", "c d"), want("e d", "g h"), true},
		{want("a b", "c d"), want("e f", "g b"), true},
		{want("a b", "c d"), want("a b", "g h"), false},
		{want("a", "a"), want("", ""), false},
	} {
		if clash.Pair(x.a, x.b) != x.is || clash.Pair(x.b, x.a) != x.is {
			t.Errorf("Pair(%v, %v) = %v, %v", x.a, x.b, clash.Pair(x.a, x.b), clash.Pair(x.b, x.a))
		}
	}
	for _, w := range wrong {
		for _, o := range []api.Want{want("", "."), want("", "a A"), w, want(".", "")} {
			if clash.Pair(w, o) || clash.Pair(o, w) {
				t.Errorf("Pair with %v", w)
			}
		}
	}
}

// P23.2
func TestAhead(t *testing.T) {
	if l, e := clash.Ahead(four); !sameLists(l, [][]int{nil, {0}, nil, {0, 1, 2}}) || e != api.OK {
		t.Errorf("Ahead = %v, %d", l, e)
	}
	if l, e := clash.Ahead(nil); len(l) != 0 || e != api.OK {
		t.Errorf("Ahead of nothing = %v, %d", l, e)
	}
	if l, e := clash.Ranks(four); !slices.Equal(l, []int{0, 1, 0, 2}) || e != api.OK {
		t.Errorf("Ranks = %v, %d", l, e)
	}
	if l, e := clash.Ranks(nil); len(l) != 0 || e != api.OK {
		t.Errorf("Ranks of nothing = %v, %d", l, e)
	}
	chain := []api.Want{want("", "a"), want("", "b"), want("a", "c"), want("c b", ""), want("b", ""), want("", "a"), want("x", ".")}
	if l, e := clash.Ahead(chain); !sameLists(l, [][]int{nil, nil, {0}, {1, 2}, {1}, {0, 2}, {0, 1, 2, 3, 4, 5}}) || e != api.OK {
		t.Errorf("Ahead = %v, %d", l, e)
	}
	if l, e := clash.Ranks(chain); !slices.Equal(l, []int{0, 0, 1, 2, 1, 2, 3}) || e != api.OK {
		t.Errorf("Ranks = %v, %d", l, e)
	}
	most := slices.Repeat([]api.Want{want("", "a")}, 64)
	if l, e := clash.Ranks(most); len(l) != 64 || l[63] != 63 || e != api.OK {
		t.Errorf("Ranks of 64 = %v, %d", l, e)
	}
	if l, e := clash.Ahead(most); len(l) != 64 || len(l[63]) != 63 || e != api.OK {
		t.Errorf("Ahead of 64: %d", e)
	}
}

// P23.2, P23.3
func TestArg(t *testing.T) {
	lists := [][]api.Want{make([]api.Want, 65)}
	for _, w := range wrong {
		lists = append(lists, []api.Want{w}, append(slices.Clone(four), w), append([]api.Want{w}, four...))
	}
	for _, l := range lists {
		if got, e := clash.Ahead(l); len(got) != 0 || e != api.ErrArg {
			t.Errorf("Ahead(%v) = %v, %d", l, got, e)
		}
		if got, e := clash.Ranks(l); len(got) != 0 || e != api.ErrArg {
			t.Errorf("Ranks(%v) = %v, %d", l, got, e)
		}
		for _, order := range [][]int{nil, {0}, {0, 1, 2, 3, 4}} {
			if is, e := clash.Swap(l, order); is || e != api.ErrArg {
				t.Errorf("Swap(%v, %v) = %v, %d", l, order, is, e)
			}
		}
	}
}

// P23.3
func TestSwap(t *testing.T) {
	for _, x := range []struct {
		order []int
		is    bool
	}{
		{[]int{0, 1, 2, 3}, true}, {[]int{2, 0, 1, 3}, true}, {[]int{0, 2, 1, 3}, true}, {[]int{1, 0, 2, 3}, false}, {[]int{0, 1, 3, 2}, false}, {[]int{3, 2, 1, 0}, false}, {[]int{1, 2, 3, 0}, false}, {[]int{2, 1, 0, 3}, false},
	} {
		if is, e := clash.Swap(four, x.order); is != x.is || e != api.OK {
			t.Errorf("Swap(%v) = %v, %d", x.order, is, e)
		}
	}
	for _, order := range [][]int{nil, {0, 1, 2}, {0, 1, 2, 3, 3}, {0, 1, 2, 2}, {0, 1, 2, 4}, {-1, 0, 1, 2}, {0, 1, 2, math.MaxInt}, {math.MinInt, 1, 2, 3}, {1, 1, 1, 1}, {0, 1, 2, 3, 4}} {
		if is, e := clash.Swap(four, order); is || e != api.ErrForm {
			t.Errorf("Swap(%v) = %v, %d", order, is, e)
		}
	}
	if is, e := clash.Swap(nil, nil); !is || e != api.OK {
		t.Errorf("Swap of nothing = %v, %d", is, e)
	}
	if is, e := clash.Swap(nil, []int{0}); is || e != api.ErrForm {
		t.Errorf("Swap of nothing with an order = %v, %d", is, e)
	}
}

// P23.4
func TestRanks(t *testing.T) {
	var l []api.Want
	for i := range 24 {
		l = append(l, want(string(rune('a'+i%5)), string(rune('a'+i*i%7))))
	}
	ranks, _ := clash.Ranks(l)
	var order []int
	for r := range 24 {
		for i := 23; i >= 0; i-- {
			if ranks[i] == r {
				order = append(order, i)
			}
		}
	}
	for i := range l {
		for j := range i {
			if ranks[i] == ranks[j] && clash.Pair(l[i], l[j]) {
				t.Errorf("%d and %d clash, and have the rank %d", i, j, ranks[i])
			}
		}
	}
	if is, e := clash.Swap(l, order); !is || e != api.OK {
		t.Errorf("in the order of the ranks %v: %v, %d", order, is, e)
	}
}
