package term_test

import (
	"math"
	"strconv"
	"strings"
	"testing"

	"plenum/api"
	"plenum/term"
)

// of fails unless the number of s is n.
func of(t *testing.T, x *term.Table, s string, n int) {
	t.Helper()
	if got, e := x.Of(s); got != n || e != api.OK {
		t.Errorf("Of(%q) = %d, %d, want %d", s, got, e, n)
	}
}

// P2.1
func TestOf(t *testing.T) {
	x := term.New()
	if x.Count() != 0 {
		t.Errorf("a new table has %d numbers", x.Count())
	}
	of(t, x, "a", 1)
	of(t, x, "b", 2)
	of(t, x, "a", 1)
	of(t, x, "", 3)
	of(t, x, "a\x00", 4)
	of(t, x, strings.Repeat("a", 100000), 5)
	of(t, x, "b", 2)
	of(t, x, "", 3)
	if x.Count() != 5 {
		t.Errorf("Count = %d, want 5", x.Count())
	}
}

// P2.1
func TestHas(t *testing.T) {
	x := term.New()
	of(t, x, "a", 1)
	if n, ok := x.Has("a"); n != 1 || !ok {
		t.Errorf("Has(a) = %d, %v", n, ok)
	}
	for _, s := range []string{"c", ""} {
		if n, ok := x.Has(s); n != 0 || ok {
			t.Errorf("Has(%q) = %d, %v", s, n, ok)
		}
	}
	if x.Count() != 1 {
		t.Error("Has assigned a number")
	}
	of(t, x, "", 2)
	if n, ok := x.Has(""); n != 2 || !ok {
		t.Errorf("Has of the empty string = %d, %v", n, ok)
	}
}

// P2.1
func TestFull(t *testing.T) {
	x := term.New()
	for i := 1; i <= api.MaxTerms; i++ {
		if n, e := x.Of(strconv.Itoa(i)); n != i || e != api.OK {
			t.Fatalf("string %d: %d, %d", i, n, e)
		}
	}
	if n, e := x.Of("one more"); n != 0 || e != api.ErrFull {
		t.Errorf("Of in a full table = %d, %d", n, e)
	}
	if n, e := x.List([]int{1, 2}); n != 0 || e != api.ErrFull {
		t.Errorf("List in a full table = %d, %d", n, e)
	}
	if n, ok := x.Has("one more"); n != 0 || ok {
		t.Errorf("what did not fit has the number %d", n)
	}
	if x.Count() != api.MaxTerms {
		t.Errorf("Count = %d", x.Count())
	}
	of(t, x, "65536", api.MaxTerms)
	of(t, x, "1", 1)
	if s, e := x.Text(api.MaxTerms); s != "65536" || e != api.OK {
		t.Errorf("the last text = %q, %d", s, e)
	}
	if s, e := x.Text(api.MaxTerms + 1); s != "" || e != api.ErrNone {
		t.Errorf("the text behind the last one = %q, %d", s, e)
	}
	if n, e := x.Clone().Of("one more"); n != 0 || e != api.ErrFull {
		t.Errorf("Of in the clone of a full table = %d, %d", n, e)
	}
}

// P2.2
func TestText(t *testing.T) {
	x := term.New()
	of(t, x, "a", 1)
	of(t, x, "b", 2)
	for n, want := range map[int]string{1: "a", 2: "b"} {
		if s, e := x.Text(n); s != want || e != api.OK {
			t.Errorf("Text(%d) = %q, %d", n, s, e)
		}
	}
	for _, n := range []int{0, 3, -1, math.MaxInt, math.MinInt} {
		if s, e := x.Text(n); s != "" || e != api.ErrNone {
			t.Errorf("Text(%d) = %q, %d", n, s, e)
		}
	}
}

// P2.2
func TestList(t *testing.T) {
	for _, x := range []struct {
		l []int
		s string
	}{
		{nil, ""},
		{[]int{0}, "0,"},
		{[]int{1, -2}, "1,-2,"},
		{[]int{12}, "12,"},
		{[]int{1, 2}, "1,2,"},
		{[]int{math.MinInt, math.MaxInt}, "-9223372036854775808,9223372036854775807,"},
	} {
		tab := term.New()
		of(t, tab, "first", 1)
		if n, e := tab.List(x.l); n != 2 || e != api.OK {
			t.Errorf("List(%v) = %d, %d", x.l, n, e)
		}
		if s, e := tab.Text(2); s != x.s || e != api.OK {
			t.Errorf("the string of %v is %q, want %q", x.l, s, x.s)
		}
		of(t, tab, x.s, 2)
		if n, e := tab.List(x.l); n != 2 || e != api.OK || tab.Count() != 2 {
			t.Errorf("List(%v) again = %d, %d", x.l, n, e)
		}
	}
}

// P2.2
func TestClone(t *testing.T) {
	x := term.New()
	of(t, x, "a", 1)
	of(t, x, "b", 2)
	y := x.Clone()
	if y.Count() != 2 {
		t.Errorf("the clone has %d numbers", y.Count())
	}
	of(t, x, "c", 3)
	if n, ok := y.Has("c"); n != 0 || ok || y.Count() != 2 {
		t.Error("the clone sees what came into the table")
	}
	of(t, y, "d", 3)
	of(t, y, "c", 4)
	of(t, x, "e", 4)
	of(t, y, "a", 1)
	if n, ok := x.Has("d"); n != 0 || ok {
		t.Error("the table sees what came into its clone")
	}
	for n, want := range map[int]string{1: "a", 2: "b", 3: "d", 4: "c"} {
		if s, e := y.Text(n); s != want || e != api.OK {
			t.Errorf("in the clone Text(%d) = %q, %d", n, s, e)
		}
	}
	for n, want := range map[int]string{1: "a", 2: "b", 3: "c", 4: "e"} {
		if s, e := x.Text(n); s != want || e != api.OK {
			t.Errorf("in the table Text(%d) = %q, %d", n, s, e)
		}
	}
}

// P2.3
func TestDifferent(t *testing.T) {
	x := term.New()
	lists := [][]int{nil, {0}, {0, 0}, {1}, {-1}, {1, 1}, {11}, {1, -1}, {-1, 1}, {1, 11}, {11, 1}, {111}, {1, 1, 1}, {10}, {1, 0}}
	var numbers []int
	for _, l := range lists {
		n, e := x.List(l)
		if e != api.OK {
			t.Fatal(e)
		}
		numbers = append(numbers, n)
	}
	for i, l := range lists {
		if n, _ := x.List(l); n != numbers[i] || n != i+1 {
			t.Errorf("List(%v) = %d, want %d", l, n, i+1)
		}
	}
	if x.Count() != len(lists) {
		t.Errorf("%d lists have %d numbers", len(lists), x.Count())
	}
}
