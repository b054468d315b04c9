package marks_test

import (
	"math"
	"slices"
	"testing"

	"plenum/api"
	"plenum/marks"
)

const last = 1<<31 - 1

func mark(from, seq, term int) api.Mark { return api.Mark{From: from, Seq: seq, Term: term} }

func same(a, b api.Marks) bool {
	return a.Low == b.Low && a.Root == b.Root && slices.Equal(a.L, b.L)
}

// some are marks above 8.
func some() api.Marks {
	return api.Marks{Low: 8, Root: 5, L: []api.Mark{mark(1, 12, 7), mark(3, 12, 6), mark(0, 16, 9), mark(1, 16, 9), mark(2, 24, 1)}}
}

func change(f func(*api.Marks)) api.Marks {
	m := some()
	f(&m)
	return m
}

// with are some marks with one element more, or less.
func with(l ...api.Mark) api.Marks { return api.Marks{Low: 8, Root: 5, L: l} }

var wrong = []api.Marks{
	{Low: -4}, {Low: 1}, {Low: 2}, {Low: 3}, {Low: 10}, {Low: last + 1}, {Low: math.MaxInt}, {Low: math.MinInt}, {Root: -1}, {Root: last + 1}, {Root: math.MaxInt},
	with(mark(-1, 12, 7)), with(mark(64, 12, 7)), with(mark(math.MaxInt, 12, 7)), with(mark(1, 12, -1)), with(mark(1, 12, last+1)),
	with(mark(1, 8, 7)), with(mark(1, 4, 7)), with(mark(1, 0, 7)), with(mark(1, -12, 7)), with(mark(1, 28, 7)), with(mark(1, 13, 7)), with(mark(1, 14, 7)), with(mark(1, 15, 7)), with(mark(1, math.MaxInt, 7)), with(mark(1, math.MinInt, 7)),
	with(mark(1, 12, 7), mark(1, 12, 7)), with(mark(1, 12, 7), mark(1, 12, 8)), with(mark(1, 12, 7), mark(0, 12, 7)), with(mark(1, 16, 7), mark(2, 12, 7)), with(mark(1, 12, 7), mark(2, 12, 7), mark(2, 16, -1)),
	{Low: last - 3, L: []api.Mark{mark(1, last+1, 7)}},
}

// P30.1
func TestMay(t *testing.T) {
	for _, m := range []api.Marks{{}, some(), {Low: last - 3, Root: last}, {Root: last}, {L: []api.Mark{mark(63, 4, last), mark(0, 16, 0)}}} {
		if !marks.May(m) {
			t.Errorf("May(%v) is false", m)
		}
	}
	for _, m := range wrong {
		if marks.May(m) {
			t.Errorf("May(%v) is true", m)
		}
		for seq := range 40 {
			if marks.In(m, seq) {
				t.Errorf("In(%v, %d) is true", m, seq)
			}
		}
		if got, is, e := marks.Say(m, mark(2, 12, 7), 4); !same(got, api.Marks{}) || is || e != api.ErrArg {
			t.Errorf("Say in %v = %v, %v, %d", m, got, is, e)
		}
		if got, is, e := marks.Say(m, mark(2, 1000, 7), 4); !same(got, api.Marks{}) || is || e != api.ErrArg {
			t.Errorf("Say in %v = %v, %v, %d", m, got, is, e)
		}
		for _, low := range []int{0, 4, 1000} {
			if got, e := marks.Move(m, low, 1); !same(got, api.Marks{}) || e != api.ErrArg {
				t.Errorf("Move of %v = %v, %d", m, got, e)
			}
		}
	}
	bad := change(func(m *api.Marks) { m.Root = -1 })
	if l := marks.Voices(bad, 12, 7); len(l) != 0 {
		t.Errorf("Voices of wrong marks = %v", l)
	}
}

// P30.1
func TestIn(t *testing.T) {
	for _, x := range []struct {
		low, seq int
		is       bool
	}{
		{0, 0, false}, {0, 1, true}, {0, 16, true}, {0, 17, false}, {0, -1, false}, {8, 8, false}, {8, 9, true}, {8, 24, true}, {8, 25, false}, {8, 4, false},
		{last - 3, last - 3, false}, {last - 3, last - 2, true}, {last - 3, last, true}, {last - 3, last + 1, false}, {last - 19, last - 3, true}, {last - 19, last - 2, false},
		{0, math.MaxInt, false}, {0, math.MinInt, false}, {8, math.MinInt, false}, {last - 3, math.MaxInt, false},
	} {
		if marks.In(api.Marks{Low: x.low}, x.seq) != x.is {
			t.Errorf("In(%d, %d) = %v", x.low, x.seq, !x.is)
		}
	}
}

// P30.1
func TestDue(t *testing.T) {
	for seq, is := range map[int]bool{0: false, 1: false, 2: false, 3: false, 4: true, 5: false, 8: true, 24: true, -4: false, -8: false, last - 3: true, last: false, last + 1: true, math.MaxInt: false, math.MaxInt - 3: true, math.MinInt: false} {
		if marks.Due(seq) != is {
			t.Errorf("Due(%d) = %v", seq, !is)
		}
	}
}

// P30.2
func TestSay(t *testing.T) {
	for _, x := range []struct {
		x  api.Mark
		at int
		e  api.Errno
	}{
		{mark(0, 12, 7), 0, api.OK}, {mark(2, 12, 7), 1, api.OK}, {mark(2, 12, 0), 1, api.OK}, {mark(2, 16, last), 4, api.OK}, {mark(0, 20, 7), 4, api.OK}, {mark(3, 24, 7), 5, api.OK},
		{mark(1, 12, 7), 0, api.ErrThere}, {mark(2, 24, 1), 0, api.ErrThere}, {mark(1, 12, 8), 0, api.ErrTwice}, {mark(3, 12, 7), 0, api.ErrTwice},
		{mark(0, 8, 7), 0, api.ErrMark}, {mark(0, 4, 7), 0, api.ErrMark}, {mark(0, 28, 7), 0, api.ErrMark}, {mark(0, last-3, 7), 0, api.ErrMark}, {mark(0, last+1, 7), 0, api.ErrMark},
		{mark(0, 0, 7), 0, api.ErrArg}, {mark(0, 13, 7), 0, api.ErrArg}, {mark(0, -4, 7), 0, api.ErrArg}, {mark(0, 29, 7), 0, api.ErrArg}, {mark(0, math.MinInt, 7), 0, api.ErrArg}, {mark(0, math.MaxInt, 7), 0, api.ErrArg},
		{mark(-1, 12, 7), 0, api.ErrArg}, {mark(4, 12, 7), 0, api.ErrArg}, {mark(math.MaxInt, 28, 7), 0, api.ErrArg}, {mark(0, 12, -1), 0, api.ErrArg}, {mark(0, 12, last+1), 0, api.ErrArg}, {mark(0, 28, -1), 0, api.ErrArg},
	} {
		m := some()
		want := api.Marks{}
		if x.e == api.OK {
			want = some()
			want.L = slices.Insert(want.L, x.at, x.x)
		}
		got, is, e := marks.Say(m, x.x, 4)
		if !same(got, want) || is || e != x.e {
			t.Errorf("Say(%v) = %v, %v, %d, want %v, %d", x.x, got, is, e, want, x.e)
		}
		clear(got.L)
		if !same(m, some()) {
			t.Errorf("Say(%v) has changed its argument, or shares it", x.x)
		}
	}
	for _, n := range []int{0, -1, 1, 3, 5, 6, 17, 64, math.MaxInt, math.MinInt} {
		for _, x := range []api.Mark{mark(0, 12, 7), mark(0, 28, 7), mark(1, 12, 7)} {
			if got, is, e := marks.Say(some(), x, n); !same(got, api.Marks{}) || is || e != api.ErrArg {
				t.Errorf("Say(%v) of %d replicas = %v, %v, %d", x, n, got, is, e)
			}
		}
	}
	if got, is, e := marks.Say(api.Marks{}, mark(6, 4, 7), 7); !same(got, api.Marks{L: []api.Mark{mark(6, 4, 7)}}) || is || e != api.OK {
		t.Errorf("Say of the last of 7 = %v, %v, %d", got, is, e)
	}
}

// says lets marks be said one after the other, and returns what Say returns for the last one.
func says(t *testing.T, m api.Marks, n int, l ...api.Mark) (api.Marks, bool) {
	t.Helper()
	var is bool
	for _, x := range l {
		if is {
			t.Fatalf("stable too early: %v", m)
		}
		var e api.Errno
		if m, is, e = marks.Say(m, x, n); e != api.OK {
			t.Fatalf("Say(%v) = %d", x, e)
		}
	}
	return m, is
}

// P30.2
func TestStable(t *testing.T) {
	m, is := says(t, api.Marks{}, 4, mark(0, 4, 7), mark(1, 4, 7))
	if is || len(m.L) != 2 {
		t.Errorf("two of four: %v, %v", m, is)
	}
	m, is = says(t, m, 4, mark(2, 4, 7))
	if !is || !same(m, api.Marks{Low: 4, Root: 7}) {
		t.Errorf("three of four: %v, %v", m, is)
	}
	for _, x := range []api.Mark{mark(3, 4, 7), mark(3, 24, 7)} {
		if got, is, e := marks.Say(m, x, 4); !same(got, api.Marks{}) || is || e != api.ErrMark {
			t.Errorf("Say(%v) = %v, %v, %d", x, got, is, e)
		}
	}
	m, is = says(t, some(), 4, mark(3, 16, 9))
	if !is || !same(m, api.Marks{Low: 16, Root: 9, L: []api.Mark{mark(2, 24, 1)}}) {
		t.Errorf("stable at 16: %v, %v", m, is)
	}
	m, is = says(t, some(), 4, mark(2, 12, 7), mark(0, 12, 7))
	if !is || !same(m, api.Marks{Low: 12, Root: 7, L: some().L[2:]}) {
		t.Errorf("stable at 12: %v, %v", m, is)
	}
	m, is = says(t, some(), 4, mark(2, 12, 6), mark(0, 12, 7))
	if is || len(m.L) != 7 {
		t.Errorf("two say 6 and two say 7: %v, %v", m, is)
	}
	m, is = says(t, api.Marks{}, 7, mark(6, 4, 0), mark(5, 4, 0), mark(4, 4, 0), mark(2, 8, 0), mark(3, 4, 0), mark(2, 4, 0))
	if !is || !same(m, api.Marks{Low: 4, L: []api.Mark{mark(2, 8, 0)}}) {
		t.Errorf("five of seven: %v, %v", m, is)
	}
	strangers := api.Marks{L: []api.Mark{mark(5, 4, 7), mark(6, 4, 7), mark(63, 4, 7)}}
	m, is = says(t, strangers, 4, mark(0, 4, 7), mark(1, 4, 7))
	if is || len(m.L) != 5 {
		t.Errorf("two replicas and three others: %v, %v", m, is)
	}
	if m, is = says(t, m, 4, mark(2, 4, 7)); !is || !same(m, api.Marks{Low: 4, Root: 7}) {
		t.Errorf("three replicas and three others: %v, %v", m, is)
	}
	m, is = says(t, api.Marks{Low: last - 3 - 16}, 4, mark(0, last-3, 7), mark(1, last-3, 7), mark(3, last-3, 7))
	if !is || !same(m, api.Marks{Low: last - 3, Root: 7}) {
		t.Errorf("the last checkpoint: %v, %v", m, is)
	}
}

// P30.3
func TestVoices(t *testing.T) {
	m := some()
	m.L = slices.Insert(m.L, 1, mark(2, 12, 7))
	for _, x := range []struct {
		seq, term int
		from      []int
	}{{12, 7, []int{1, 2}}, {12, 6, []int{3}}, {16, 9, []int{0, 1}}, {12, 9, nil}, {20, 7, nil}, {8, 5, nil}, {math.MaxInt, math.MinInt, nil}} {
		var want []api.Stmt
		for _, p := range x.from {
			want = append(want, api.Stmt{From: p, Kind: 5, Seq: x.seq, Term: x.term})
		}
		if got := marks.Voices(m, x.seq, x.term); !slices.Equal(got, want) {
			t.Errorf("Voices(%d, %d) = %v", x.seq, x.term, got)
		}
	}
}

// P30.3
func TestMove(t *testing.T) {
	for _, x := range []struct {
		low, root, from int
		e               api.Errno
	}{
		{12, 3, 2, api.OK}, {16, 0, 4, api.OK}, {20, last, 4, api.OK}, {24, 1, 5, api.OK}, {400, 1, 5, api.OK}, {last - 3, 1, 5, api.OK},
		{8, 3, 0, api.ErrOld}, {4, 3, 0, api.ErrOld},
		{0, 3, 0, api.ErrArg}, {-4, 3, 0, api.ErrArg}, {13, 3, 0, api.ErrArg}, {last + 1, 3, 0, api.ErrArg}, {math.MaxInt - 3, 3, 0, api.ErrArg}, {math.MinInt, 3, 0, api.ErrArg}, {12, -1, 0, api.ErrArg}, {12, last + 1, 0, api.ErrArg}, {4, -1, 0, api.ErrArg},
	} {
		want := api.Marks{}
		if x.e == api.OK {
			want = api.Marks{Low: x.low, Root: x.root, L: some().L[x.from:]}
		}
		m := some()
		got, e := marks.Move(m, x.low, x.root)
		if !same(got, want) || e != x.e {
			t.Errorf("Move(%d, %d) = %v, %d, want %v, %d", x.low, x.root, got, e, want, x.e)
		}
		clear(got.L)
		if !same(m, some()) {
			t.Errorf("Move(%d, %d) has changed its argument, or shares it", x.low, x.root)
		}
	}
}

// P30.4
func TestBounded(t *testing.T) {
	m := api.Marks{}
	low := 0
	for i := range 4000 {
		x := mark(i%7, low+4*(i*i%6), 1+i%11/10)
		if got, _, e := marks.Say(m, x, 7); e == api.OK {
			m = got
		}
		seen := map[[2]int]bool{}
		seqs := map[int]bool{}
		for _, y := range m.L {
			if seen[[2]int{y.From, y.Seq}] {
				t.Fatalf("two marks of one replica: %v", m)
			}
			seen[[2]int{y.From, y.Seq}] = true
			seqs[y.Seq] = true
		}
		if m.Low < low || len(seqs) > 4 || !marks.May(m) {
			t.Fatalf("after %d: %v", low, m)
		}
		low = m.Low
	}
	if low == 0 {
		t.Error("nothing has become stable")
	}
}
