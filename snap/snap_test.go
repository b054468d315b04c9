package snap_test

import (
	"math"
	"slices"
	"testing"

	"plenum/api"
	"plenum/snap"
	"plenum/store"
)

// at returns the store with the quotas 99 and 9, after as many versions; each but the first puts one of four keys.
func at(t *testing.T, ver int) api.Store {
	t.Helper()
	s, _ := store.New(99, 9)
	for i := range ver {
		s, _, _ = store.Take(s, []api.Edit{{Key: string(rune('a' + i%4)), Val: api.Value{Kind: 2, I: int64(i)}}})
	}
	if s.Ver != ver {
		t.Fatalf("version %d", s.Ver)
	}
	return s
}

// list returns the snapshots of ascending versions at these numbers.
func list(t *testing.T, seqs ...int) []api.Snap {
	t.Helper()
	var l []api.Snap
	for i, seq := range seqs {
		l = append(l, api.Snap{Seq: seq, S: at(t, i)})
	}
	return l
}

func same(a, b []api.Snap) bool {
	return slices.EqualFunc(a, b, func(x, y api.Snap) bool { return x.Seq == y.Seq && store.Same(x.S, y.S) })
}

type fault struct {
	l  []api.Snap
	e  api.Errno
	at int
}

// faulty returns lists that are not valid, with what Check says of them.
func faulty(t *testing.T) []fault {
	bytes, keys, bad := at(t, 3), at(t, 3), at(t, 3)
	bytes.Bytes++
	keys.Keys--
	bad.Ver = 1
	ok := api.Snap{Seq: 1, S: at(t, 2)}
	return []fault{
		{list(t, -1), api.ErrArg, 0},
		{list(t, math.MinInt, 5), api.ErrArg, 0},
		{[]api.Snap{{Seq: 1, S: bad}}, api.ErrArg, 0},
		{[]api.Snap{ok, {Seq: 2, S: bad}}, api.ErrArg, 1},
		{[]api.Snap{ok, {Seq: 1, S: bad}}, api.ErrArg, 1},
		{list(t, 1, -1), api.ErrArg, 1},
		{list(t, 1, 1), api.ErrForm, 1},
		{list(t, 1, 5, 4, -1), api.ErrForm, 2},
		{[]api.Snap{ok, {Seq: 2, S: at(t, 1)}}, api.ErrForm, 1},
		{[]api.Snap{ok, {Seq: 2, S: bytes}}, api.ErrForm, 1},
		{[]api.Snap{ok, {Seq: 2, S: keys}}, api.ErrForm, 1},
		{[]api.Snap{ok, {Seq: 2, S: at(t, 2)}, {Seq: 3, S: keys}}, api.ErrForm, 2},
		{list(t, 1, 2, 3, 4, 5, 6, 7, 8, 9), api.ErrFull, 8},
		{make([]api.Snap, 9), api.ErrFull, 8},
	}
}

// P14.1
func TestCheck(t *testing.T) {
	same := []api.Snap{{Seq: 0, S: at(t, 2)}, {Seq: 1, S: at(t, 2)}, {Seq: math.MaxInt, S: at(t, 3)}}
	for _, l := range [][]api.Snap{nil, list(t, 0), list(t, 0, 1), list(t, 3, 4, 9, 12, 13, 14, 15, 16), same} {
		if e, i := snap.Check(l); e != api.OK || i != 0 {
			t.Errorf("Check of %d snapshots = %d, %d", len(l), e, i)
		}
	}
	for _, x := range faulty(t) {
		if e, i := snap.Check(x.l); e != x.e || i != x.at {
			t.Errorf("Check(%v) = %d, %d, want %d, %d", x.l, e, i, x.e, x.at)
		}
	}
}

// P14.1
func TestFaulty(t *testing.T) {
	for _, x := range faulty(t) {
		for _, seq := range []int{1, 99, -5} {
			if l, e := snap.Keep(x.l, seq, at(t, 9)); len(l) != 0 || e != api.ErrArg {
				t.Errorf("Keep = %v, %d", l, e)
			}
			if s, e := snap.At(x.l, seq); !store.Same(s, api.Store{}) || e != api.ErrArg {
				t.Errorf("At = %v, %d", s, e)
			}
			if n, s, e := snap.Last(x.l, seq); n != 0 || !store.Same(s, api.Store{}) || e != api.ErrArg {
				t.Errorf("Last = %d, %v, %d", n, s, e)
			}
			if l, e := snap.Drop(x.l, seq); len(l) != 0 || e != api.ErrArg {
				t.Errorf("Drop = %v, %d", l, e)
			}
			if l, e := snap.Changed(x.l, 1, seq); len(l) != 0 || e != api.ErrArg {
				t.Errorf("Changed = %v, %d", l, e)
			}
		}
	}
}

// P14.2
func TestKeep(t *testing.T) {
	var l []api.Snap
	var e api.Errno
	for i := range 20 {
		s := at(t, i/2)
		before := slices.Clone(l)
		next, e := snap.Keep(l, 3*i, s)
		want := append(slices.Clone(l), api.Snap{Seq: 3 * i, S: s})
		if len(want) > 8 {
			want = want[1:]
		}
		if e != api.OK || !same(next, want) {
			t.Fatalf("Keep %d = %v, %d", i, next, e)
		}
		if !same(l, before) {
			t.Errorf("Keep %d has changed its argument", i)
		}
		l = next
	}
	for _, seq := range []int{57, 56, 0, -1, math.MinInt} {
		for _, s := range []api.Store{at(t, 9), {Ver: -1}} {
			if got, e := snap.Keep(l, seq, s); len(got) != 0 || e != api.ErrOld {
				t.Errorf("Keep at %d = %v, %d", seq, got, e)
			}
		}
	}
	if got, e := snap.Keep(list(t, 5), 5, at(t, 1)); len(got) != 0 || e != api.ErrOld {
		t.Errorf("Keep at 5 again = %v, %d", got, e)
	}
	other := at(t, 12)
	other.Bytes++
	for _, s := range []api.Store{at(t, 8), other} {
		if got, e := snap.Keep(l, 58, s); len(got) != 0 || e != api.ErrForm {
			t.Errorf("Keep of %v = %v, %d", s, got, e)
		}
		if got, e := snap.Keep(l[1:], 58, s); len(got) != 0 || e != api.ErrForm {
			t.Errorf("Keep of %v = %v, %d", s, got, e)
		}
	}
	if got, e := snap.Keep(l, 58, api.Store{Ver: -1}); len(got) != 0 || e != api.ErrArg {
		t.Errorf("Keep of a wrong store = %v, %d", got, e)
	}
	if l, e = snap.Keep(nil, -1, at(t, 0)); len(l) != 0 || e != api.ErrArg {
		t.Errorf("Keep at -1 = %v, %d", l, e)
	}
	if l, e = snap.Keep(nil, 0, at(t, 0)); len(l) != 1 || e != api.OK {
		t.Errorf("Keep at 0 = %v, %d", l, e)
	}
}

// P14.3, P14.6
func TestAtLast(t *testing.T) {
	seqs := []int{0, 3, 4, 9}
	l := list(t, seqs...)
	for seq := -2; seq < 12; seq++ {
		i, here := slices.BinarySearch(seqs, seq)
		s, e := snap.At(l, seq)
		if here && (e != api.OK || !store.Same(s, at(t, i))) || !here && (e != api.ErrNone || !store.Same(s, api.Store{})) {
			t.Errorf("At(%d) = %v, %d", seq, s, e)
		}
		if !here {
			i--
		}
		n, s, e := snap.Last(l, seq)
		if i < 0 {
			if n != 0 || e != api.ErrNone || !store.Same(s, api.Store{}) {
				t.Errorf("Last(%d) = %d, %v, %d", seq, n, s, e)
			}
		} else if n != seqs[i] || e != api.OK || !store.Same(s, at(t, i)) {
			t.Errorf("Last(%d) = %d, %v, %d", seq, n, s, e)
		}
	}
	if _, _, e := snap.Last(nil, 5); e != api.ErrNone {
		t.Errorf("Last of nothing: %d", e)
	}
	if _, e := snap.At(nil, 0); e != api.ErrNone {
		t.Errorf("At of nothing: %d", e)
	}
}

// P14.4
func TestDrop(t *testing.T) {
	l := list(t, 0, 3, 4, 9)
	for below, from := range map[int]int{math.MinInt: 0, -1: 0, 0: 0, 1: 1, 3: 1, 4: 2, 5: 3, 9: 3, 10: 3, math.MaxInt: 3} {
		got, e := snap.Drop(l, below)
		if !same(got, l[from:]) || e != api.OK {
			t.Errorf("Drop(%d) = %v, %d", below, got, e)
		}
		clear(got)
	}
	if !same(l, list(t, 0, 3, 4, 9)) {
		t.Error("Drop shares its argument")
	}
	if got, e := snap.Drop(nil, 5); len(got) != 0 || e != api.OK {
		t.Errorf("Drop of nothing = %v, %d", got, e)
	}
}

// P14.5
func TestChanged(t *testing.T) {
	l := list(t, 0, 3, 4, 9)
	for _, x := range []struct {
		from, to int
		want     []int
		e        api.Errno
	}{
		{0, 0, nil, api.OK}, {0, 3, []int{1}, api.OK}, {3, 0, []int{1}, api.OK}, {0, 9, []int{1, 2, 3}, api.OK}, {3, 9, []int{2, 3}, api.OK}, {9, 9, nil, api.OK},
		{1, 3, nil, api.ErrNone}, {3, 1, nil, api.ErrNone}, {10, 3, nil, api.ErrNone}, {3, -1, nil, api.ErrNone}, {1, 1, nil, api.ErrNone},
	} {
		if got, e := snap.Changed(l, x.from, x.to); !slices.Equal(got, x.want) || e != x.e {
			t.Errorf("Changed(%d, %d) = %v, %d", x.from, x.to, got, e)
		}
	}
}
