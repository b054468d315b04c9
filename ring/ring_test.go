package ring_test

import (
	"math"
	"slices"
	"testing"

	"plenum/api"
	"plenum/ring"
)

func made(t *testing.T, parties int, bad ...int) *ring.Ring {
	t.Helper()
	r, e := ring.New(parties, bad)
	if e != api.OK || r == nil {
		t.Fatalf("New(%d, %v): %d", parties, bad, e)
	}
	return r
}

// say fails unless Say returns want.
func say(t *testing.T, r *ring.Ring, as int, s api.Stmt, want api.Errno) {
	t.Helper()
	if e := r.Say(as, s); e != want {
		t.Errorf("Say(%d, %v) = %d, want %d", as, s, e, want)
	}
}

// P4.1
func TestNew(t *testing.T) {
	for _, n := range []int{0, -1, 65, math.MaxInt, math.MinInt} {
		if r, e := ring.New(n, nil); r != nil || e != api.ErrArg {
			t.Errorf("New(%d) = %v, %d", n, r, e)
		}
	}
	for _, bad := range [][]int{{4}, {-1}, {0, 4}, {-1, 0}, {math.MaxInt}, {math.MinInt}} {
		if r, e := ring.New(4, bad); r != nil || e != api.ErrArg {
			t.Errorf("New(4, %v) = %v, %d", bad, r, e)
		}
	}
	for _, n := range []int{1, 64} {
		r := made(t, n, n-1, 0, n-1)
		if r.Count() != 0 || len(r.All()) != 0 || r.Has(api.Stmt{}) {
			t.Errorf("a new ring of %d is not empty", n)
		}
	}
}

// P4.1
func TestBad(t *testing.T) {
	r := made(t, 5, 4, 1, 4)
	for p, want := range map[int]bool{0: false, 1: true, 2: false, 3: false, 4: true, 5: false, -1: false, 63: false, 64: false, math.MaxInt: false, math.MinInt: false} {
		if r.Bad(p) != want {
			t.Errorf("Bad(%d) = %v", p, !want)
		}
	}
	all := made(t, 2, 0, 1)
	if !all.Bad(0) || !all.Bad(1) {
		t.Error("all parties may be bad")
	}
}

// P4.1: the ring keeps who is bad, whatever happens to the argument.
func TestNewCopies(t *testing.T) {
	bad := []int{1}
	r, _ := ring.New(4, bad)
	bad[0] = 2
	if !r.Bad(1) || r.Bad(2) {
		t.Error("the ring shares its argument")
	}
}

// P4.2
func TestSay(t *testing.T) {
	r := made(t, 5, 1, 3)
	a := api.Stmt{From: 0, Kind: 3, View: 1, Seq: 2, Term: 4}
	say(t, r, 0, a, api.OK)
	say(t, r, 0, a, api.OK)
	if r.Count() != 1 || !r.Has(a) {
		t.Errorf("said twice: Count = %d", r.Count())
	}
	for _, p := range []int{5, -1, 64, math.MaxInt, math.MinInt} {
		say(t, r, p, api.Stmt{From: p}, api.ErrRange)
		say(t, r, p, a, api.ErrRange)
	}
	say(t, r, 2, a, api.ErrForged)
	b := api.Stmt{From: 2, Kind: 1}
	say(t, r, 0, b, api.ErrForged)
	say(t, r, 1, b, api.ErrForged)
	say(t, r, 2, api.Stmt{From: 1}, api.ErrForged)
	say(t, r, 1, api.Stmt{From: 5}, api.ErrForged)
	say(t, r, 1, api.Stmt{From: -1}, api.ErrForged)
	say(t, r, 1, api.Stmt{From: math.MaxInt}, api.ErrForged)
	if r.Has(b) || r.Count() != 1 {
		t.Error("a forged statement was recorded")
	}
	c := api.Stmt{From: 3, Kind: -7, View: math.MinInt, Seq: math.MaxInt, Term: -1}
	say(t, r, 1, c, api.OK)
	say(t, r, 3, api.Stmt{From: 1}, api.OK)
	say(t, r, 3, api.Stmt{From: 3}, api.OK)
	say(t, r, 2, b, api.OK)
	want := []api.Stmt{a, c, {From: 1}, {From: 3}, b}
	if !slices.Equal(r.All(), want) || r.Count() != len(want) {
		t.Errorf("All = %v, want %v", r.All(), want)
	}
	for _, s := range want {
		if !r.Has(s) {
			t.Errorf("%v is not recorded", s)
		}
	}
}

// P4.2: every field counts.
func TestHas(t *testing.T) {
	r := made(t, 4)
	s := api.Stmt{From: 1, Kind: 2, View: 3, Seq: 4, Term: 5}
	say(t, r, 1, s, api.OK)
	for i := range 5 {
		o := s
		*[]*int{&o.From, &o.Kind, &o.View, &o.Seq, &o.Term}[i]++
		if r.Has(o) {
			t.Errorf("%v is recorded", o)
		}
	}
}

// P4.2: All returns new memory.
func TestAllCopies(t *testing.T) {
	r := made(t, 4)
	say(t, r, 1, api.Stmt{From: 1}, api.OK)
	r.All()[0].Term = 9
	if l := r.All(); len(l) != 1 || l[0] != (api.Stmt{From: 1}) {
		t.Errorf("All = %v", l)
	}
}

// P4.2
func TestFull(t *testing.T) {
	r := made(t, 2, 1)
	for i := range api.MaxSigned {
		if e := r.Say(0, api.Stmt{Seq: i}); e != api.OK {
			t.Fatalf("statement %d: %d", i, e)
		}
	}
	say(t, r, 0, api.Stmt{Seq: -1}, api.ErrFull)
	say(t, r, 0, api.Stmt{Seq: 5}, api.OK)
	say(t, r, 1, api.Stmt{Seq: 5}, api.ErrForged)
	say(t, r, 1, api.Stmt{Seq: -1}, api.ErrForged)
	say(t, r, 2, api.Stmt{From: 2}, api.ErrRange)
	if r.Has(api.Stmt{Seq: -1}) || r.Count() != api.MaxSigned || len(r.All()) != api.MaxSigned {
		t.Error("a full ring has changed")
	}
}

// P4.3
func TestVoices(t *testing.T) {
	r := made(t, 6, 4, 5)
	at := func(p, term int) api.Stmt { return api.Stmt{From: p, Kind: 3, View: 1, Seq: 2, Term: term} }
	for _, p := range []int{3, 1, 0, 5} {
		say(t, r, p, at(p, 7), api.OK)
	}
	say(t, r, 2, at(2, 8), api.OK)
	for _, x := range []struct {
		l    []api.Stmt
		want []int
	}{
		{nil, nil},
		{[]api.Stmt{at(3, 7), at(0, 7), at(1, 7)}, []int{0, 1, 3}},
		{[]api.Stmt{at(3, 7), at(3, 7), at(0, 7), at(3, 7)}, []int{0, 3}},
		{[]api.Stmt{at(2, 7), at(4, 7), at(5, 7)}, []int{5}},
		{[]api.Stmt{at(2, 8), at(1, 8), at(1, 7)}, []int{1}},
		{[]api.Stmt{at(-1, 7), at(6, 7), at(64, 7), at(math.MaxInt, 7), at(math.MinInt, 7)}, nil},
	} {
		for _, from := range []int{0, 4, -1, 99} {
			if got := r.Voices(x.l, at(from, 7)); !slices.Equal(got, x.want) {
				t.Errorf("Voices(%v, from %d) = %v, want %v", x.l, from, got, x.want)
			}
		}
	}
	if got := r.Voices([]api.Stmt{at(0, 7), at(2, 8)}, at(0, 8)); !slices.Equal(got, []int{2}) {
		t.Errorf("Voices of another term = %v", got)
	}
	for i := range 4 {
		want := at(0, 7)
		*[]*int{&want.Kind, &want.View, &want.Seq, &want.Term}[i]++
		if got := r.Voices([]api.Stmt{at(0, 7), at(1, 7)}, want); len(got) != 0 {
			t.Errorf("Voices of %v = %v", want, got)
		}
	}
}

// P4.4
func TestUnforgeable(t *testing.T) {
	r := made(t, 4, 2, 3)
	for as := range 4 {
		for from := range 4 {
			s := api.Stmt{From: from, Term: as}
			r.Say(as, s)
			if may := as == from || as >= 2 && from >= 2; r.Has(s) != may {
				t.Errorf("%d spoke for %d: %v", as, from, r.Has(s))
			}
		}
	}
}
