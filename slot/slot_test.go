package slot_test

import (
	"math"
	"slices"
	"strings"
	"testing"

	"plenum/api"
	"plenum/slot"
)

const last = 1<<31 - 1

func vote(from, view, term int) api.Vote { return api.Vote{From: from, View: view, Term: term} }

// votes returns votes for one view and term.
func votes(view, term int, from ...int) []api.Vote {
	var l []api.Vote
	for _, p := range from {
		l = append(l, vote(p, view, term))
	}
	return l
}

func same(a, b api.Slot) bool {
	return a.Has == b.Has && a.View == b.View && a.Term == b.Term && a.Body == b.Body && slices.Equal(a.Prepares, b.Prepares) && slices.Equal(a.Commits, b.Commits)
}

// some is a slot with a proposal of view 5, and votes.
func some() api.Slot {
	return api.Slot{Has: true, View: 5, Term: 7, Body: "b", Prepares: []api.Vote{vote(0, 5, 7), vote(2, 4, 9), vote(9, 6, 1)}, Commits: []api.Vote{vote(1, 5, 7)}}
}

func change(f func(*api.Slot)) api.Slot {
	s := some()
	f(&s)
	return s
}

var wrongVotes = []api.Vote{vote(-1, 0, 0), vote(64, 0, 0), vote(math.MaxInt, 0, 0), vote(math.MinInt, 0, 0), vote(1, -1, 0), vote(1, last+1, 0), vote(1, 0, -1), vote(1, 0, last+1), vote(1, math.MinInt, math.MaxInt)}

// wrong are slots that are not valid.
func wrong() []api.Slot {
	l := []api.Slot{
		change(func(s *api.Slot) { s.View = -1 }),
		change(func(s *api.Slot) { s.View = last + 1 }),
		change(func(s *api.Slot) { s.Term = -1 }),
		change(func(s *api.Slot) { s.Term = last + 1 }),
		change(func(s *api.Slot) { s.Body = strings.Repeat("x", 65537) }),
		{View: 1}, {Term: 1}, {Body: "x"}, {View: -1}, change(func(s *api.Slot) { s.Has = false }),
		change(func(s *api.Slot) { s.Prepares = []api.Vote{vote(2, 0, 0), vote(2, 1, 0)} }),
		change(func(s *api.Slot) { s.Prepares = []api.Vote{vote(2, 0, 0), vote(1, 0, 0)} }),
		change(func(s *api.Slot) { s.Commits = []api.Vote{vote(2, 0, 0), vote(3, 0, 0), vote(3, 0, 0)} }),
	}
	for _, v := range wrongVotes {
		l = append(l, change(func(s *api.Slot) { s.Prepares = []api.Vote{v} }), change(func(s *api.Slot) { s.Commits = []api.Vote{vote(0, 0, 0), v} }))
	}
	return l
}

// right are valid slots at the limits.
func right() []api.Slot {
	return []api.Slot{
		{}, some(), {Has: true}, {Has: true, View: last, Term: last, Body: strings.Repeat("x", 65536), Prepares: votes(last, last, 0, 63)},
		{Prepares: votes(3, 4, 1, 2), Commits: votes(9, 9, 5)},
	}
}

// P29.1
func TestMay(t *testing.T) {
	for i, s := range right() {
		if !slot.May(s) {
			t.Errorf("slot %d is not valid", i)
		}
	}
	for i, w := range wrong() {
		if slot.May(w) {
			t.Errorf("wrong slot %d is valid", i)
		}
		if s, e := slot.Propose(w, 9, 9, "x"); !same(s, api.Slot{}) || e != api.ErrArg {
			t.Errorf("Propose in wrong slot %d = %v, %d", i, s, e)
		}
		if s, e := slot.Prepare(w, vote(5, 9, 9)); !same(s, api.Slot{}) || e != api.ErrArg {
			t.Errorf("Prepare in wrong slot %d = %v, %d", i, s, e)
		}
		if s, e := slot.Commit(w, vote(5, 9, 9)); !same(s, api.Slot{}) || e != api.ErrArg {
			t.Errorf("Commit in wrong slot %d = %v, %d", i, s, e)
		}
	}
	good := api.Slot{Has: true, Prepares: votes(0, 0, 1, 2, 3), Commits: votes(0, 0, 0, 1, 2)}
	bad := good
	bad.Commits = append(slices.Clone(good.Commits), vote(2, 0, 0))
	if !slot.Committed(good, 4) || slot.Prepared(bad, 4) || slot.Committed(bad, 4) || len(slot.Voices(bad, 1, 4)) != 0 {
		t.Error("a slot that is not valid is prepared or committed")
	}
}

// P29.2
func TestPropose(t *testing.T) {
	long := strings.Repeat("x", 65536)
	for _, x := range []struct {
		s          api.Slot
		view, term int
		body       string
		e          api.Errno
	}{
		{api.Slot{}, 0, 7, "b", api.OK}, {api.Slot{}, 0, 0, "", api.OK}, {api.Slot{}, last, last, long, api.OK}, {api.Slot{Prepares: votes(3, 4, 1)}, 2, 2, "x", api.OK},
		{some(), 6, 1, "c", api.OK}, {some(), 6, 7, "b", api.OK},
		{some(), 4, 7, "b", api.ErrOld}, {some(), 0, 0, "", api.ErrOld}, {some(), 5, 7, "b", api.ErrThere}, {some(), 5, 8, "b", api.ErrTwice}, {some(), 5, 7, "c", api.ErrTwice}, {some(), 5, 8, "c", api.ErrTwice},
		{api.Slot{Has: true}, 0, 0, "", api.ErrThere},
		{some(), -1, 7, "b", api.ErrArg}, {some(), last + 1, 7, "b", api.ErrArg}, {some(), 6, -1, "b", api.ErrArg}, {some(), 6, last + 1, "b", api.ErrArg}, {some(), 6, 7, long + "x", api.ErrArg}, {api.Slot{}, math.MinInt, math.MaxInt, "", api.ErrArg},
	} {
		want := api.Slot{}
		if x.e == api.OK {
			want = api.Slot{Has: true, View: x.view, Term: x.term, Body: x.body, Prepares: x.s.Prepares, Commits: x.s.Commits}
		}
		if s, e := slot.Propose(x.s, x.view, x.term, x.body); !same(s, want) || e != x.e {
			t.Errorf("Propose(%d, %d, %.9q) = %v, %d, want error %d", x.view, x.term, x.body, s, e, x.e)
		}
	}
}

// R3: a result is new memory.
func TestProposeCopies(t *testing.T) {
	s := some()
	got, _ := slot.Propose(s, 6, 1, "c")
	clear(got.Prepares)
	clear(got.Commits)
	if !same(s, some()) {
		t.Error("Propose shares its argument")
	}
}

// lists are the two lists of a slot, and what puts a vote there.
var lists = map[string]struct {
	cast func(api.Slot, api.Vote) (api.Slot, api.Errno)
	of   func(*api.Slot) *[]api.Vote
}{
	"Prepare": {slot.Prepare, func(s *api.Slot) *[]api.Vote { return &s.Prepares }},
	"Commit":  {slot.Commit, func(s *api.Slot) *[]api.Vote { return &s.Commits }},
}

// P29.3
func TestVotes(t *testing.T) {
	for name, x := range lists {
		was := []api.Vote{vote(1, 5, 7), vote(3, 2, 2), vote(9, 6, 1)}
		for _, y := range []struct {
			v    api.Vote
			at   int
			here bool
			e    api.Errno
		}{
			{vote(0, 0, 0), 0, false, api.OK}, {vote(2, 5, 7), 1, false, api.OK}, {vote(5, last, last), 2, false, api.OK}, {vote(63, 1, 1), 3, false, api.OK},
			{vote(3, 3, 2), 1, true, api.OK}, {vote(3, 3, 9), 1, true, api.OK}, {vote(1, last, 0), 0, true, api.OK}, {vote(9, 7, 1), 2, true, api.OK},
			{vote(1, 4, 7), 0, true, api.ErrOld}, {vote(9, 0, 0), 0, true, api.ErrOld}, {vote(1, 5, 7), 0, true, api.ErrThere}, {vote(3, 2, 2), 0, true, api.ErrThere}, {vote(1, 5, 8), 0, true, api.ErrTwice}, {vote(3, 2, 0), 0, true, api.ErrTwice},
		} {
			s := some()
			*x.of(&s) = slices.Clone(was)
			want := api.Slot{}
			if y.e == api.OK {
				want = some()
				l := slices.Clone(was)
				if y.here {
					l[y.at] = y.v
				} else {
					l = slices.Insert(l, y.at, y.v)
				}
				*x.of(&want) = l
			}
			got, e := x.cast(s, y.v)
			if !same(got, want) || e != y.e {
				t.Errorf("%s(%v) = %v, %d, want %v, %d", name, y.v, got, e, want, y.e)
			}
			clear(got.Prepares)
			clear(got.Commits)
			before := some()
			*x.of(&before) = was
			if !same(s, before) {
				t.Errorf("%s(%v) has changed its argument, or shares it", name, y.v)
			}
		}
		for _, v := range wrongVotes {
			if got, e := x.cast(api.Slot{}, v); !same(got, api.Slot{}) || e != api.ErrArg {
				t.Errorf("%s(%v) = %v, %d", name, v, got, e)
			}
		}
		if got, e := x.cast(api.Slot{}, vote(4, 3, 2)); e != api.OK || got.Has || len(*x.of(&got)) != 1 || len(got.Prepares)+len(got.Commits) != 1 {
			t.Errorf("%s in the empty slot = %v, %d", name, got, e)
		}
	}
}

// prepared returns a slot of view 5 and term 7 with these votes.
func with(prepares, commits []api.Vote) api.Slot {
	return api.Slot{Has: true, View: 5, Term: 7, Body: "b", Prepares: prepares, Commits: commits}
}

// P29.4
func TestPrepared(t *testing.T) {
	for _, x := range []struct {
		what string
		s    api.Slot
		n    int
		is   bool
	}{
		{"two others", with(votes(5, 7, 0, 2), nil), 4, true},
		{"three others", with(votes(5, 7, 0, 2, 3), nil), 4, true},
		{"one other", with(votes(5, 7, 0), nil), 4, false},
		{"nobody", with(nil, nil), 4, false},
		{"the primary and one other", with(votes(5, 7, 0, 1), nil), 4, false},
		{"the primary and two others", with(votes(5, 7, 0, 1, 3), nil), 4, true},
		{"another view", with([]api.Vote{vote(0, 5, 7), vote(2, 4, 7), vote(3, 6, 7)}, nil), 4, false},
		{"another term", with([]api.Vote{vote(0, 5, 7), vote(2, 5, 8), vote(3, 5, 6)}, nil), 4, false},
		{"no replicas", with(votes(5, 7, 0, 4, 5, 63), nil), 4, false},
		{"no proposal", api.Slot{Prepares: votes(0, 0, 1, 2, 3)}, 4, false},
		{"a proposal without anything", api.Slot{Has: true, Prepares: votes(0, 0, 1, 2)}, 4, true},
		{"four of seven", with(votes(5, 7, 0, 2, 4, 6), nil), 7, true},
		{"three of seven", with(votes(5, 7, 0, 2, 4), nil), 7, false},
		{"the primary of seven", with(votes(5, 7, 0, 2, 4, 5), nil), 7, false},
		{"ten of sixteen", with(votes(5, 7, 0, 1, 2, 3, 4, 6, 7, 8, 9, 15), nil), 16, true},
		{"nine of sixteen", with(votes(5, 7, 0, 1, 2, 3, 4, 6, 7, 8, 9), nil), 16, false},
	} {
		if slot.Prepared(x.s, x.n) != x.is {
			t.Errorf("%s: Prepared = %v", x.what, !x.is)
		}
		if slot.Committed(x.s, x.n) {
			t.Errorf("%s: Committed", x.what)
		}
	}
	all := with(votes(5, 7, 0, 1, 2, 3, 4, 5, 6, 7, 8, 9, 10, 11, 12, 13, 14, 15), votes(5, 7, 0, 1, 2, 3, 4, 5, 6, 7, 8, 9, 10, 11, 12, 13, 14, 15))
	for _, n := range []int{math.MinInt, -4, 0, 1, 2, 3, 5, 6, 8, 15, 17, 19, math.MaxInt} {
		if slot.Prepared(all, n) || slot.Committed(all, n) || len(slot.Voices(all, 1, n)) != 0 {
			t.Errorf("prepared for %d replicas", n)
		}
	}
}

// P29.4
func TestCommitted(t *testing.T) {
	two := votes(5, 7, 0, 2)
	for _, x := range []struct {
		what string
		s    api.Slot
		n    int
		is   bool
	}{
		{"three", with(two, votes(5, 7, 0, 2, 3)), 4, true},
		{"the primary and two", with(two, votes(5, 7, 0, 1, 2)), 4, true},
		{"two", with(two, votes(5, 7, 0, 1)), 4, false},
		{"not prepared", with(votes(5, 7, 0), votes(5, 7, 0, 1, 2, 3)), 4, false},
		{"another view", with(two, []api.Vote{vote(0, 5, 7), vote(1, 5, 7), vote(2, 4, 7), vote(3, 6, 7)}), 4, false},
		{"another term", with(two, []api.Vote{vote(0, 5, 7), vote(1, 5, 7), vote(2, 5, 8)}), 4, false},
		{"no replicas", with(two, votes(5, 7, 0, 1, 4, 5)), 4, false},
		{"no proposal", api.Slot{Prepares: votes(0, 0, 1, 2, 3), Commits: votes(0, 0, 0, 1, 2, 3)}, 4, false},
		{"five of seven", with(votes(5, 7, 0, 1, 2, 3), votes(5, 7, 1, 3, 4, 5, 6)), 7, true},
		{"four of seven", with(votes(5, 7, 0, 1, 2, 3), votes(5, 7, 3, 4, 5, 6)), 7, false},
	} {
		if slot.Committed(x.s, x.n) != x.is {
			t.Errorf("%s: Committed = %v", x.what, !x.is)
		}
	}
}

// P29.4
func TestVoices(t *testing.T) {
	voice := func(from, kind, view int) api.Stmt {
		return api.Stmt{From: from, Kind: kind, View: view, Seq: 11, Term: 7}
	}
	all := votes(5, 7, 0, 1, 2, 3, 4, 5, 6, 7, 63)
	for _, x := range []struct {
		what string
		s    api.Slot
		n    int
		want []api.Stmt
	}{
		{"the primary is first by its number", api.Slot{Has: true, Term: 7, Prepares: votes(0, 7, 1, 2)}, 4, []api.Stmt{voice(0, 2, 0), voice(1, 3, 0), voice(2, 3, 0)}},
		{"the primary is in the middle", with([]api.Vote{vote(0, 5, 7), vote(2, 4, 7), vote(3, 5, 7)}, votes(5, 7, 2)), 4, []api.Stmt{voice(1, 2, 5), voice(0, 3, 5), voice(3, 3, 5)}},
		{"the primary is last by its number", api.Slot{Has: true, View: 7, Term: 7, Prepares: votes(7, 7, 0, 1, 2)}, 4, []api.Stmt{voice(3, 2, 7), voice(0, 3, 7), voice(1, 3, 7), voice(2, 3, 7)}},
		{"the primary and others vote that do not count", with(all, nil), 4, []api.Stmt{voice(1, 2, 5), voice(0, 3, 5), voice(2, 3, 5), voice(3, 3, 5)}},
		{"of seven", with(all, nil), 7, []api.Stmt{voice(5, 2, 5), voice(0, 3, 5), voice(1, 3, 5), voice(2, 3, 5), voice(3, 3, 5), voice(4, 3, 5), voice(6, 3, 5)}},
		{"another term", with([]api.Vote{vote(0, 5, 7), vote(2, 5, 8), vote(3, 6, 7)}, nil), 4, nil},
		{"no proposal", api.Slot{Prepares: votes(0, 0, 1, 2, 3)}, 4, nil},
	} {
		if l := slot.Voices(x.s, 11, x.n); !slices.Equal(l, x.want) {
			t.Errorf("%s: Voices = %v, want %v", x.what, l, x.want)
		}
	}
	for _, seq := range []int{math.MinInt, -1, 0, math.MaxInt} {
		l := slot.Voices(with(all, nil), seq, 4)
		if len(l) != 4 || slices.ContainsFunc(l, func(x api.Stmt) bool { return x.Seq != seq }) {
			t.Errorf("Voices at %d = %v", seq, l)
		}
	}
}

// P29.5: two slots of one view with different terms that are both prepared have preparers in common, and committers too.
func TestCommon(t *testing.T) {
	var prepared, committed [2][][]int
	for set := range 16 {
		var who []int
		for p := range 4 {
			if set>>p&1 == 1 {
				who = append(who, p)
			}
		}
		for i, term := range []int{7, 8} {
			s := api.Slot{Has: true, View: 5, Term: term, Prepares: votes(5, term, who...)}
			if slot.Prepared(s, 4) {
				prepared[i] = append(prepared[i], who)
			}
			s.Prepares, s.Commits = votes(5, term, 0, 2), votes(5, term, who...)
			if slot.Committed(s, 4) {
				committed[i] = append(committed[i], who)
			}
		}
	}
	common := func(a, b []int) int {
		n := 0
		for _, p := range a {
			if slices.Contains(b, p) {
				n++
			}
		}
		return n
	}
	for _, a := range prepared[0] {
		for _, b := range prepared[1] {
			if common(a, b) < 1 {
				t.Errorf("%v and %v prepared", a, b)
			}
		}
	}
	for _, a := range committed[0] {
		for _, b := range committed[1] {
			if common(a, b) < 2 {
				t.Errorf("%v and %v committed", a, b)
			}
		}
	}
	if len(prepared[0]) == 0 || len(committed[0]) == 0 {
		t.Error("nothing was prepared or committed")
	}
}
