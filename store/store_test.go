package store_test

import (
	"fmt"
	"math"
	"slices"
	"strings"
	"testing"

	"plenum/api"
	"plenum/store"
	"plenum/trunk"
)

func num(n int64) api.Value { return api.Value{Kind: 2, I: n} }

func text(s string) api.Value { return api.Value{Kind: 3, S: s} }

func put(k string, n int64) api.Edit { return api.Edit{Key: k, Val: num(n)} }

func del(k string) api.Edit { return api.Edit{Key: k} }

// made returns a new store after lists of edits.
func made(t *testing.T, bytes, keys int, lists ...[]api.Edit) api.Store {
	t.Helper()
	s, e := store.New(bytes, keys)
	if e != api.OK {
		t.Fatalf("New(%d, %d): %d", bytes, keys, e)
	}
	for i, l := range lists {
		if s, e, _ = store.Take(s, l); e != api.OK {
			t.Fatalf("Take %d: %d", i, e)
		}
	}
	return s
}

// equal compares field by field, valid or not.
func equal(a, b api.Store) bool {
	for i := range a.T.Leaves {
		if !slices.Equal(a.T.Leaves[i], b.T.Leaves[i]) {
			return false
		}
	}
	return a.T.Vers == b.T.Vers && a.Ver == b.Ver && a.Bytes == b.Bytes && a.Keys == b.Keys
}

// some returns a store with a 1, b "xy" and q 3 at versions 1, 2 and 1; its Ver is 3.
func some(t *testing.T) api.Store {
	t.Helper()
	return made(t, 12, 3, []api.Edit{put("a", 1), put("q", 3), put("b", 2)}, []api.Edit{{Key: "b", Val: text("xy")}}, nil)
}

// change returns s after f has changed it.
func change(s api.Store, f func(*api.Store)) api.Store {
	f(&s)
	return s
}

// wrong returns stores that are not valid.
func wrong(t *testing.T) []api.Store {
	s := some(t)
	return []api.Store{
		change(s, func(s *api.Store) { s.Ver = -1 }),
		change(s, func(s *api.Store) { s.Ver = 1 }),
		change(s, func(s *api.Store) { s.Ver = api.MaxVer + 1 }),
		change(s, func(s *api.Store) { s.Ver = math.MaxInt }),
		change(s, func(s *api.Store) { s.T.Vers[7] = 4 }),
		change(s, func(s *api.Store) { s.T.Vers[1] = 0 }),
		change(s, func(s *api.Store) { s.T.Vers[1] = -1 }),
		change(s, func(s *api.Store) { s.T.Leaves[3] = s.T.Leaves[1] }),
		change(s, func(s *api.Store) { s.Bytes = 10 }),
		change(s, func(s *api.Store) { s.Bytes = -1 }),
		change(s, func(s *api.Store) { s.Bytes = api.MaxQuota + 1 }),
		change(s, func(s *api.Store) { s.Keys = 2 }),
		change(s, func(s *api.Store) { s.Keys = -1 }),
		change(s, func(s *api.Store) { s.Keys = api.MaxKeys + 1 }),
		{Bytes: -1},
		{Keys: -1},
		{Ver: -1},
		{Bytes: math.MinInt},
		{Bytes: math.MaxInt},
	}
}

// P13.1
func TestNew(t *testing.T) {
	for _, x := range [][2]int{{0, 0}, {10, 2}, {api.MaxQuota, api.MaxKeys}, {0, 5}, {5, 0}} {
		s, e := store.New(x[0], x[1])
		if e != api.OK || !equal(s, api.Store{Bytes: x[0], Keys: x[1]}) {
			t.Errorf("New(%d, %d) = %v, %d", x[0], x[1], s, e)
		}
		if b, k := store.Room(s); b != x[0] || k != x[1] {
			t.Errorf("Room of New(%d, %d) = %d, %d", x[0], x[1], b, k)
		}
	}
	for _, x := range [][2]int{{-1, 0}, {0, -1}, {api.MaxQuota + 1, 1}, {1, api.MaxKeys + 1}, {math.MaxInt, 1}, {1, math.MinInt}} {
		if s, e := store.New(x[0], x[1]); e != api.ErrArg || !equal(s, api.Store{}) {
			t.Errorf("New(%d, %d) = %v, %d", x[0], x[1], s, e)
		}
	}
}

// P13.1
func TestMay(t *testing.T) {
	s := some(t)
	good := []api.Store{
		{}, s,
		change(s, func(s *api.Store) { s.Ver = 2 }),
		change(s, func(s *api.Store) { s.Ver = api.MaxVer }),
		change(s, func(s *api.Store) { s.T.Vers[7] = 3 }),
		change(s, func(s *api.Store) { s.Bytes = 11 }),
		change(s, func(s *api.Store) { s.Bytes, s.Keys = api.MaxQuota, api.MaxKeys }),
	}
	for _, x := range good {
		if !store.May(x) {
			t.Errorf("May(%v) is false", x)
		}
	}
	for _, x := range wrong(t) {
		if store.May(x) {
			t.Errorf("May(%v) is true", x)
		}
	}
}

// P13.1 to P13.5: what is not valid is refused by all.
func TestWrong(t *testing.T) {
	ok := some(t)
	for _, w := range wrong(t) {
		if b, k := store.Room(w); b != 0 || k != 0 {
			t.Errorf("Room of %v = %d, %d", w, b, k)
		}
		for _, k := range []string{"a", "none", "A"} {
			if v, ver, e := store.Get(w, k); v != (api.Value{}) || ver != 0 || e != api.ErrArg {
				t.Errorf("Get(%q) of %v = %v, %d, %d", k, w, v, ver, e)
			}
		}
		for _, from := range []string{"", "A"} {
			if l, e := store.Scan(w, from, "", 9); len(l) != 0 || e != api.ErrArg {
				t.Errorf("Scan of %v = %v, %d", w, l, e)
			}
		}
		for _, l := range [][]api.Edit{nil, {put("a", 1)}, {put("a", 1), put("A", 1)}} {
			if s, e, at := store.Take(w, l); !equal(s, api.Store{}) || e != api.ErrArg || at != 0 {
				t.Errorf("Take in %v = %v, %d, %d", w, s, e, at)
			}
		}
		for _, x := range [][2]api.Store{{w, ok}, {ok, w}, {w, w}} {
			if l, e := store.Undo(x[0], x[1]); len(l) != 0 || e != api.ErrArg {
				t.Errorf("Undo = %v, %d", l, e)
			}
			if store.Same(x[0], x[1]) {
				t.Errorf("Same(%v, %v)", x[0], x[1])
			}
		}
	}
}

// P13.2
func TestGetScan(t *testing.T) {
	s := some(t)
	for k, want := range map[string]api.Item{"a": {Val: num(1), Ver: 1}, "b": {Val: text("xy"), Ver: 2}, "q": {Val: num(3), Ver: 1}} {
		if v, ver, e := store.Get(s, k); v != want.Val || ver != want.Ver || e != api.OK {
			t.Errorf("Get(%q) = %v, %d, %d", k, v, ver, e)
		}
	}
	for k, want := range map[string]api.Errno{"": api.ErrForm, "A": api.ErrForm, strings.Repeat("a", 25): api.ErrForm, "c": api.ErrNone, "aa": api.ErrNone} {
		if v, ver, e := store.Get(s, k); v != (api.Value{}) || ver != 0 || e != want {
			t.Errorf("Get(%q) = %v, %d, %d, want error %d", k, v, ver, e, want)
		}
	}
	all := []api.Item{{Key: "a", Val: num(1), Ver: 1}, {Key: "b", Val: text("xy"), Ver: 2}, {Key: "q", Val: num(3), Ver: 1}}
	for _, x := range []struct {
		from, to string
		most     int
		want     []api.Item
	}{{"", "", 9, all}, {"", "", 2, all[:2]}, {"b", "", 9, all[1:]}, {"", "b", 9, all[:1]}, {"", "", 0, nil}, {"c", "d", 9, nil}} {
		if l, e := store.Scan(s, x.from, x.to, x.most); !slices.Equal(l, x.want) || e != api.OK {
			t.Errorf("Scan(%q, %q, %d) = %v, %d", x.from, x.to, x.most, l, e)
		}
	}
	for _, x := range [][2]string{{"A", ""}, {"", "A"}} {
		if l, e := store.Scan(s, x[0], x[1], 9); len(l) != 0 || e != api.ErrForm {
			t.Errorf("Scan(%q, %q) = %v, %d", x[0], x[1], l, e)
		}
	}
}

// P13.3
func TestTake(t *testing.T) {
	s := made(t, 10, 2, []api.Edit{put("a", 1), put("b", 2)})
	if s.Ver != 1 || s.T.Vers != [16]int{1: 1, 2: 1} {
		t.Errorf("after the first edits: %v", s)
	}
	if b, k := store.Room(s); b != 4 || k != 0 {
		t.Errorf("Room = %d, %d", b, k)
	}
	was := s
	if out, e, at := store.Take(s, []api.Edit{put("c", 3)}); !equal(out, api.Store{}) || e != api.ErrQuota || at != 1 {
		t.Errorf("Take of a third key = %v, %d, %d", out, e, at)
	}
	two, e, at := store.Take(s, []api.Edit{del("a"), put("c", 3)})
	if e != api.OK || at != 0 || two.Ver != 2 || two.T.Vers != [16]int{1: 2, 2: 1, 3: 2} {
		t.Errorf("Take of two edits = %v, %d, %d", two, e, at)
	}
	if _, _, e := store.Get(two, "a"); e != api.ErrNone {
		t.Errorf("Get of what was deleted: %d", e)
	}
	if v, ver, e := store.Get(two, "c"); v != num(3) || ver != 2 || e != api.OK {
		t.Errorf("Get of what was put = %v, %d, %d", v, ver, e)
	}
	for _, l := range [][]api.Edit{nil, {del("z")}, {del("z"), del("c"), del("z")}} {
		three, e, at := store.Take(s, l)
		want := s
		want.Ver = 2
		if e != api.OK || at != 0 || !equal(three, want) {
			t.Errorf("Take(%v) = %v, %d, %d", l, three, e, at)
		}
	}
	if !equal(s, was) {
		t.Error("Take has changed its argument")
	}
}

// P13.3: edits are applied in order.
func TestTakeInOrder(t *testing.T) {
	s := made(t, 10, 2, []api.Edit{put("a", 1)})
	out, e, _ := store.Take(s, []api.Edit{put("a", 2), put("b", 1), del("a"), put("a", 5), put("b", 2), del("b")})
	if e != api.OK || !equal(out, change(s, func(s *api.Store) {
		s.Ver = 2
		s.T.Leaves[1], s.T.Vers[1], s.T.Vers[2] = []api.Item{{Key: "a", Val: num(5), Ver: 2}}, 2, 2
	})) {
		t.Errorf("Take = %v, %d", out, e)
	}
}

// P13.3: the quotas count only after all edits.
func TestQuota(t *testing.T) {
	s := made(t, 6, 2, []api.Edit{put("a", 1), put("b", 2)})
	if out, e, at := store.Take(s, []api.Edit{put("c", 1), put("d", 1), del("a"), del("b")}); e != api.OK || at != 0 || out.Ver != 2 {
		t.Errorf("above the quotas on the way: %d, %d", e, at)
	}
	for _, l := range [][]api.Edit{{{Key: "a", Val: num(64)}}, {put("ab", 1), del("b")}, {del("a"), del("b"), put("abcde", 1)}, {del("a"), del("a"), {Key: "b", Val: text("abcd")}}} {
		if out, e, at := store.Take(s, l); e != api.ErrQuota || at != len(l) || !equal(out, api.Store{}) {
			t.Errorf("Take(%v) = %v, %d, %d", l, out, e, at)
		}
	}
	if _, e, _ := store.Take(s, []api.Edit{del("a"), {Key: "b", Val: text("abc")}}); e != api.OK {
		t.Errorf("just all bytes: %d", e)
	}
	if _, e, at := store.Take(made(t, 0, 0), []api.Edit{put("a", 1)}); e != api.ErrQuota || at != 1 {
		t.Errorf("no quota: %d, %d", e, at)
	}
	if _, e, at := store.Take(made(t, 99, 1), []api.Edit{put("a", 1), put("b", 1)}); e != api.ErrQuota || at != 2 {
		t.Errorf("one key: %d, %d", e, at)
	}
}

// P13.3
func TestTakeErrors(t *testing.T) {
	s := some(t)
	invalid := []api.Edit{{}, {Key: "A", Val: num(1)}, {Key: "", Val: num(1)}, {Key: strings.Repeat("a", 25)}, {Key: "a", Val: api.Value{Kind: 4}}, {Key: "a", Val: api.Value{I: 1}}, {Key: "a", Val: text(strings.Repeat("x", 65))}}
	for _, x := range invalid {
		for i, l := range [][]api.Edit{{x}, {put("a", 1), x}, {del("a"), del("b"), x, {}}} {
			if out, e, at := store.Take(s, l); e != api.ErrArg || at != i || !equal(out, api.Store{}) {
				t.Errorf("Take(%v) = %v, %d, %d", l, out, e, at)
			}
		}
	}
	var l []api.Edit
	for i := range 64 {
		l = append(l, put(fmt.Sprintf("a%02d", i), 1))
	}
	big := made(t, api.MaxQuota, api.MaxKeys, l)
	for _, x := range []struct {
		l  []api.Edit
		e  api.Errno
		at int
	}{
		{[]api.Edit{put("q", 1)}, api.ErrFull, 0},
		{[]api.Edit{put("b", 1), put("q", 1)}, api.ErrFull, 1},
		{[]api.Edit{put("q", 1), del("a00")}, api.ErrFull, 0},
		{[]api.Edit{put("b", 1), put("q", 1), {}}, api.ErrArg, 2},
	} {
		if out, e, at := store.Take(big, x.l); e != x.e || at != x.at || !equal(out, api.Store{}) {
			t.Errorf("Take(%v) = %v, %d, %d, want %d, %d", x.l, out, e, at, x.e, x.at)
		}
	}
	if _, e, _ := store.Take(big, []api.Edit{del("a00"), put("q", 1), put("a01", 7)}); e != api.OK {
		t.Errorf("Take in a full leaf: %d", e)
	}
	full := change(big, func(s *api.Store) { s.Bytes, s.Keys = trunk.Weight(s.T), 64 })
	if _, e, at := store.Take(full, []api.Edit{put("b", 1), put("q", 1)}); e != api.ErrFull || at != 1 {
		t.Errorf("a full leaf and no room: %d, %d", e, at)
	}
	for _, l := range [][]api.Edit{nil, {put("a", 1)}, {put("a", 1), {}}} {
		if out, e, at := store.Take(change(s, func(s *api.Store) { s.Ver = api.MaxVer }), l); e != api.ErrArg || at != 0 || !equal(out, api.Store{}) {
			t.Errorf("Take at the last version = %v, %d, %d", out, e, at)
		}
	}
	if out, e, _ := store.Take(change(s, func(s *api.Store) { s.Ver = api.MaxVer - 1 }), []api.Edit{put("a", 1)}); e != api.OK || out.Ver != api.MaxVer {
		t.Errorf("Take to the last version: %d, %d", e, out.Ver)
	}
}

// P13.4, P13.6
func TestUndo(t *testing.T) {
	one := made(t, 99, 9, []api.Edit{put("a", 1), put("b", 2)})
	two := made(t, 99, 9, []api.Edit{put("a", 1), put("b", 2)}, []api.Edit{del("a"), put("c", 3)})
	for _, x := range []struct {
		was, now api.Store
		want     []api.Edit
	}{
		{one, two, []api.Edit{put("a", 1), del("c")}},
		{two, one, []api.Edit{del("a"), put("c", 3)}},
		{one, one, nil},
		{api.Store{}, two, []api.Edit{del("b"), del("c")}},
		{two, api.Store{}, []api.Edit{put("b", 2), put("c", 3)}},
		{one, made(t, 99, 9, []api.Edit{put("b", 5), put("q", 1), put("a", 1), put("/", 1)}), []api.Edit{del("/"), put("b", 2), del("q")}},
		{made(t, 99, 9, []api.Edit{put("a", 1)}), made(t, 99, 9, []api.Edit{put("b", 1)}), []api.Edit{put("a", 1), del("b")}},
		{made(t, 99, 9, []api.Edit{put("b", 1)}), made(t, 99, 9, []api.Edit{put("a", 1)}), []api.Edit{del("a"), put("b", 1)}},
		{one, made(t, 50, 8, nil, []api.Edit{put("a", 1), put("b", 2)}), nil},
	} {
		l, e := store.Undo(x.was, x.now)
		if !slices.Equal(l, x.want) || e != api.OK {
			t.Errorf("Undo = %v, %d, want %v", l, e, x.want)
		}
		x.now.Bytes, x.now.Keys = 99, 9
		back, e, _ := store.Take(x.now, l)
		if e != api.OK {
			t.Errorf("the edits of Undo: %d", e)
		}
		if l, _ := store.Undo(x.was, back); len(l) != 0 {
			t.Errorf("after the edits of Undo there is %v to undo", l)
		}
	}
}

// P13.5
func TestSame(t *testing.T) {
	s := some(t)
	if !store.Same(s, some(t)) || !store.Same(api.Store{}, api.Store{}) {
		t.Error("Same of the same")
	}
	for i, o := range []api.Store{
		change(s, func(s *api.Store) { s.Ver++ }),
		change(s, func(s *api.Store) { s.Bytes++ }),
		change(s, func(s *api.Store) { s.Keys++ }),
		change(s, func(s *api.Store) { s.T.Vers[7] = 1 }),
		change(s, func(s *api.Store) { s.T.Leaves[1] = nil }),
		{},
	} {
		if store.Same(s, o) || store.Same(o, s) {
			t.Errorf("Same of number %d", i)
		}
	}
}
