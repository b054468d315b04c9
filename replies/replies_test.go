package replies_test

import (
	"math"
	"slices"
	"strings"
	"testing"

	"plenum/api"
	"plenum/replies"
	"plenum/txn"
)

const lastTime = 1<<31 - 1

// result returns a result that n tells from others.
func result(n int64) api.Result {
	return api.Result{Code: api.Errno(n % 24), Val: api.Value{Kind: 2, I: n}, Ver: int(n)}
}

// last returns an entry whose result is made from its numbers.
func last(client, time int) api.Last {
	return api.Last{Client: client, Time: time, R: result(int64(client + time%1000))}
}

// some is a table with the clients 0, 3, 7 and 255.
func some() []api.Last { return []api.Last{last(0, 1), last(3, 5), last(7, lastTime), last(255, 2)} }

// outside are clients and times out of range.
var outside = [][2]int{{-1, 5}, {256, 5}, {math.MaxInt, 5}, {math.MinInt, 5}, {3, 0}, {3, -1}, {3, 1 << 31}, {3, math.MaxInt}, {3, math.MinInt}, {9, 0}}

var badResults = []api.Result{{Code: 24}, {Code: -1}, {Val: api.Value{Kind: 4}}, {Ver: -1}, {Ver: 1 << 31}}

type fault struct {
	l  []api.Last
	e  api.Errno
	at int
}

func faulty() []fault {
	l := []fault{
		{[]api.Last{last(3, 5), last(3, 6)}, api.ErrForm, 1},
		{[]api.Last{last(3, 5), last(2, 5)}, api.ErrForm, 1},
		{[]api.Last{last(1, 5), last(3, 5), last(2, 5), {Client: -1}}, api.ErrForm, 2},
		{[]api.Last{last(5, 5), {Client: 3, Time: 0}}, api.ErrArg, 1},
	}
	for _, x := range outside {
		bad := api.Last{Client: x[0], Time: x[1]}
		l = append(l, fault{[]api.Last{bad}, api.ErrArg, 0}, fault{[]api.Last{last(0, 1), last(1, 1), bad}, api.ErrArg, 2})
	}
	for _, r := range badResults {
		l = append(l, fault{[]api.Last{last(0, 1), {Client: 1, Time: 1, R: r}, last(0, 1)}, api.ErrArg, 1})
	}
	return l
}

// P26.1
func TestCheck(t *testing.T) {
	every := []api.Last(nil)
	for c := range 256 {
		every = append(every, last(c, 1+c))
	}
	for _, l := range [][]api.Last{nil, some(), every} {
		if e, at := replies.Check(l); e != api.OK || at != 0 {
			t.Errorf("Check of %d entries = %d, %d", len(l), e, at)
		}
	}
	for _, x := range faulty() {
		if e, at := replies.Check(x.l); e != x.e || at != x.at {
			t.Errorf("Check(%v) = %d, %d, want %d, %d", x.l, e, at, x.e, x.at)
		}
	}
}

// P26.1 to P26.4: what a table that is not valid is good for.
func TestFaulty(t *testing.T) {
	one := []api.Txn{{Client: 9, Time: 9}}
	for _, x := range faulty() {
		if r, e := replies.Ask(x.l, 9, 9); r != (api.Result{}) || e != api.ErrArg {
			t.Errorf("Ask in %v = %v, %d", x.l, r, e)
		}
		if l, e := replies.Note(x.l, 9, 9, result(1)); len(l) != 0 || e != api.ErrArg {
			t.Errorf("Note in %v = %v, %d", x.l, l, e)
		}
		if l, at := replies.Fresh(x.l, one); len(l) != 0 || len(at) != 0 {
			t.Errorf("Fresh of %v = %v, %v", x.l, l, at)
		}
		for _, b := range [][]api.Txn{nil, one} {
			if l, e := replies.All(x.l, b, make([]api.Result, len(b))); len(l) != 0 || e != api.ErrArg {
				t.Errorf("All in %v = %v, %d", x.l, l, e)
			}
		}
		if b := replies.Encode(x.l); len(b) != 0 {
			t.Errorf("Encode(%v) = %q", x.l, b)
		}
	}
}

// P26.2
func TestAsk(t *testing.T) {
	for _, x := range []struct {
		client, time int
		e            api.Errno
	}{
		{0, 1, api.OK}, {0, 2, api.ErrNone}, {3, 5, api.OK}, {3, 4, api.ErrOld}, {3, 1, api.ErrOld}, {3, 6, api.ErrNone}, {3, lastTime, api.ErrNone}, {7, lastTime, api.OK}, {7, lastTime - 1, api.ErrOld},
		{255, 2, api.OK}, {255, 1, api.ErrOld}, {255, 3, api.ErrNone}, {1, 1, api.ErrNone}, {4, 5, api.ErrNone}, {254, 2, api.ErrNone},
	} {
		want := api.Result{}
		if x.e == api.OK {
			want = last(x.client, x.time).R
		}
		if r, e := replies.Ask(some(), x.client, x.time); r != want || e != x.e {
			t.Errorf("Ask(%d, %d) = %v, %d, want %v, %d", x.client, x.time, r, e, want, x.e)
		}
	}
	for _, x := range outside {
		if r, e := replies.Ask(some(), x[0], x[1]); r != (api.Result{}) || e != api.ErrArg {
			t.Errorf("Ask(%d, %d) = %v, %d", x[0], x[1], r, e)
		}
	}
}

// P26.2, P26.5
func TestNote(t *testing.T) {
	for _, x := range []struct {
		client, time, at int
		there            bool
	}{{1, 1, 1, false}, {4, lastTime, 2, false}, {254, 9, 3, false}, {0, 2, 0, true}, {3, 6, 1, true}, {3, lastTime, 1, true}, {255, 3, 3, true}} {
		l := some()
		want := some()
		if x.there {
			want[x.at] = last(x.client, x.time)
		} else {
			want = slices.Insert(want, x.at, last(x.client, x.time))
		}
		got, e := replies.Note(l, x.client, x.time, last(x.client, x.time).R)
		if !slices.Equal(got, want) || e != api.OK {
			t.Errorf("Note(%d, %d) = %v, %d", x.client, x.time, got, e)
		}
		if r, e := replies.Ask(got, x.client, x.time); r != last(x.client, x.time).R || e != api.OK {
			t.Errorf("Ask after Note(%d, %d) = %v, %d", x.client, x.time, r, e)
		}
		clear(got)
		if !slices.Equal(l, some()) {
			t.Errorf("Note(%d, %d) has changed its argument, or shares it", x.client, x.time)
		}
	}
	if got, e := replies.Note(nil, 3, 5, api.Result{}); e != api.OK || len(got) != 1 || got[0] != (api.Last{Client: 3, Time: 5}) {
		t.Errorf("Note in the empty table = %v, %d", got, e)
	}
	for _, x := range [][2]int{{0, 1}, {3, 5}, {3, 4}, {3, 1}, {7, lastTime}, {255, 1}} {
		if got, e := replies.Note(some(), x[0], x[1], result(1)); len(got) != 0 || e != api.ErrOld {
			t.Errorf("Note(%d, %d) = %v, %d", x[0], x[1], got, e)
		}
	}
	for _, x := range outside {
		if got, e := replies.Note(some(), x[0], x[1], result(1)); len(got) != 0 || e != api.ErrArg {
			t.Errorf("Note(%d, %d) = %v, %d", x[0], x[1], got, e)
		}
	}
	for _, r := range badResults {
		for _, time := range []int{4, 6} {
			if got, e := replies.Note(some(), 3, time, r); len(got) != 0 || e != api.ErrArg {
				t.Errorf("Note of %v = %v, %d", r, got, e)
			}
		}
	}
}

// asks returns transactions of clients and times.
func asks(l ...[2]int) []api.Txn {
	var out []api.Txn
	for i, x := range l {
		out = append(out, api.Txn{Client: x[0], Time: x[1], Gas: i})
	}
	return out
}

// P26.3, P26.5
func TestFresh(t *testing.T) {
	for _, x := range []struct {
		b  []api.Txn
		at []int
	}{
		{nil, nil},
		{asks([2]int{3, 5}, [2]int{3, 6}, [2]int{3, 6}, [2]int{3, 7}), []int{1, 3}},
		{asks([2]int{3, 9}, [2]int{3, 8}, [2]int{1, 1}, [2]int{1, 1}, [2]int{0, 1}, [2]int{0, 2}, [2]int{3, 10}), []int{0, 2, 5, 6}},
		{asks([2]int{7, lastTime}, [2]int{255, 3}, [2]int{254, lastTime}), []int{1, 2}},
		{asks(outside...), nil},
		{append(asks(outside...), api.Txn{Client: 3, Time: 6}), []int{len(outside)}},
		{asks([2]int{3, 1 << 31}, [2]int{3, 6}), []int{1}},
	} {
		l, at := replies.Fresh(some(), x.b)
		if !slices.Equal(at, x.at) || len(l) != len(at) {
			t.Errorf("Fresh(%v) = %v, %v, want %v", x.b, l, at, x.at)
			continue
		}
		table := some()
		for i, y := range l {
			if want := x.b[at[i]]; y.Client != want.Client || y.Time != want.Time || y.Gas != want.Gas {
				t.Errorf("Fresh(%v) has %v at %d", x.b, y, at[i])
			}
			var e api.Errno
			if table, e = replies.Note(table, y.Client, y.Time, result(1)); e != api.OK {
				t.Errorf("Note of what is fresh: %d", e)
			}
		}
		if l, at := replies.Fresh(table, x.b); len(l) != 0 || len(at) != 0 {
			t.Errorf("what was entered is fresh again: %v, %v", l, at)
		}
	}
}

// P26.3
func TestAll(t *testing.T) {
	b := asks([2]int{3, 6}, [2]int{1, 1}, [2]int{3, 7})
	r := []api.Result{result(1), result(2), result(3)}
	want := []api.Last{last(0, 1), {Client: 1, Time: 1, R: result(2)}, {Client: 3, Time: 7, R: result(3)}, last(7, lastTime), last(255, 2)}
	l := some()
	got, e := replies.All(l, b, r)
	if !slices.Equal(got, want) || e != api.OK {
		t.Errorf("All = %v, %d", got, e)
	}
	none, e := replies.All(l, nil, nil)
	if !slices.Equal(none, some()) || e != api.OK {
		t.Errorf("All of nothing = %v, %d", none, e)
	}
	clear(got)
	clear(none)
	if !slices.Equal(l, some()) {
		t.Error("All has changed its argument, or shares it")
	}
	for _, x := range []struct {
		b []api.Txn
		r []api.Result
		e api.Errno
	}{
		{b, r[:2], api.ErrArg}, {b[:2], r, api.ErrArg}, {nil, r, api.ErrArg}, {b, nil, api.ErrArg},
		{asks([2]int{3, 6}, [2]int{3, 6}), r[:2], api.ErrOld}, {asks([2]int{3, 5}, [2]int{256, 6}), r[:2], api.ErrOld}, {asks([2]int{256, 6}, [2]int{3, 5}), r[:2], api.ErrArg},
		{b, []api.Result{result(1), {Code: 24}, result(1)}, api.ErrArg},
	} {
		if got, e := replies.All(some(), x.b, x.r); len(got) != 0 || e != x.e {
			t.Errorf("All(%v, %v) = %v, %d, want %d", x.b, x.r, got, e, x.e)
		}
	}
}

// P26.4
func TestBytes(t *testing.T) {
	one := []api.Last{{Client: 3, Time: 5}}
	if b := replies.Encode(one); string(b) != "\x01\x03\x05\x03\x00\x00\x00" {
		t.Errorf("Encode = %q", b)
	}
	if b := replies.Encode(nil); string(b) != "\x00" {
		t.Errorf("Encode of nothing = %q", b)
	}
	two := []api.Last{{Client: 3, Time: 300, R: api.Result{Code: 12, Val: api.Value{Kind: 3, S: "ab"}, Ver: 7}}, {Client: 200, Time: 1}}
	if b := replies.Encode(two); string(b) != "\x02\x03\xac\x02\x06\x0c\x03\x02ab\x07\xc8\x01\x01\x03\x00\x00\x00" {
		t.Errorf("Encode = %q", b)
	}
	var every []api.Last
	for c := range 256 {
		every = append(every, last(c, 1+c))
	}
	for _, l := range [][]api.Last{nil, one, two, some(), every} {
		b := replies.Encode(l)
		if got, e := replies.Decode(b); !slices.Equal(got, l) || e != api.OK {
			t.Errorf("Decode of Encode(%v) = %v, %d", l, got, e)
		}
		if got, e := replies.Decode(append(b, 0)); len(got) != 0 || e != api.ErrExtra {
			t.Errorf("Decode with one byte more = %v, %d", got, e)
		}
		for i := range min(len(b), 80) {
			if got, e := replies.Decode(b[:i]); len(got) != 0 || e != api.ErrShort {
				t.Errorf("Decode of %d bytes of %q = %v, %d", i, b, got, e)
			}
		}
	}
}

// P26.4
func TestDecodeWrong(t *testing.T) {
	const good = "\x03\x00\x00\x00"
	over := strings.Repeat("\xff", 10)
	for b, want := range map[string]api.Errno{
		"":                                 api.ErrShort,
		"\x80\x00":                         api.ErrForm,
		over:                               api.ErrOver,
		"\x81\x02":                         api.ErrOver,
		"\x80\x02":                         api.ErrShort,
		"\x01\x80\x02":                     api.ErrOver,
		"\x01\x80\x00":                     api.ErrForm,
		"\x01\x03\x80\x80\x80\x80\x08":     api.ErrOver,
		"\x01\x03" + over:                  api.ErrOver,
		"\x01\x03\x05\x80\x02":             api.ErrOver,
		"\x01\x03\x05\x80\x00":             api.ErrForm,
		"\x01\x03\x05\x04\x00\x00\x00":     api.ErrShort,
		"\x01\x03\x05\xff\x01\x00":         api.ErrShort,
		"\x01\x03\x05\x00":                 api.ErrShort,
		"\x01\x03\x05\x02\x00\x00":         api.ErrShort,
		"\x01\x03\x05\x04\x00\x00\x00\x00": api.ErrExtra,
		"\x01\x03\x05\x03\x18\x00\x00":     api.ErrForm,
		"\x01\x03\x05\x02\x00\x04":         api.ErrForm,
		"\x01\x03\x05\x02\x00\x04x":        api.ErrForm,
		"\x01\x03\x00" + good:              api.ErrArg,
		"\x01\x03\x00" + good + "x":        api.ErrExtra,
		"\x02\x03\x05" + good + "\x03\x06" + good:       api.ErrForm,
		"\x02\x03\x05" + good + "\x02\x06" + good:       api.ErrForm,
		"\x02\x03\x05" + good + "\x02\x06" + good + "x": api.ErrExtra,
		"\x02\x03\x05\x02\x00\x04\x80\x02":              api.ErrForm,
		"\x02\x03\x05" + good:                           api.ErrShort,
	} {
		if got, e := replies.Decode([]byte(b)); len(got) != 0 || e != want {
			t.Errorf("Decode(%q) = %v, %d, want error %d", b, got, e, want)
		}
	}
	if b := txn.EncodeResult(api.Result{}); string(b) != good[1:] {
		t.Errorf("EncodeResult = %q", b)
	}
}
