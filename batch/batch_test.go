package batch_test

import (
	"math"
	"slices"
	"strings"
	"testing"

	"plenum/api"
	"plenum/batch"
	"plenum/replies"
	"plenum/txn"
)

// ask returns a valid transaction.
func ask(client, time int) api.Txn {
	return api.Txn{Client: client, Time: time, W: api.Want{Reads: []string{"b"}, Writes: []string{"a"}}, Source: `put "a", 1;`, Gas: 9}
}

func same(a, b []api.Txn) bool {
	return slices.EqualFunc(a, b, func(x, y api.Txn) bool { return slices.Equal(txn.Encode(x), txn.Encode(y)) })
}

// many returns n transactions of different clients.
func many(n int) []api.Txn {
	var l []api.Txn
	for i := range n {
		l = append(l, ask(i, 5+i%3))
	}
	return l
}

// wrong are transactions that are not valid.
func wrong() []api.Txn {
	source, want := ask(3, 5), ask(3, 5)
	source.Source = "?"
	want.W.Reads = []string{"b", "a"}
	return []api.Txn{{}, ask(-1, 5), ask(256, 5), ask(3, 0), ask(3, 1<<31), ask(math.MaxInt, 5), source, want}
}

// done is a table with the client 3 at time 5, and the client 7 at time 9.
func done() []api.Last { return []api.Last{{Client: 3, Time: 5}, {Client: 7, Time: 9}} }

// noTables are no tables of replies.
var noTables = [][]api.Last{{{}}, {{Client: 3, Time: 5}, {Client: 3, Time: 6}}, {{Client: 3, Time: 5, R: api.Result{Code: 24}}}}

// P27.1
func TestEncode(t *testing.T) {
	if b := batch.Encode(nil); string(b) != "\x00" {
		t.Errorf("Encode of nothing = %q", b)
	}
	a, b := string(txn.Encode(ask(3, 5))), string(txn.Encode(api.Txn{Client: 1, Time: 1, Source: strings.Repeat(" ", 200)}))
	want := "\x02" + string(rune(len(a))) + a + "\xcf\x01" + b
	if got := batch.Encode([]api.Txn{ask(3, 5), {Client: 1, Time: 1, Source: strings.Repeat(" ", 200)}}); string(got) != want || len(b) != 207 {
		t.Errorf("Encode = %q, want %q", got, want)
	}
	for _, w := range wrong() {
		for _, l := range [][]api.Txn{{w}, {ask(1, 1), w}} {
			if got := batch.Encode(l); len(got) != 0 {
				t.Errorf("Encode(%v) = %q", l, got)
			}
		}
	}
	if got := batch.Encode(many(65)); len(got) != 0 {
		t.Errorf("Encode of 65 = %q", got)
	}
	for _, l := range [][]api.Txn{nil, many(1), many(4), many(64), {ask(3, 5), ask(3, 5), ask(3, 4)}} {
		b := batch.Encode(l)
		if got, e := batch.Decode(b); !same(got, l) || e != api.OK {
			t.Errorf("Decode of Encode of %d = %v, %d", len(l), got, e)
		}
		if got, e := batch.Decode(append(b, 0)); len(got) != 0 || e != api.ErrExtra {
			t.Errorf("Decode with one byte more = %v, %d", got, e)
		}
		for i := range min(len(b), 99) {
			if got, e := batch.Decode(b[:i]); len(got) != 0 || e != api.ErrShort {
				t.Errorf("Decode of %d bytes = %v, %d", i, got, e)
			}
		}
	}
}

// P27.1
func TestDecodeWrong(t *testing.T) {
	const empty = "\x01\x01\x00\x00\x00\x00" // a transaction without anything
	good := "\x06" + empty
	over := strings.Repeat("\xff", 10)
	for b, want := range map[string]api.Errno{
		"":             api.ErrShort,
		"\x80\x00":     api.ErrForm,
		over:           api.ErrOver,
		"\x41" + good:  api.ErrOver,
		"\x41":         api.ErrOver,
		"\x00x":        api.ErrExtra,
		"\x01":         api.ErrShort,
		"\x01\x80\x00": api.ErrForm,
		"\x01" + over:  api.ErrOver,
		"\x01\xff\xff\xff\xff\xff\xff\xff\xff\xff\x01": api.ErrShort,
		"\x01\x07" + empty:                         api.ErrShort,
		"\x01\x05" + empty:                         api.ErrShort,
		"\x01\x07" + empty + "x":                   api.ErrExtra,
		"\x01\x00":                                 api.ErrShort,
		"\x01\x06\x01\x00\x00\x00\x00\x00":         api.ErrArg,
		"\x01\x02\x80\x02":                         api.ErrOver,
		"\x01\x02\x80\x00":                         api.ErrForm,
		"\x02" + good:                              api.ErrShort,
		"\x02" + good + "\x02\x80\x00x":            api.ErrForm,
		"\x02\x06\x01\x00\x00\x00\x00\x00\x80\x00": api.ErrArg,
		"\x01" + good + good:                       api.ErrExtra,
	} {
		if got, e := batch.Decode([]byte(b)); len(got) != 0 || e != want {
			t.Errorf("Decode(%q) = %v, %d, want error %d", b, got, e, want)
		}
	}
	if got, e := batch.Decode([]byte("\x02" + good + good)); len(got) != 2 || e != api.OK {
		t.Errorf("Decode of two = %v, %d", got, e)
	}
	if got, e := batch.Decode([]byte("\x40" + strings.Repeat(good, 64))); len(got) != 64 || e != api.OK {
		t.Errorf("Decode of 64 = %d, %d", len(got), e)
	}
}

// noQueues are lists that are no queues.
func noQueues() [][]api.Txn {
	l := [][]api.Txn{many(65), {ask(3, 5), ask(3, 6)}, {ask(3, 5), ask(1, 5), ask(2, 5), ask(1, 5)}}
	for _, w := range wrong() {
		l = append(l, []api.Txn{w}, []api.Txn{ask(1, 1), w})
	}
	return l
}

// P27.2, P27.3
func TestCheck(t *testing.T) {
	for _, q := range [][]api.Txn{nil, many(1), many(64), {ask(9, 1), ask(3, 7), ask(255, 1), ask(0, 1)}} {
		if !batch.Check(q) {
			t.Errorf("Check of %d is false", len(q))
		}
	}
	for _, q := range noQueues() {
		if batch.Check(q) {
			t.Errorf("Check(%v) is true", q)
		}
		for _, x := range []api.Txn{ask(200, 1), {}} {
			if got, e := batch.Add(q, x, nil); len(got) != 0 || e != api.ErrArg {
				t.Errorf("Add to %v = %v, %d", q, got, e)
			}
		}
		if got, e := batch.Take(q, 1); len(got) != 0 || e != api.ErrArg {
			t.Errorf("Take of %v = %v, %d", q, got, e)
		}
		if got, e := batch.Drop(q, nil); len(got) != 0 || e != api.ErrArg {
			t.Errorf("Drop of %v = %v, %d", q, got, e)
		}
	}
}

// P27.2, P27.4
func TestAdd(t *testing.T) {
	q := []api.Txn{ask(1, 5), ask(3, 7), ask(2, 5)}
	for _, x := range []struct {
		t    api.Txn
		want []api.Txn
		e    api.Errno
	}{
		{ask(4, 1), []api.Txn{ask(1, 5), ask(3, 7), ask(2, 5), ask(4, 1)}, api.OK},
		{ask(0, 1), []api.Txn{ask(1, 5), ask(3, 7), ask(2, 5), ask(0, 1)}, api.OK},
		{ask(3, 8), []api.Txn{ask(1, 5), ask(3, 8), ask(2, 5)}, api.OK},
		{ask(2, 6), []api.Txn{ask(1, 5), ask(3, 7), ask(2, 6)}, api.OK},
		{ask(7, 10), []api.Txn{ask(1, 5), ask(3, 7), ask(2, 5), ask(7, 10)}, api.OK},
		{ask(3, 7), nil, api.ErrThere},
		{ask(3, 6), nil, api.ErrOld},
		{ask(3, 5), nil, api.ErrOld},
		{ask(3, 4), nil, api.ErrOld},
		{ask(1, 4), nil, api.ErrOld},
		{ask(7, 9), nil, api.ErrOld},
		{ask(7, 8), nil, api.ErrOld},
	} {
		got, e := batch.Add(q, x.t, done())
		if !same(got, x.want) || e != x.e {
			t.Errorf("Add(%d, %d) = %v, %d", x.t.Client, x.t.Time, got, e)
		}
		clear(got)
	}
	if !same(q, []api.Txn{ask(1, 5), ask(3, 7), ask(2, 5)}) {
		t.Error("Add has changed its argument, or shares it")
	}
	other := ask(3, 7)
	other.Source = ""
	if got, e := batch.Add(q, other, done()); len(got) != 0 || e != api.ErrThere {
		t.Errorf("Add of another one with the same time = %v, %d", got, e)
	}
	for _, w := range wrong() {
		for _, q := range [][]api.Txn{nil, q, many(64)} {
			if got, e := batch.Add(q, w, done()); len(got) != 0 || e != api.ErrArg {
				t.Errorf("Add(%v) = %v, %d", w, got, e)
			}
		}
	}
	for _, l := range noTables {
		if got, e := batch.Add(q, ask(4, 1), l); len(got) != 0 || e != api.ErrArg {
			t.Errorf("Add with %v = %v, %d", l, got, e)
		}
		if got, e := batch.Drop(q, l); len(got) != 0 || e != api.ErrArg {
			t.Errorf("Drop with %v = %v, %d", l, got, e)
		}
	}
}

// P27.2
func TestFull(t *testing.T) {
	q := many(64)
	if got, e := batch.Add(many(63), ask(63, 7), nil); len(got) != 64 || e != api.OK {
		t.Errorf("Add of the 64th: %d, %d", len(got), e)
	}
	if got, e := batch.Add(q, ask(64, 1), nil); len(got) != 0 || e != api.ErrFull {
		t.Errorf("Add of the 65th = %v, %d", got, e)
	}
	if got, e := batch.Add(q, ask(10, 9), nil); len(got) != 64 || got[10].Time != 9 || e != api.OK {
		t.Errorf("Add in place: %d, %d", len(got), e)
	}
	if got, e := batch.Add(q, ask(0, 9), nil); len(got) != 64 || got[0].Time != 9 || e != api.OK {
		t.Errorf("Add in the first place: %d, %d", len(got), e)
	}
	if got, e := batch.Add(q, ask(10, 1), nil); len(got) != 0 || e != api.ErrOld {
		t.Errorf("Add of an old one = %v, %d", got, e)
	}
	if got, e := batch.Add(q, ask(200, 1), []api.Last{{Client: 200, Time: 1}}); len(got) != 0 || e != api.ErrOld {
		t.Errorf("Add of one that is done = %v, %d", got, e)
	}
}

// P27.3
func TestTake(t *testing.T) {
	q := many(5)
	for most, n := range map[int]int{math.MinInt: 0, -1: 0, 0: 0, 1: 1, 4: 4, 5: 5, 6: 5, math.MaxInt: 5} {
		got, e := batch.Take(q, most)
		if !same(got, q[:n]) || e != api.OK {
			t.Errorf("Take(%d) = %v, %d", most, got, e)
		}
		clear(got)
	}
	if !same(q, many(5)) {
		t.Error("Take shares its argument")
	}
	if got, e := batch.Take(nil, 4); len(got) != 0 || e != api.OK {
		t.Errorf("Take of nothing = %v, %d", got, e)
	}
}

// P27.3, P27.4
func TestDrop(t *testing.T) {
	q := []api.Txn{ask(3, 5), ask(1, 5), ask(7, 10), ask(9, 1)}
	for _, x := range []struct {
		done []api.Last
		want []api.Txn
	}{
		{nil, q},
		{done(), []api.Txn{ask(1, 5), ask(7, 10), ask(9, 1)}},
		{[]api.Last{{Client: 1, Time: 9}, {Client: 3, Time: 4}, {Client: 7, Time: 10}, {Client: 9, Time: 1}}, []api.Txn{ask(3, 5)}},
		{[]api.Last{{Client: 1, Time: 5}, {Client: 3, Time: 5}, {Client: 7, Time: 10}, {Client: 9, Time: 1}}, nil},
	} {
		got, e := batch.Drop(q, x.done)
		if !same(got, x.want) || e != api.OK {
			t.Errorf("Drop(%v) = %v, %d", x.done, got, e)
		}
		clear(got)
	}
	if !same(q, []api.Txn{ask(3, 5), ask(1, 5), ask(7, 10), ask(9, 1)}) {
		t.Error("Drop has changed its argument, or shares it")
	}
	l, _ := replies.Note(nil, 3, 6, api.Result{})
	if got, e := batch.Drop([]api.Txn{ask(3, 6)}, l); len(got) != 0 || e != api.OK {
		t.Errorf("Drop of what was noted = %v, %d", got, e)
	}
}
