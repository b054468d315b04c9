package replica_test

import (
	"math"
	"slices"
	"testing"

	"plenum/api"
	"plenum/batch"
	"plenum/replica"
	"plenum/ring"
	"plenum/store"
	"plenum/term"
	"plenum/txn"
)

// P33.1
func TestNew(t *testing.T) {
	r, _ := ring.New(20, nil)
	x := term.New()
	s := empty(t)
	wrong := s
	wrong.Ver = -1
	for _, c := range []struct {
		me, n      int
		s          api.Store
		base, most int
	}{
		{0, 0, s, 1, 1}, {0, 1, s, 1, 1}, {0, 5, s, 1, 1}, {0, 17, s, 1, 1}, {0, -4, s, 1, 1}, {0, math.MaxInt, s, 1, 1},
		{-1, 4, s, 1, 1}, {4, 4, s, 1, 1}, {math.MaxInt, 4, s, 1, 1}, {math.MinInt, 4, s, 1, 1},
		{0, 4, wrong, 1, 1}, {0, 4, s, 0, 1}, {0, 4, s, 2, 1}, {0, 4, s, 1, api.MaxWait + 1}, {0, 4, s, math.MinInt, math.MaxInt},
	} {
		if p, e := replica.New(c.me, c.n, c.s, r, x, c.base, c.most); p != nil || e != api.ErrArg {
			t.Errorf("New(%d, %d, %v, %d, %d) = %v, %d", c.me, c.n, c.s, c.base, c.most, p, e)
		}
	}
	s, _, _ = store.Take(s, []api.Edit{{Key: "a", Val: api.Value{Kind: 2, I: 5}}})
	for _, n := range []int{4, 7, 10, 13, 16} {
		p, e := replica.New(n-1, n, s, r, x, 1, 1)
		if e != api.OK || p == nil {
			t.Fatalf("New of %d: %d", n, e)
		}
		v, changing := p.View()
		m := p.Marks()
		if v != 0 || changing || p.Seq() != 0 || !store.Same(p.Store(), s) || len(p.Replies()) != 0 || len(p.Log()) != 0 || m.Low != 0 || m.Root != 0 || len(m.L) != 0 || p.Drops() != 0 || p.Waiting() != 0 {
			t.Errorf("a new replica of %d tells %d, %v, %v", n, v, changing, m)
		}
	}
	if r.Count() != 0 || x.Count() != 0 {
		t.Error("New has said something")
	}
}

// R3: the replica keeps the store that it was given, whatever happens to the argument.
func TestNewCopies(t *testing.T) {
	s, _, _ := store.Take(empty(t), []api.Edit{{Key: "a", Val: api.Value{Kind: 2, I: 5}}})
	r, _ := ring.New(4, nil)
	p, _ := replica.New(0, 4, s, r, term.New(), 1, 1)
	s.T.Leaves[1][0].Val.I = 6
	if v, _, e := store.Get(p.Store(), "a"); v.I != 5 || e != api.OK {
		t.Errorf("the replica has %v, %d", v, e)
	}
}

// P33.2: the way of one request.
func TestOneRequest(t *testing.T) {
	w := made(t, 4)
	x := ask(2, 1)
	body := string(batch.Encode([]api.Txn{x}))
	m := w.request(x)
	proposal := api.Msg{Kind: prePrepare, Seq: 1, Term: w.of(body), Body: body}
	w.posts("a request at the primary", w.takes("a request", 0, m), all(proposal))
	w.posts("a request at another one", w.takes("a request", 1, m))
	if !w.ring.Has(stmt(proposal)) {
		t.Error("the primary did not say its proposal")
	}
	vote := func(kind, from int) api.Msg {
		return api.Msg{Kind: kind, From: from, Seq: 1, Term: proposal.Term}
	}
	w.posts("a proposal", w.takes("a proposal", 1, proposal), all(vote(prepare, 1)))
	w.posts("a proposal", w.takes("a proposal", 2, proposal), all(vote(prepare, 2)))
	w.posts("a proposal without the request", w.takes("a proposal", 3, proposal), all(vote(prepare, 3)))
	w.posts("the second who prepares", w.takes("a vote", 1, vote(prepare, 2)), all(vote(commit, 1)))
	w.posts("the third who prepares", w.takes("a vote", 1, vote(prepare, 3)))
	w.posts("one who prepares, at the primary", w.takes("a vote", 0, vote(prepare, 1)))
	w.posts("the second who prepares, at the primary", w.takes("a vote", 0, vote(prepare, 3)), all(vote(commit, 0)))
	w.posts("the second who prepares", w.takes("a vote", 2, vote(prepare, 1)), all(vote(commit, 2)))
	w.posts("the second who commits", w.takes("a vote", 1, vote(commit, 0)))
	w.is(1, state{wait: 1})
	result := string(txn.EncodeResult(api.Result{Val: api.Value{Kind: 2, I: 201}, Ver: 1}))
	answer := api.Post{To: 4 + 2, M: api.Msg{Kind: reply, From: 1, View: 2, Seq: 1, Term: w.of(result), Body: result}}
	w.posts("the third who commits", w.takes("a vote", 1, vote(commit, 2)), answer)
	w.is(1, state{seq: 1, logged: 1})
	if !w.ring.Has(stmt(answer.M)) {
		t.Error("the replica did not say its result")
	}
	if l := w.r[1].Log(); len(l) != 1 || l[0] != (api.Done{Seq: 1, Body: body}) {
		t.Errorf("the log is %v", l)
	}
	if l := w.r[1].Replies(); len(l) != 1 || l[0].Client != 2 || l[0].Time != 1 || l[0].R.Val.I != 201 {
		t.Errorf("the replies are %v", l)
	}
	w.settle()
	w.agree(1)
	w.posts("the request again", w.takes("a request", 1, m), answer)
	w.posts("the request again, at the primary", w.takes("a request", 0, m), func() api.Post { a := answer; a.M.From = 0; return a }())
}

// P33.2
func TestRequestDrops(t *testing.T) {
	w := made(t, 4)
	good := w.request(ask(2, 5))
	said := func(f func(*api.Msg)) api.Msg {
		m := good
		f(&m)
		return w.say(m)
	}
	other := w.unsaid(ask(2, 6))
	for what, m := range map[string]api.Msg{
		"another view":           said(func(m *api.Msg) { m.View = 1 }),
		"another client":         said(func(m *api.Msg) { m.From++ }),
		"a replica":              said(func(m *api.Msg) { m.From = 2 }),
		"another time":           said(func(m *api.Msg) { m.Seq++ }),
		"another term":           said(func(m *api.Msg) { m.Term++ }),
		"another body":           func() api.Msg { m := good; m.Body = other.Body; return m }(),
		"what was not said":      other,
		"no body":                said(func(m *api.Msg) { m.Body = ""; m.Term = w.of("") }),
		"more than a body":       said(func(m *api.Msg) { m.Body += "x"; m.Term = w.of(m.Body) }),
		"a message without kind": {From: 6},
		"a kind above all":       {Kind: 11, From: 6},
		"a party below 0":        {Kind: request, From: -1},
		"a number below 0":       func() api.Msg { m := good; m.View = -1; return m }(),
		"a kind of clients":      {Kind: reply, From: 1},
		"a kind without effect":  {Kind: 9, From: 1},
		"another such kind":      {Kind: 10, From: 1},
	} {
		w.drops(what, 0, m)
		w.drops(what, 1, m)
	}
	w.takes("a good request", 1, good)
	w.is(1, state{wait: 1})
	w.posts("a request that waits already", w.takes("a request", 1, good))
	w.drops("an older request of the client", 1, w.request(ask(2, 4)))
	w.is(1, state{wait: 1})
	w.takes("a newer request of the client", 1, w.request(ask(2, 6)))
	w.is(1, state{wait: 1})
	w.drops("the older request", 1, good)
	w.takes("a request of another client", 1, w.request(ask(0, 1)))
	w.is(1, state{wait: 2})
}

// P33.2: after the first condition that fails no string is given a term.
func TestRequestTerms(t *testing.T) {
	w := made(t, 4)
	body := string(txn.Encode(ask(2, 1)))
	right := api.Msg{Kind: request, From: 6, Seq: 1, Body: body}
	for what, f := range map[string]func(*api.Msg){"view": func(m *api.Msg) { m.View = 1 }, "client": func(m *api.Msg) { m.From = 5 }, "time": func(m *api.Msg) { m.Seq = 2 }, "body": func(m *api.Msg) { m.Body += "x" }} {
		m := right
		f(&m)
		w.drops("another "+what, 0, m)
		if w.table.Count() != 0 {
			t.Fatalf("another %s: a term was given", what)
		}
	}
	w.drops("another term", 0, right)
	if n, ok := w.table.Has(body); n != 1 || !ok {
		t.Error("the body was given no term")
	}
}

// P33.2
func TestOldRequests(t *testing.T) {
	w := made(t, 4)
	w.ordered(ask(2, 5), ask(2, 7))
	w.agree(2)
	for p := range 4 {
		w.drops("an old request", p, w.request(ask(2, 5)))
		w.drops("an old request", p, w.request(ask(2, 6)))
		l := w.takes("the last request", p, w.request(ask(2, 7)))
		if len(l) != 1 || l[0].To != 6 || l[0].M.Kind != reply || l[0].M.Seq != 7 {
			t.Errorf("the last request again: %+v", l)
		}
	}
	other := ask(2, 7)
	other.Source = "return 1;"
	l := w.takes("another request with the last time", 1, w.request(other))
	if r, _ := txn.DecodeResult([]byte(l[0].M.Body)); r.Val.I != 207 {
		t.Errorf("another request with the last time: %+v", l)
	}
}

// proposal returns the message in which a party proposes; it is not said.
func (w *world) proposal(from, view, seq int, l ...api.Txn) api.Msg {
	w.Helper()
	body := string(batch.Encode(l))
	return api.Msg{Kind: prePrepare, From: from, View: view, Seq: seq, Term: w.of(body), Body: body}
}

// P33.2
func TestProposalDrops(t *testing.T) {
	w := made(t, 4)
	a, b := ask(1, 1), ask(2, 1)
	w.request(a)
	w.request(b)
	good := w.say(w.proposal(0, 0, 1, a))
	junk := w.proposal(0, 0, 2, a)
	junk.Body, junk.Term = "junk", w.of("junk")
	longer := w.proposal(0, 0, 2, a)
	longer.Body += "x"
	longer.Term = w.of(longer.Body)
	wrongTerm := w.proposal(0, 0, 2, a)
	wrongTerm.Term++
	changed := a
	changed.Gas++
	for what, m := range map[string]api.Msg{
		"another view":          w.say(w.proposal(1, 1, 1, a)),
		"another view of it":    w.say(w.proposal(0, 4, 1, a)),
		"not from the primary":  w.say(w.proposal(2, 0, 1, a)),
		"from a client":         w.say(w.proposal(4, 0, 1, a)),
		"number 0":              w.say(w.proposal(0, 0, 0, a)),
		"number 17":             w.say(w.proposal(0, 0, 17, a)),
		"another term":          w.say(wrongTerm),
		"what was not said":     w.proposal(0, 0, 2, a),
		"no batch":              w.say(junk),
		"more than a batch":     w.say(longer),
		"nobody asked":          w.say(w.proposal(0, 0, 2, ask(3, 1))),
		"asked otherwise":       w.say(w.proposal(0, 0, 2, changed)),
		"one that nobody asked": w.say(w.proposal(0, 0, 2, a, b, ask(3, 1))),
		"no client":             w.say(w.proposal(0, 0, 2, ask(200, 1))),
	} {
		w.drops(what, 1, m)
	}
	w.drops("from itself", 0, good)
	w.posts("a good proposal", w.takes("a proposal", 1, good), all(api.Msg{Kind: prepare, From: 1, Seq: 1, Term: good.Term}))
	w.drops("the proposal again", 1, good)
	w.drops("another proposal", 1, w.say(w.proposal(0, 0, 1, b)))
	w.takes("a proposal of two", 1, w.say(w.proposal(0, 0, 16, a, b)))
	w.takes("a proposal of nothing", 1, w.say(w.proposal(0, 0, 15)))
	w.takes("a proposal of what was proposed already", 1, w.say(w.proposal(0, 0, 3, a)))
	if w.r[1].Drops() != 16 {
		t.Errorf("%d messages were dropped", w.r[1].Drops())
	}
}

// P33.2: after the first condition that fails no string is given a term.
func TestProposalTerms(t *testing.T) {
	w := made(t, 4)
	a, b, c := ask(1, 1), ask(2, 1), ask(3, 1)
	w.request(a)
	m := api.Msg{Kind: prePrepare, Seq: 17, Body: string(batch.Encode([]api.Txn{a, b, c}))}
	count := w.table.Count()
	w.drops("number 17", 1, m)
	m.Seq, m.View = 1, 1
	w.drops("view 1", 1, m)
	m.View, m.From = 0, 2
	w.drops("not from the primary", 1, m)
	if w.table.Count() != count {
		t.Error("a proposal that is dropped at once was given a term")
	}
	m.From = 0
	w.drops("another term", 1, m)
	if w.table.Count() != count+1 {
		t.Errorf("%d terms were given, want that of the body", w.table.Count()-count)
	}
	m.Term = w.of(m.Body)
	w.drops("nobody asked", 1, w.say(m))
	if _, ok := w.table.Has(string(txn.Encode(b))); !ok || w.table.Count() != count+2 {
		t.Errorf("%d terms were given, want that of the body and the first that nobody asked", w.table.Count()-count)
	}
}

// vote returns the message in which a party votes; it was said.
func (w *world) vote(kind, from, view, seq, term int) api.Msg {
	w.Helper()
	return w.say(api.Msg{Kind: kind, From: from, View: view, Seq: seq, Term: term})
}

// P33.2
func TestVoteDrops(t *testing.T) {
	for _, kind := range []int{prepare, commit} {
		w := made(t, 4)
		for what, m := range map[string]api.Msg{
			"another view":      w.vote(kind, 2, 1, 1, 7),
			"from itself":       w.vote(kind, 1, 0, 1, 7),
			"from a client":     w.vote(kind, 4, 0, 1, 7),
			"number 0":          w.vote(kind, 2, 0, 0, 7),
			"number 17":         w.vote(kind, 2, 0, 17, 7),
			"what was not said": {Kind: kind, From: 2, Seq: 3, Term: 7},
			"said otherwise":    func() api.Msg { m := w.vote(kind, 2, 0, 4, 7); m.Term = 8; return m }(),
		} {
			w.drops(what, 1, m)
		}
		good := w.vote(kind, 2, 0, 1, 7)
		w.posts("a good vote", w.takes("a vote", 1, good))
		w.drops("the vote again", 1, good)
		w.drops("another vote", 1, w.vote(kind, 2, 0, 1, 8))
		w.posts("the last number", w.takes("a vote", 1, w.vote(kind, 2, 0, 16, 7)))
		w.posts("a vote of the primary", w.takes("a vote", 1, w.vote(kind, 0, 0, 1, 7)))
	}
}

// P33.2: votes that come before the proposal count as well.
func TestEarlyVotes(t *testing.T) {
	w := made(t, 4)
	a := ask(1, 1)
	w.request(a)
	m := w.say(w.proposal(0, 0, 1, a))
	w.posts("one who prepares", w.give(1, w.vote(prepare, 2, 0, 1, m.Term)))
	w.posts("one who commits", w.give(1, w.vote(commit, 2, 0, 1, m.Term)))
	w.posts("the primary commits", w.give(1, w.vote(commit, 0, 0, 1, m.Term)))
	l := w.give(1, m)
	if !slices.Equal(kinds(l), []int{prepare, commit, reply}) {
		t.Errorf("posted %+v", l)
	}
	w.is(1, state{seq: 1, logged: 1})
}

// P33.2: what was committed out of order is executed in order.
func TestExecuteInOrder(t *testing.T) {
	w := made(t, 4)
	a, b, c := ask(1, 1), ask(2, 1), ask(3, 1)
	var m []api.Msg
	for i, x := range []api.Txn{a, b, c} {
		w.takes("a request", 1, w.request(x))
		m = append(m, w.say(w.proposal(0, 0, 1+i, x)))
	}
	commits := func(i int) []api.Post {
		w.give(1, m[i])
		w.give(1, w.vote(prepare, 2, 0, 1+i, m[i].Term))
		l := w.give(1, w.vote(commit, 0, 0, 1+i, m[i].Term))
		return append(l, w.give(1, w.vote(commit, 3, 0, 1+i, m[i].Term))...)
	}
	w.posts("number 3", commits(2))
	w.is(1, state{wait: 3})
	w.posts("number 2", commits(1))
	w.is(1, state{wait: 3})
	l := commits(0)
	if !slices.Equal(kinds(l), []int{reply, reply, reply}) || l[0].To != 5 || l[1].To != 6 || l[2].To != 7 {
		t.Errorf("posted %+v", l)
	}
	w.is(1, state{seq: 3, logged: 3})
	for i, d := range w.r[1].Log() {
		if d != (api.Done{Seq: 1 + i, Body: m[i].Body}) {
			t.Errorf("the log has %v at %d", d, i)
		}
	}
}

// P33.2: what was executed already is not executed again, though it is proposed again.
func TestOnce(t *testing.T) {
	w := made(t, 4)
	a, b := ask(1, 1), ask(2, 1)
	count := api.Txn{Client: 3, Time: 1, W: api.Want{Writes: []string{"n"}}, Source: `if has("n") { put "n", get("n") + 1; } else { put "n", 1; } return get("n");`, Gas: 99}
	for _, x := range []api.Txn{a, b, count} {
		w.request(x)
	}
	for seq, l := range [][]api.Txn{{count}, {a, count, b}, {count, count}, nil} {
		m := w.say(w.proposal(0, 0, 1+seq, l...))
		for p := 1; p < 4; p++ {
			w.takes("a proposal", p, m)
		}
		w.way = append(w.way, all(w.vote(commit, 0, 0, 1+seq, m.Term)))
		w.settle()
	}
	for p := 1; p < 4; p++ {
		w.is(p, state{seq: 4, logged: 4, low: 4})
		if v, ver, e := store.Get(w.r[p].Store(), "n"); v.I != 1 || ver != 1 || e != api.OK {
			t.Errorf("replica %d has %v at version %d", p, v, ver)
		}
		if w.r[p].Store().Ver != 3 || len(w.r[p].Replies()) != 3 {
			t.Errorf("replica %d: version %d, replies %v", p, w.r[p].Store().Ver, w.r[p].Replies())
		}
	}
}

// P33.2: a primary proposes up to the high water mark, and then what has gathered, four transactions at a time.
func TestWaterMarks(t *testing.T) {
	w := made(t, 4)
	var asked []api.Txn
	for i := range 22 {
		asked = append(asked, ask(i%8, 1+i/8))
	}
	for i, x := range asked {
		m := w.request(x)
		l := w.takes("a request", 0, m)
		if want := w.proposal(0, 0, 1+i, x); i < 16 {
			w.posts("a request", l, all(want))
		} else {
			w.posts("a request beyond the water mark", l)
		}
		for p := 1; p < 4; p++ {
			w.takes("a request", p, m)
		}
	}
	w.is(0, state{wait: 8})
	w.settle()
	w.agree(16)
	w.is(0, state{seq: 16, logged: 16, low: 16, wait: 6})
	last := ask(7, 9)
	l := w.takes("a request", 0, w.request(last))
	four, three := w.proposal(0, 0, 17, asked[16:20]...), w.proposal(0, 0, 18, asked[20], asked[21], last)
	w.posts("a request behind the water mark", l, all(four), all(three))
	w.settle()
	w.agree(18)
	for p := range 4 {
		log := w.r[p].Log()
		if len(log) != 18 || log[15].Body != string(batch.Encode(asked[15:16])) || log[16].Body != four.Body || log[17].Body != three.Body {
			t.Errorf("replica %d has executed %v", p, log)
		}
	}
}

// P33.2: only transactions that were not proposed in this view are proposed.
func TestProposedOnce(t *testing.T) {
	w := made(t, 4)
	w.takes("a request", 0, w.request(ask(1, 1)))
	l := w.takes("a request", 0, w.request(ask(2, 1)))
	w.posts("a second request", l, all(w.proposal(0, 0, 2, ask(2, 1))))
	l = w.takes("a later request", 0, w.request(ask(1, 2)))
	w.posts("a later request of the first client", l, all(w.proposal(0, 0, 3, ask(1, 2))))
	w.posts("the same request", w.takes("a request", 0, w.request(ask(1, 2))))
	w.is(0, state{wait: 2})
}

// P33.2: a bad primary that proposes two batches for one number: at most one of them is executed.
func TestTwoProposals(t *testing.T) {
	w := made(t, 4, 0)
	a, b := ask(1, 1), ask(2, 1)
	w.out[0] = true
	for _, x := range []api.Txn{a, b} {
		m := w.request(x)
		for p := 1; p < 4; p++ {
			w.takes("a request", p, m)
		}
	}
	one, two := w.say(w.proposal(0, 0, 1, a)), w.say(w.proposal(0, 0, 1, b))
	for _, m := range []api.Msg{one, two} {
		w.vote(prepare, 0, 0, 1, m.Term)
		w.vote(commit, 0, 0, 1, m.Term)
	}
	w.takes("the first batch", 1, one)
	w.takes("the second batch", 2, two)
	w.takes("the second batch", 3, two)
	for p := 1; p < 4; p++ {
		for _, m := range []api.Msg{one, two} {
			w.give(p, api.Msg{Kind: prepare, From: 0, Seq: 1, Term: m.Term})
			w.give(p, api.Msg{Kind: commit, From: 0, Seq: 1, Term: m.Term})
		}
	}
	w.settle()
	for p := 1; p < 4; p++ {
		for _, d := range w.r[p].Log() {
			if d.Body != two.Body {
				t.Errorf("replica %d has executed %q", p, d.Body)
			}
		}
	}
}

// P33.3, R3: what a replica tells is new memory.
func TestCopies(t *testing.T) {
	w := made(t, 4)
	w.ordered(ask(1, 1), ask(2, 1), ask(3, 1))
	m := w.vote(checkpoint, 2, 0, 4, 99)
	w.takes("a mark", 1, m)
	before := w.told(1)
	clear(w.r[1].Replies())
	clear(w.r[1].Log())
	clear(w.r[1].Marks().L)
	if w.told(1) != before || len(w.r[1].Marks().L) != 1 {
		t.Error("a result shares the replica's memory")
	}
}

// P33.3
func TestDropsCount(t *testing.T) {
	w := made(t, 4)
	for i := range 100 {
		w.give(1, api.Msg{})
		if w.r[1].Drops() != 1+i {
			t.Errorf("Drops = %d", w.r[1].Drops())
		}
	}
}
