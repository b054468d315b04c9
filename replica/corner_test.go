package replica_test

import (
	"slices"
	"testing"

	"plenum/api"
	"plenum/view"
)

// settled returns a root that is the number of a state, and a world in which replicas 0 to 2 state it at 4; that is handed to those who are named.
func settled(t *testing.T, to ...int) (*world, int) {
	w := made(t, 4)
	number := stateTerm(t, w.table, empty(t), nil)
	for from := range 4 {
		m := w.mark(from, 4, number)
		for _, p := range to {
			if p != from && w.r[p].Marks().Low == 0 {
				w.takes("a mark", p, m)
			}
		}
	}
	for _, p := range to {
		w.is(p, state{seq: 4, low: 4})
	}
	return w, number
}

// proved returns a change to view 1 with the checkpoint at 4, which is stated; its proof are the marks of these replicas.
func (w *world) proved(from, number int, proof ...int) api.Change {
	c := api.Change{From: from, View: 1, Stable: 4, Root: number}
	for _, p := range proof {
		c.Proof = append(c.Proof, api.Stmt{From: p, Kind: checkpoint, Seq: 4, Term: number})
	}
	w.announced(c)
	return c
}

// plain returns a change to a view without anything else, which is stated.
func (w *world) plain(from, v int) api.Change {
	c := api.Change{From: from, View: v}
	w.announced(c)
	return c
}

// P33.2: changes to views that have begun since do not call any more.
func TestStaleCalls(t *testing.T) {
	w := made(t, 4)
	w.takes("a call for view 3", 3, changeMsg(w.plain(2, 3)))
	w.takes("a new view", 3, w.newView(0, 4, w.plain(0, 4), w.plain(1, 4), w.plain(2, 4)))
	w.posts("a call for view 5", w.takes("a change", 3, changeMsg(w.plain(1, 5))))
	w.is(3, state{view: 4})
}

// P33.2: a new view that cannot be said does not begin.
func TestNewViewUnsaid(t *testing.T) {
	w := made(t, 4)
	w.takes("a change", 1, changeMsg(w.plain(2, 1)))
	second := changeMsg(w.plain(3, 1))
	w.fillRing(1)
	w.posts("the second change", w.takes("a change", 1, second), all(changeMsg(api.Change{From: 1, View: 1})))
	w.is(1, state{view: 1, changing: true})
}

// P33.2: in a new view the clock starts anew.
func TestClockInNewView(t *testing.T) {
	w := made(t, 4)
	w.takes("a request", 3, w.request(ask(1, 1)))
	w.rings(3, 3, 1)
	w.tick(3, 2)
	w.takes("the new view", 3, w.newView(1, 1, w.plain(0, 1), w.plain(1, 1), w.plain(2, 1)))
	w.is(3, state{view: 1, wait: 1})
	w.rings(3, 6, 2)
}

// P33.2: a new primary that has come further than its changes say proposes behind its own low number.
func TestNextAboveLow(t *testing.T) {
	w := made(t, 4)
	number := stateTerm(t, w.table, empty(t), nil)
	w.takes("a request", 1, w.request(ask(1, 1)))
	w.rings(1, 3, 1)
	for _, p := range []int{0, 2, 3} {
		w.takes("a mark while changing", 1, w.mark(p, 4, number))
	}
	w.takes("a change", 1, changeMsg(w.plain(2, 1)))
	l := w.takes("a change", 1, changeMsg(w.plain(3, 1)))
	if len(l) != 2 || l[0].M.Kind != newView {
		t.Fatalf("posted %+v", l)
	}
	w.posts("the proposal", l[1:], all(w.proposal(1, 1, 5, ask(1, 1))))
	w.is(1, state{view: 1, seq: 4, low: 4, wait: 1})
}

// P33.2: a primary of which others have come further proposes behind their checkpoint.
func TestPrimaryBehind(t *testing.T) {
	w, _ := settled(t, 0)
	x := ask(1, 1)
	w.posts("a request", w.takes("a request", 0, w.request(x)), all(w.proposal(0, 0, 5, x)))
}

// P33.2: choices at numbers that a replica has left behind are not taken over.
func TestInactiveChoices(t *testing.T) {
	w, _ := settled(t, 3)
	x := ask(1, 1)
	w.request(x)
	b := w.say(w.proposal(0, 0, 2, x))
	k := api.Cert{Seq: 2, Term: b.Term, Body: b.Body, Voices: []api.Stmt{stmt(b), stmt(w.vote(prepare, 1, 0, 2, b.Term)), stmt(w.vote(prepare, 2, 0, 2, b.Term))}}
	l := []api.Change{w.plain(0, 1), {From: 1, View: 1, Certs: []api.Cert{k}}, w.plain(2, 1)}
	w.announced(l[1])
	null := w.of("\x00")
	for seq, number := range map[int]int{1: null, 2: b.Term} {
		w.say(api.Msg{Kind: prePrepare, From: 1, View: 1, Seq: seq, Term: number})
	}
	w.posts("a new view", w.takes("a new view", 3, w.newView(1, 1, l...)))
	w.is(3, state{view: 1, seq: 4, low: 4})
	w.drops("a vote for a choice", 3, w.vote(prepare, 2, 1, 2, b.Term))
	if w.r[2].Marks().Low != 0 {
		t.Fatal("replica 2 has come as far")
	}
	w.posts("the new view, at one that has not come so far", w.takes("a new view", 2, w.newView(1, 1, l...)), all(w.vote(prepare, 2, 1, 1, null)), all(api.Msg{Kind: prepare, From: 2, View: 1, Seq: 2, Term: b.Term}))
}

// P33.2: the proof of the checkpoint of a new view is that of the first change that has it.
func TestProofTaken(t *testing.T) {
	w, number := settled(t)
	one, two := w.proved(1, number, 0, 1, 2), w.proved(2, number, 3, 2, 1)
	w.takes("a request", 3, w.request(ask(1, 1)))
	w.takes("a new view", 3, w.newView(1, 1, w.plain(0, 1), two, one))
	w.is(3, state{view: 1, seq: 4, low: 4, wait: 1})
	l := w.tick(3, 3)
	want := api.Change{From: 3, View: 2, Stable: 4, Root: number, Proof: two.Proof}
	w.posts("a change", l, all(changeMsg(want)))
	if !view.Change(w.ring, w.table, want, 4) {
		t.Error("the change does not hold")
	}
}

// P33.2: a mark that makes nothing stable leaves the proof as it was.
func TestProofKept(t *testing.T) {
	w, number := settled(t, 3)
	w.takes("a mark", 3, w.mark(1, 8, 77))
	w.takes("a request", 3, w.request(ask(1, 1)))
	l := w.tick(3, 3)
	if c := l[0].M.Changes[0]; len(c.Proof) != 3 || c.Stable != 4 || c.Root != number || !view.Change(w.ring, w.table, c, 4) {
		t.Errorf("the change %+v", c)
	}
}

// P33.2: what could not be proposed does not count as proposed, and takes no number.
func TestUnproposed(t *testing.T) {
	w := made(t, 4)
	x, y := ask(1, 1), ask(2, 1)
	m, o := w.request(x), w.request(y)
	both := w.proposal(0, 0, 1, x, y)
	w.fillTable(0)
	w.posts("what has no term", w.takes("a request", 0, m))
	w.posts("what has a term with another one", w.takes("a request", 0, o), all(both))
}

// P33.2: a certificate is kept as it was at first, though more replicas prepare afterwards.
func TestCertificateKept(t *testing.T) {
	w := made(t, 4)
	x := ask(1, 1)
	m := w.request(x)
	for p := range 4 {
		w.takes("a request", p, m)
	}
	w.settleOnly(prePrepare, prepare)
	for p := range 4 {
		l := w.tick(p, 3)
		if c := l[0].M.Changes[0]; len(c.Certs) != 1 || len(c.Certs[0].Voices) != 3 || c.Certs[0].Voices[0].From != 0 {
			t.Errorf("replica %d: the change %+v", p, c)
		}
	}
}

// P33.2: the voices of a certificate begin with the primary's, whatever its number.
func TestCertificateVoices(t *testing.T) {
	for _, x := range []struct {
		view, other int
		order       []int // whose voices follow on one another
	}{{1, 0, []int{1, 0, 3}}, {1, 2, []int{1, 2, 3}}, {2, 0, []int{2, 0, 3}}, {4, 1, []int{0, 1, 3}}} {
		w := made(t, 4)
		a := ask(1, 1)
		primary := x.view % 4
		w.takes("a request", 3, w.request(a))
		w.takes("a new view", 3, w.newView(primary, x.view, w.plain(0, x.view), w.plain(1, x.view), w.plain(2, x.view)))
		m := w.say(w.proposal(primary, x.view, 1, a))
		w.takes("a proposal", 3, m)
		w.takes("a vote", 3, w.vote(prepare, x.other, x.view, 1, m.Term))
		k := api.Cert{Seq: 1, View: x.view, Term: m.Term, Body: m.Body}
		for _, p := range x.order {
			k.Voices = append(k.Voices, api.Stmt{From: p, Kind: prepare, View: x.view, Seq: 1, Term: m.Term})
		}
		k.Voices[0].Kind = prePrepare
		w.posts("a change", w.tick(3, 3)[:1], all(changeMsg(api.Change{From: 3, View: x.view + 1, Certs: []api.Cert{k}})))
	}
}

// P33.2: what lies above a stable checkpoint stays.
func TestAboveStays(t *testing.T) {
	w := made(t, 4)
	l := append(four(), ask(5, 1))
	var b []api.Msg
	for i, x := range l {
		w.takes("a request", 1, w.request(x))
		b = append(b, w.say(w.proposal(0, 0, 1+i, x)))
		w.takes("a proposal", 1, b[i])
		w.takes("a vote", 1, w.vote(prepare, 2, 0, 1+i, b[i].Term))
		w.takes("a vote", 1, w.vote(commit, 0, 0, 1+i, b[i].Term))
		if i < 4 {
			w.takes("a vote", 1, w.vote(commit, 3, 0, 1+i, b[i].Term))
		}
	}
	number := w.r[1].Marks().L[0].Term
	w.takes("a mark", 1, w.mark(0, 4, number))
	w.takes("a mark", 1, w.mark(2, 4, number))
	w.is(1, state{seq: 4, logged: 4, low: 4, wait: 1})
	change := w.tick(1, 3)[0].M.Changes[0]
	if len(change.Certs) != 1 || change.Certs[0].Seq != 5 {
		t.Errorf("the change %+v", change)
	}
	w = made(t, 4)
	for i, x := range l {
		w.takes("a request", 1, w.request(x))
		m := w.say(w.proposal(0, 0, 1+i, x))
		w.takes("a proposal", 1, m)
		w.takes("a vote", 1, w.vote(prepare, 2, 0, 1+i, m.Term))
		w.takes("a vote", 1, w.vote(commit, 0, 0, 1+i, m.Term))
		if i < 4 {
			w.takes("a vote", 1, w.vote(commit, 3, 0, 1+i, m.Term))
		}
	}
	for _, p := range []int{0, 2} {
		w.takes("a mark", 1, w.mark(p, 4, w.r[1].Marks().L[0].Term))
	}
	w.takes("the last vote", 1, w.vote(commit, 3, 0, 5, b[4].Term))
	if seq := w.r[1].Seq(); seq != 5 {
		t.Errorf("%d batches are executed", seq)
	}
}

// P33.2: who has come further than a stable checkpoint keeps its state.
func TestAheadStays(t *testing.T) {
	w := made(t, 4)
	for i, x := range append(four(), ask(5, 1)) {
		w.takes("a request", 1, w.request(x))
		m := w.say(w.proposal(0, 0, 1+i, x))
		w.takes("a proposal", 1, m)
		w.takes("a vote", 1, w.vote(prepare, 2, 0, 1+i, m.Term))
		w.takes("a vote", 1, w.vote(commit, 0, 0, 1+i, m.Term))
		w.takes("a vote", 1, w.vote(commit, 3, 0, 1+i, m.Term))
	}
	number := w.r[1].Marks().L[0].Term
	for _, p := range []int{0, 2} {
		w.takes("a mark", 1, w.mark(p, 4, number))
	}
	w.is(1, state{seq: 5, logged: 5, low: 4})
	if w.r[1].Store().Ver != 5 || len(w.r[1].Replies()) != 5 {
		t.Errorf("version %d, replies %v", w.r[1].Store().Ver, w.r[1].Replies())
	}
}

// P33.2: of seven replicas four others must prepare and five commit; five voices make a checkpoint stable.
func TestSeven(t *testing.T) {
	w := made(t, 7)
	w.ordered(four()...)
	w.agree(4)
	for p := range 7 {
		w.is(p, state{seq: 4, logged: 4, low: 4})
	}
	w = made(t, 7)
	x := ask(1, 1)
	w.request(x)
	m := w.say(w.proposal(0, 0, 1, x))
	w.takes("a proposal", 1, m)
	var got []int
	for _, p := range []int{2, 3, 4} {
		got = append(got, len(w.takes("a vote", 1, w.vote(prepare, p, 0, 1, m.Term))))
	}
	for _, p := range []int{0, 2, 3, 4} {
		got = append(got, len(w.takes("a vote", 1, w.vote(commit, p, 0, 1, m.Term))))
	}
	if !slices.Equal(got, []int{0, 0, 1, 0, 0, 0, 1}) {
		t.Errorf("posted %v", got)
	}
	w.is(1, state{seq: 1, logged: 1})
}
