package replica_test

import (
	"slices"
	"testing"

	"plenum/api"
	"plenum/view"
	"plenum/wire"
)

// settleOnly lets only posts of some kinds arrive; the others are lost.
func (w *world) settleOnly(kinds ...int) {
	w.Helper()
	for len(w.way) > 0 {
		l := w.way
		w.way = nil
		for _, x := range l {
			if slices.Contains(kinds, x.M.Kind) {
				w.arrive(x)
			}
		}
	}
}

// arrive lets a post arrive; what it leads to is kept.
func (w *world) arrive(x api.Post) {
	w.Helper()
	for p := range w.n {
		if (x.To == p || x.To == api.ToAll && p != x.M.From) && !w.out[p] && !w.out[x.M.From] {
			w.give(p, x.M)
		}
	}
}

// changeMsg returns the message of a change.
func changeMsg(c api.Change) api.Msg {
	return api.Msg{Kind: changeKind, From: c.From, View: c.View, Changes: []api.Change{c}}
}

// announced returns the message of a change, which is stated.
func (w *world) announced(c api.Change) api.Msg {
	w.Helper()
	s, e := view.ChangeStmt(w.table, c)
	if e != api.OK || w.ring.Say(s.From, s) != api.OK {
		w.Fatalf("the change %v cannot be stated: %d", c, e)
	}
	return changeMsg(c)
}

// newView returns the message of a new view, which is stated.
func (w *world) newView(from, v int, l ...api.Change) api.Msg {
	w.Helper()
	m := api.Msg{Kind: newView, From: from, View: v, Changes: l}
	s, e := view.NewStmt(w.table, m)
	if e != api.OK || w.ring.Say(s.From, s) != api.OK {
		w.Fatalf("the new view %v cannot be stated: %d", m, e)
	}
	return m
}

// rings fails unless a replica's clock rings at just the n-th tick, and the replica then changes to this view.
func (w *world) rings(p, n, to int) {
	w.Helper()
	if l := w.tick(p, n-1); len(l) != 0 {
		w.Errorf("replica %d: within %d ticks %+v was posted", p, n-1, l)
	}
	l := w.tick(p, 1)
	if len(l) == 0 || l[0].To != api.ToAll || l[0].M.Kind != changeKind || l[0].M.From != p || l[0].M.View != to {
		w.Errorf("replica %d: at tick %d %+v was posted, want a change to view %d", p, n, l, to)
	}
	if v, changing := w.r[p].View(); v != to || !changing {
		w.Errorf("replica %d is in view %d, %v, want to change to %d", p, v, changing, to)
	}
}

// P33.2
func TestClock(t *testing.T) {
	w := made(t, 4)
	if l := w.tick(1, 100); len(l) != 0 {
		t.Errorf("nothing waits, but %+v was posted", l)
	}
	w.takes("a request", 1, w.request(ask(1, 1)))
	w.posts("two ticks", w.tick(1, 2))
	w.is(1, state{wait: 1})
	c := api.Change{From: 1, View: 1}
	w.posts("the third tick", w.tick(1, 1), all(changeMsg(c)))
	w.is(1, state{view: 1, changing: true, wait: 1})
	if s, _ := view.ChangeStmt(w.table, c); !w.ring.Has(s) {
		t.Error("the change was not said")
	}
	w.rings(1, 6, 2)
	w.tick(1, 5)
	w.takes("another request", 1, w.request(ask(2, 1)))
	w.rings(1, 7, 3)
	w.rings(1, 20, 4)
	w.rings(1, 20, 5)
}

// P33.2
func TestClockRuns(t *testing.T) {
	w := made(t, 4)
	w.takes("a request", 1, w.request(ask(1, 1)))
	w.tick(1, 2)
	w.takes("a second request", 1, w.request(ask(2, 1)))
	w.rings(1, 1, 1)
	w = made(t, 4)
	w.ordered(ask(1, 1), ask(2, 1))
	for p := range 4 {
		if l := w.tick(p, 50); len(l) != 0 {
			t.Errorf("replica %d: all is done, but %+v was posted", p, l)
		}
	}
	w = made(t, 4)
	w.takes("a request", 0, w.request(ask(1, 1)))
	w.rings(0, 3, 1)
}

// P33.2: with each batch the clock is started anew, as long as something waits.
func TestClockAnew(t *testing.T) {
	w := made(t, 4)
	w.out[3] = true
	w.takes("a request that the others do not know", 2, w.request(ask(5, 1)))
	w.tick(2, 2)
	w.ordered(ask(1, 1))
	w.is(2, state{seq: 1, logged: 1, wait: 1})
	w.rings(2, 3, 1)
}

// P33.2: with the first batch of a view the timeout is what it was at first.
func TestClockReset(t *testing.T) {
	w := made(t, 4)
	w.out[0] = true
	m := w.request(ask(1, 1))
	for p := 1; p < 4; p++ {
		w.takes("a request", p, m)
	}
	for p := 1; p < 4; p++ {
		w.rings(p, 3, 1)
	}
	w.settle()
	w.agree(1)
	for p := 1; p < 4; p++ {
		w.is(p, state{view: 1, seq: 1, logged: 1})
		w.posts("ticks without anything to do", w.tick(p, 50))
	}
	w.takes("a request", 2, w.request(ask(2, 1)))
	w.rings(2, 3, 2)
	w.rings(2, 6, 3)
}

// P33.2: the way of a change of view.
func TestChangeOfView(t *testing.T) {
	w := made(t, 4)
	w.out[0] = true
	x := ask(1, 1)
	for p := 1; p < 4; p++ {
		w.takes("a request", p, w.request(x))
	}
	two, three := w.tick(2, 3), w.tick(3, 3)
	w.posts("the first who changes", w.takes("a change", 1, three[0].M))
	w.is(1, state{wait: 1})
	l := w.takes("a change", 1, two[0].M)
	one := api.Change{From: 1, View: 1}
	begin := api.Msg{Kind: newView, From: 1, View: 1, Changes: []api.Change{one, two[0].M.Changes[0], three[0].M.Changes[0]}}
	proposal := w.proposal(1, 1, 1, x)
	w.posts("the second who changes", l, all(changeMsg(one)), all(begin), all(proposal))
	w.is(1, state{view: 1, wait: 1})
	if s, _ := view.NewStmt(w.table, begin); !w.ring.Has(s) {
		t.Error("the new view was not said")
	}
	w.posts("the new view", w.takes("a new view", 2, begin))
	w.is(2, state{view: 1, wait: 1})
	w.drops("the new view again", 2, begin)
	w.drops("a change to a view that has begun", 2, changeMsg(one))
	w.drops("the new view, at its primary", 1, begin)
	w.drops("a proposal of the old view", 2, w.say(w.proposal(0, 0, 1, x)))
	w.drops("a proposal, while changing", 3, proposal)
	w.drops("a vote, while changing", 3, w.vote(prepare, 2, 1, 1, proposal.Term))
	w.posts("a proposal", w.takes("a proposal", 2, proposal), all(api.Msg{Kind: prepare, From: 2, View: 1, Seq: 1, Term: proposal.Term}))
	w.settle()
	w.agree(1)
	for p := 1; p < 4; p++ {
		w.is(p, state{view: 1, seq: 1, logged: 1})
	}
	w.ordered(ask(2, 1), ask(3, 1), ask(4, 1))
	w.agree(4)
	for p := 1; p < 4; p++ {
		w.is(p, state{view: 1, seq: 4, logged: 4, low: 4})
	}
}

// P33.2: what was prepared by enough replicas keeps its number.
func TestTakeOver(t *testing.T) {
	w := made(t, 4)
	x, y := ask(1, 1), ask(2, 1)
	for _, m := range []api.Msg{w.request(x), w.request(y)} {
		for p := range 4 {
			w.takes("a request", p, m)
		}
	}
	w.settleOnly(prePrepare, prepare)
	for p := range 4 {
		w.is(p, state{wait: 2})
	}
	w.out[0] = true
	for p := 1; p < 4; p++ {
		w.tick(p, 3)
	}
	for _, post := range w.way {
		c := post.M.Changes[0]
		if len(c.Certs) != 2 || !view.Change(w.ring, w.table, c, 4) {
			t.Errorf("the change %+v", c)
			continue
		}
		for i, z := range []api.Txn{x, y} {
			want := w.proposal(0, 0, 1+i, z)
			if k := c.Certs[i]; k.Seq != 1+i || k.View != 0 || k.Term != want.Term || k.Body != want.Body {
				t.Errorf("the certificate %+v, want one of %+v", k, want)
			}
		}
	}
	first := len(w.sent)
	w.settle()
	// what waits still when the view begins is proposed in it, too; its second execution changes nothing
	again := w.proposal(1, 1, 3, x, y)
	w.agree(3)
	for p := 1; p < 4; p++ {
		w.is(p, state{view: 1, seq: 3, logged: 3})
		bodies := []string{w.proposal(0, 0, 1, x).Body, w.proposal(0, 0, 2, y).Body, again.Body}
		for i, d := range w.r[p].Log() {
			if d != (api.Done{Seq: 1 + i, Body: bodies[i]}) {
				t.Errorf("replica %d: the log has %v", p, d)
			}
		}
		if w.r[p].Store().Ver != 2 {
			t.Errorf("replica %d has the version %d", p, w.r[p].Store().Ver)
		}
	}
	for _, post := range w.sent[first:] {
		if post.M.Kind == prePrepare && !wire.Same(post.M, again) {
			t.Errorf("the new primary has posted %+v", post)
		}
	}
	for p := range 4 {
		for seq := 1; seq <= 2; seq++ {
			s := api.Stmt{From: p, Kind: prePrepare, View: 1, Seq: seq, Term: w.proposal(0, 0, seq, []api.Txn{x, y}[seq-1]).Term}
			if w.ring.Has(s) != (p == 1) {
				t.Errorf("%v was said: %v", s, p != 1)
			}
			s.Kind = prepare
			if w.ring.Has(s) != (p > 1) {
				t.Errorf("%v was said: %v", s, p <= 1)
			}
		}
	}
}

// P33.2: between numbers that are taken over, those of which nothing was prepared are left empty.
func TestNull(t *testing.T) {
	w := made(t, 4)
	x, y := ask(1, 1), ask(2, 1)
	for _, m := range []api.Msg{w.request(x), w.request(y)} {
		for p := range 4 {
			w.takes("a request", p, m)
		}
	}
	w.way = slices.DeleteFunc(w.way, func(p api.Post) bool { return p.M.Seq == 1 })
	w.settleOnly(prePrepare, prepare)
	w.out[0] = true
	for p := 1; p < 4; p++ {
		w.tick(p, 3)
	}
	w.settle()
	w.agree(3)
	bodies := []string{"\x00", w.proposal(0, 0, 2, y).Body, w.proposal(1, 1, 3, x, y).Body}
	for p := 1; p < 4; p++ {
		w.is(p, state{view: 1, seq: 3, logged: 3})
		for i, d := range w.r[p].Log() {
			if d != (api.Done{Seq: 1 + i, Body: bodies[i]}) {
				t.Errorf("replica %d: the log has %v", p, d)
			}
		}
	}
}

// P33.2: the primary of a view cannot propose at a number that the view has taken over.
func TestTaken(t *testing.T) {
	w := made(t, 4, 1)
	x, y := ask(1, 1), ask(2, 1)
	for _, m := range []api.Msg{w.request(x), w.request(y)} {
		for p := range 4 {
			w.takes("a request", p, m)
		}
	}
	w.way = slices.DeleteFunc(w.way, func(p api.Post) bool { return p.M.Seq == 1 })
	w.out[1] = true
	w.settleOnly(prePrepare, prepare)
	var l []api.Change
	for _, p := range []int{0, 2, 3} {
		l = append(l, w.tick(p, 3)[0].M.Changes...)
	}
	w.takes("a new view without the statements of its primary", 2, w.newView(1, 1, l...))
	w.is(2, state{view: 1, wait: 2})
	w.drops("a proposal at 1", 2, w.say(w.proposal(1, 1, 1, x)))
	w.drops("a proposal at 2", 2, w.say(w.proposal(1, 1, 2, y)))
	w.posts("a proposal at 3", w.takes("a proposal", 2, w.say(w.proposal(1, 1, 3, x))), all(w.vote(prepare, 2, 1, 3, w.proposal(1, 1, 3, x).Term)))
	w.say(api.Msg{Kind: prePrepare, From: 1, View: 1, Seq: 2, Term: w.proposal(1, 1, 2, y).Term})
	got := w.takes("the new view after one statement", 3, w.newView(1, 1, l...))
	w.posts("the new view after one statement", got, all(api.Msg{Kind: prepare, From: 3, View: 1, Seq: 2, Term: w.proposal(1, 1, 2, y).Term}))
	w.drops("a proposal at 2", 3, w.proposal(1, 1, 2, y))
}

// P33.2: a replica joins as soon as enough others call, at the least view that they call for.
func TestCalled(t *testing.T) {
	w := made(t, 4)
	w.posts("a call for view 5", w.takes("a change", 3, w.announced(api.Change{From: 2, View: 5})))
	w.is(3, state{})
	l := w.takes("a call for view 2", 3, w.announced(api.Change{From: 1, View: 2}))
	w.posts("a call for view 2", l, all(changeMsg(api.Change{From: 3, View: 2})))
	w.is(3, state{view: 2, changing: true})
	w.posts("one call for a later view", w.takes("a change", 3, w.announced(api.Change{From: 1, View: 3})), all(changeMsg(api.Change{From: 3, View: 3})))
	w.is(3, state{view: 3, changing: true})
	w.posts("the other one comes along", w.takes("a change", 3, w.announced(api.Change{From: 0, View: 3})), all(api.Msg{Kind: newView, From: 3, View: 3, Changes: []api.Change{{From: 0, View: 3}, {From: 1, View: 3}, {From: 3, View: 3}}}))
	w.is(3, state{view: 3})

	w = made(t, 7)
	for _, from := range []int{1, 4} {
		w.posts("too few calls", w.takes("a change", 6, w.announced(api.Change{From: from, View: 10 + from})))
	}
	w.posts("enough calls", w.takes("a change", 6, w.announced(api.Change{From: 2, View: 12})), all(changeMsg(api.Change{From: 6, View: 11})))
	w.is(6, state{view: 11, changing: true})
}

// P33.2: a replica that changes for itself does not count itself among the others.
func TestOwnCall(t *testing.T) {
	w := made(t, 4)
	w.takes("a request", 3, w.request(ask(1, 1)))
	w.rings(3, 3, 1)
	w.posts("one other", w.takes("a change", 3, w.announced(api.Change{From: 2, View: 2})))
	w.is(3, state{view: 1, changing: true, wait: 1})
	w.posts("two others", w.takes("a change", 3, w.announced(api.Change{From: 1, View: 7})), all(changeMsg(api.Change{From: 3, View: 2})))
}

// P33.2
func TestChangeDrops(t *testing.T) {
	w := made(t, 4)
	good := w.announced(api.Change{From: 2, View: 3})
	other := w.announced(api.Change{From: 1, View: 3})
	said := func(f func(*api.Msg)) api.Msg {
		m := good
		m.Changes = slices.Clone(good.Changes)
		f(&m)
		return m
	}
	for what, m := range map[string]api.Msg{
		"no change":               said(func(m *api.Msg) { m.Changes = nil }),
		"two changes":             said(func(m *api.Msg) { m.Changes = append(m.Changes, other.Changes...) }),
		"what was not said":       said(func(m *api.Msg) { m.View, m.Changes[0].View = 4, 4 }),
		"a change of another one": said(func(m *api.Msg) { m.From = 1 }),
		"from a client":           said(func(m *api.Msg) { m.From = 5 }),
		"another view":            said(func(m *api.Msg) { m.View = 4 }),
		"its own":                 w.announced(api.Change{From: 3, View: 1}),
		"a view that is now":      changeMsg(api.Change{From: 2, View: 0}),
	} {
		w.drops(what, 3, m)
	}
	w.posts("a good change", w.takes("a change", 3, good))
	w.drops("the change again", 3, good)
	w.drops("a change to an earlier view", 3, w.announced(api.Change{From: 2, View: 2}))
	w.takes("a change to a later view", 3, w.announced(api.Change{From: 2, View: 4}))
	w.takes("a new view", 3, w.newView(2, 2, w.announced(api.Change{From: 0, View: 2}).Changes[0], w.announced(api.Change{From: 1, View: 2}).Changes[0], api.Change{From: 2, View: 2}))
	w.is(3, state{view: 2})
	w.drops("a change to the view that is now", 3, w.announced(api.Change{From: 1, View: 2}))
	w.drops("a change to an earlier view", 3, w.announced(api.Change{From: 1, View: 1}))
	w.takes("a change to a later view", 3, w.announced(api.Change{From: 1, View: 3}))
}

// P33.2: of two changes the first condition that fails leaves the second one without a term.
func TestChangeTerms(t *testing.T) {
	w := made(t, 4)
	c := api.Change{From: 2, View: 3, Certs: []api.Cert{{Seq: 1, Body: "x"}}}
	w.drops("two changes", 3, api.Msg{Kind: changeKind, From: 2, View: 3, Changes: []api.Change{c, c}})
	if w.table.Count() != 0 {
		t.Error("two changes were given a term")
	}
	w.drops("a change that does not hold", 3, changeMsg(c))
	if n, ok := w.table.Has("x"); n != 1 || !ok {
		t.Error("the body of a change was given no term")
	}
}

// P33.2
func TestNewViewDrops(t *testing.T) {
	w := made(t, 4)
	l := func(v int) []api.Change {
		var out []api.Change
		for _, p := range []int{0, 2, 3} {
			out = append(out, w.announced(api.Change{From: p, View: v}).Changes...)
		}
		return out
	}
	five := w.newView(1, 5, l(5)...)
	unsaid := api.Msg{Kind: newView, From: 2, View: 6, Changes: l(6)}
	for what, m := range map[string]api.Msg{
		"what was not said":    unsaid,
		"not from the primary": w.newView(0, 5, l(5)...),
		"too few changes":      w.newView(1, 5, l(5)[:2]...),
		"no changes":           w.newView(1, 5),
		"changes of another":   w.newView(1, 9, l(5)...),
		"its own":              w.newView(3, 3, l(3)...),
	} {
		w.drops(what, 3, m)
	}
	w.takes("a request", 3, w.request(ask(1, 1)))
	w.posts("a good new view", w.takes("a new view", 3, five))
	w.is(3, state{view: 5, wait: 1})
	w.drops("the new view again", 3, five)
	w.drops("an earlier new view", 3, w.newView(0, 4, l(4)...))
	w.rings(3, 3, 6)
	w.drops("the new view before", 3, five)
	w.posts("the new view to which it changes", w.takes("a new view", 3, w.newView(2, 6, l(6)...)))
	w.is(3, state{view: 6, wait: 1})
	w.rings(3, 6, 7)
	w.takes("a later new view", 3, w.newView(0, 8, l(8)...))
	w.is(3, state{view: 8, wait: 1})
}

// P33.2: all proposals of a new view begin behind what it takes over, with what was proposed before as well.
func TestProposeAnew(t *testing.T) {
	w := made(t, 4)
	w.out[0] = true
	var asked []api.Txn
	for c := range 6 {
		asked = append(asked, ask(c, 1))
		m := w.request(asked[c])
		for p := 1; p < 4; p++ {
			w.takes("a request", p, m)
		}
	}
	w.tick(2, 3)
	w.tick(3, 3)
	w.way = nil
	first := len(w.sent)
	w.tick(1, 3)
	w.takes("a change", 1, w.sent[0].M)
	w.takes("a change", 1, w.sent[1].M)
	got := w.sent[first:]
	if !slices.Equal(kinds(got), []int{changeKind, newView, prePrepare, prePrepare}) {
		t.Fatalf("posted %v", kinds(got))
	}
	w.posts("the proposals", got[2:], all(w.proposal(1, 1, 1, asked[:4]...)), all(w.proposal(1, 1, 2, asked[4:]...)))
	w.settle()
	w.agree(2)
}

// P33.2: a replica with a later view's certificate keeps it, and the later one is chosen.
func TestLaterCertificate(t *testing.T) {
	w := made(t, 4)
	x := ask(1, 1)
	m := w.request(x)
	for p := range 4 {
		w.takes("a request", p, m)
	}
	w.settleOnly(prePrepare, prepare)
	for p := range 4 {
		w.tick(p, 3)
	}
	w.settleOnly(changeKind, newView, prepare)
	for p := range 4 {
		w.is(p, state{view: 1, wait: 1})
	}
	for p := range 4 {
		w.tick(p, 6)
	}
	for _, post := range w.way {
		if post.M.Kind != changeKind || post.M.View != 2 {
			continue
		}
		c := post.M.Changes[0]
		if len(c.Certs) != 1 || c.Certs[0].View != 1 || !view.Change(w.ring, w.table, c, 4) {
			t.Errorf("the change %+v", c)
		}
	}
	w.settle()
	w.agree(2)
	for p := range 4 {
		w.is(p, state{view: 2, seq: 2, logged: 2})
		if w.r[p].Store().Ver != 1 {
			t.Errorf("replica %d has the version %d", p, w.r[p].Store().Ver)
		}
	}
}

// P33.2: the messages of a replica are such that others take them.
func TestPostsAreValid(t *testing.T) {
	w := made(t, 7)
	w.out[0] = true
	for i := range 12 {
		m := w.request(ask(i%4, 1+i/4))
		for p := 1; p < 7; p++ {
			w.takes("a request", p, m)
		}
	}
	for p := 1; p < 7; p++ {
		w.tick(p, 3)
	}
	w.settle()
	w.agree(1)
	for _, x := range w.sent {
		if x.M.Kind == reply || x.To == api.ToAll {
			continue
		}
		t.Errorf("posted to %d: %+v", x.To, x.M)
	}
	for _, x := range w.sent {
		if b := wire.Encode(x.M); len(b) == 0 {
			t.Errorf("%+v cannot be encoded", x.M)
		}
	}
}
