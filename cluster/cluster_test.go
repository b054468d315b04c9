package cluster_test

import (
	"fmt"
	"math"
	"slices"
	"testing"

	"plenum/api"
	"plenum/cluster"
	"plenum/store"
	"plenum/wire"
)

// put is a transaction's source and its declared access.
var put = api.Event{W: api.Want{Writes: []string{"a"}}, Source: `put "a", 1; return "done";`, Gas: 9}

func empty(t *testing.T) api.Store {
	t.Helper()
	s, e := store.New(9999, 99)
	if e != api.OK {
		t.Fatal(e)
	}
	return s
}

func made(t *testing.T, n, clients int, bad ...int) *cluster.Cluster {
	t.Helper()
	c, e := cluster.New(n, clients, empty(t), bad, 3, 20)
	if e != api.OK || c == nil {
		t.Fatal(e)
	}
	return c
}

// do lets events happen, of which none may be refused.
func do(t *testing.T, c *cluster.Cluster, l ...api.Event) {
	t.Helper()
	for _, x := range l {
		if e := c.Do(x); e != api.OK {
			t.Fatalf("Do(%+v) = %d", x, e)
		}
	}
}

// ask is the event in which a client asks for put.
func ask(client int) api.Event {
	x := put
	x.Do, x.P = api.EvAsk, client
	return x
}

func tick(p int) api.Event   { return api.Event{Do: api.EvTick, P: p} }
func ring(k int) api.Event   { return api.Event{Do: api.EvRing, P: k} }
func arrive(k int) api.Event { return api.Event{Do: api.EvArrive, K: k} }

var settle = api.Event{Do: api.EvSettle}

// waiting is how many transactions wait at each replica; -1 at a bad one.
func waiting(c *cluster.Cluster, n int) []int {
	var l []int
	for p := range n {
		if r, ok := c.Replica(p); ok {
			l = append(l, r.Waiting())
		} else {
			l = append(l, -1)
		}
	}
	return l
}

// drops is how many messages each replica has dropped; -1 for a bad one.
func drops(c *cluster.Cluster, n int) []int {
	var l []int
	for p := range n {
		if r, ok := c.Replica(p); ok {
			l = append(l, r.Drops())
		} else {
			l = append(l, -1)
		}
	}
	return l
}

// told is all that can be seen of a cluster.
func told(c *cluster.Cluster, n, clients int) string {
	s := fmt.Sprint(len(c.Kept()), c.Taken())
	for p := range n {
		if r, ok := c.Replica(p); ok {
			v, changing := r.View()
			s += fmt.Sprint(v, changing, r.Seq(), r.Store(), r.Replies(), r.Log(), r.Marks(), r.Drops(), r.Waiting())
		}
	}
	for k := range clients {
		x, _ := c.Client(k)
		r, ok := x.Result()
		s += fmt.Sprint(x.Time(), x.Waits(), x.Voices(), r, ok)
	}
	return s
}

// P35.1
func TestNew(t *testing.T) {
	s := empty(t)
	wrong := s
	wrong.Ver = -1
	for _, x := range []struct {
		n, clients int
		s          api.Store
		bad        []int
		base, most int
	}{
		{0, 1, s, nil, 1, 1}, {5, 1, s, nil, 1, 1}, {-4, 1, s, nil, 1, 1}, {17, 1, s, nil, 1, 1}, {math.MaxInt, 1, s, nil, 1, 1},
		{4, 0, s, nil, 1, 1}, {4, 17, s, nil, 1, 1}, {4, -1, s, nil, 1, 1}, {4, math.MaxInt, s, nil, 1, 1}, {4, math.MinInt, s, nil, 1, 1},
		{4, 1, wrong, nil, 1, 1}, {4, 1, s, []int{4}, 1, 1}, {4, 1, s, []int{-1}, 1, 1}, {4, 1, s, []int{0, 5}, 1, 1}, {4, 1, s, []int{math.MaxInt}, 1, 1},
		{4, 1, s, nil, 0, 1}, {4, 1, s, nil, 2, 1}, {4, 1, s, nil, 1, api.MaxWait + 1},
	} {
		if c, e := cluster.New(x.n, x.clients, x.s, x.bad, x.base, x.most); c != nil || e != api.ErrArg {
			t.Errorf("New(%d, %d, %v, %d, %d) = %v, %d", x.n, x.clients, x.bad, x.base, x.most, c, e)
		}
	}
	s, _, _ = store.Take(s, []api.Edit{{Key: "a", Val: api.Value{Kind: 2, I: 7}}})
	c, e := cluster.New(16, 16, s, []int{3, 0, 3}, 1, 1)
	if e != api.OK {
		t.Fatal(e)
	}
	for p := -1; p < 33; p++ {
		r, ok := c.Replica(p)
		if want := p >= 0 && p < 16 && p != 0 && p != 3; ok != want || (r != nil) != want {
			t.Errorf("Replica(%d) = %v, %v", p, r, ok)
		} else if ok && (r.Seq() != 0 || !store.Same(r.Store(), s)) {
			t.Errorf("replica %d has %v", p, r.Store())
		}
		k, ok := c.Client(p)
		if want := p >= 0 && p < 16; ok != want || (k != nil) != want {
			t.Errorf("Client(%d) = %v, %v", p, k, ok)
		} else if ok && (k.Time() != 0 || k.Waits()) {
			t.Errorf("client %d has asked", p)
		}
		got, replies, ok := c.Model(p)
		if want := p >= 0 && p < 16 && p != 0 && p != 3; ok != want || len(replies) != 0 || want && !store.Same(got, s) || !want && !store.Same(got, api.Store{}) {
			t.Errorf("Model(%d) = %v, %v, %v", p, got, replies, ok)
		}
	}
	for _, p := range []int{math.MaxInt, math.MinInt} {
		if _, ok := c.Replica(p); ok {
			t.Errorf("Replica(%d)", p)
		}
		if _, ok := c.Client(p); ok {
			t.Errorf("Client(%d)", p)
		}
		if _, _, ok := c.Model(p); ok {
			t.Errorf("Model(%d)", p)
		}
	}
	if len(c.Kept()) != 0 || len(c.Taken()) != 0 || c.Said(api.Stmt{}) {
		t.Error("in a new cluster something has happened")
	}
}

// R3: the cluster keeps the store that it was given, whatever happens to the argument.
func TestNewCopies(t *testing.T) {
	s, _, _ := store.Take(empty(t), []api.Edit{{Key: "a", Val: api.Value{Kind: 2, I: 7}}})
	c, _ := cluster.New(4, 1, s, []int{0}, 1, 1)
	s.T.Leaves[1][0].Val.I = 8
	m, _, ok := c.Model(1)
	r, _ := c.Replica(1)
	for _, x := range []api.Store{m, r.Store()} {
		if v, _, e := store.Get(x, "a"); v.I != 7 || e != api.OK || !ok {
			t.Errorf("the cluster has %v, %d", v, e)
		}
	}
}

// P35.2
func TestRefused(t *testing.T) {
	c := made(t, 4, 2, 1)
	do(t, c, ask(0))
	before := told(c, 4, 2)
	refused := func(x api.Event, want api.Errno) {
		t.Helper()
		if e := c.Do(x); e != want {
			t.Errorf("Do(%+v) = %d, want %d", x, e, want)
		}
		if told(c, 4, 2) != before {
			t.Fatalf("Do(%+v) has changed something", x)
		}
	}
	for _, n := range []int{-1, 8, math.MaxInt, math.MinInt} {
		refused(api.Event{Do: n}, api.ErrArg)
		refused(api.Event{Do: n, P: 99, K: 99}, api.ErrArg)
	}
	for _, p := range []int{-1, 4, 5, math.MaxInt, math.MinInt} {
		for _, what := range []int{api.EvStray, api.EvTick, api.EvSay, api.EvForge} {
			refused(api.Event{Do: what, P: p}, api.ErrRange)
		}
	}
	for _, p := range []int{-1, 2, 3, math.MaxInt, math.MinInt} {
		refused(ask(p), api.ErrRange)
		refused(ring(p), api.ErrRange)
	}
	for _, k := range []int{-1, 4, 5, math.MaxInt, math.MinInt} {
		refused(arrive(k), api.ErrRange)
		refused(api.Event{Do: api.EvStray, P: 0, K: k}, api.ErrRange)
		refused(api.Event{Do: api.EvStray, P: 1, K: k}, api.ErrRange)
	}
	for _, what := range []int{api.EvStray, api.EvTick, api.EvForge} {
		refused(api.Event{Do: what, P: 1}, api.ErrForged)
	}
	for _, p := range []int{0, 2, 3} {
		refused(api.Event{Do: api.EvSay, P: p, S: api.Stmt{From: p}}, api.ErrForged)
	}
	for _, from := range []int{0, 2, 4, 5, -1, 99} {
		refused(api.Event{Do: api.EvSay, P: 1, S: api.Stmt{From: from}}, api.ErrForged)
		if c.Said(api.Stmt{From: from}) {
			t.Errorf("a statement of %d was recorded", from)
		}
	}
	refused(ask(0), api.ErrBusy)
	wrong := ask(1)
	wrong.Source = "?"
	refused(wrong, api.ErrArg)
	wrong = ask(1)
	wrong.Gas = -1
	refused(wrong, api.ErrArg)
}

// P35.2
func TestSay(t *testing.T) {
	c := made(t, 7, 1, 1, 5)
	s := api.Stmt{From: 1, Kind: 3, View: 1, Seq: 2, Term: 3}
	do(t, c, api.Event{Do: api.EvSay, P: 1, S: s})
	if !c.Said(s) || c.Said(api.Stmt{From: 5, Kind: 3, View: 1, Seq: 2, Term: 3}) {
		t.Error("what 1 has said")
	}
	s.From = 5
	do(t, c, api.Event{Do: api.EvSay, P: 1, S: s})
	if !c.Said(s) || len(c.Kept()) != 0 {
		t.Error("what 1 has said for 5")
	}
	for i := 0; c.Do(api.Event{Do: api.EvSay, P: 1, S: api.Stmt{From: 1, Seq: i}}) == api.OK; i++ {
	}
	if e := c.Do(api.Event{Do: api.EvSay, P: 1, S: api.Stmt{From: 1, Seq: -1}}); e != api.ErrFull {
		t.Errorf("Do in a full ring = %d", e)
	}
	if e := c.Do(ask(0)); e != api.ErrFull {
		t.Errorf("to ask in a full ring = %d", e)
	}
}

// P35.2
func TestArrive(t *testing.T) {
	c := made(t, 4, 2, 2)
	do(t, c, ask(1))
	kept := c.Kept()
	if len(kept) != 4 || kept[0].To != 0 || kept[3].To != 3 || kept[3].M.Kind != 1 || kept[3].M.From != 5 {
		t.Fatalf("kept %+v", kept)
	}
	do(t, c, arrive(3))
	if got := waiting(c, 4); !slices.Equal(got, []int{0, 0, -1, 1}) {
		t.Errorf("after the request to 3: %v", got)
	}
	do(t, c, arrive(2))
	if got := waiting(c, 4); !slices.Equal(got, []int{0, 0, -1, 1}) {
		t.Errorf("after the request to 2, who is bad: %v", got)
	}
	do(t, c, arrive(0))
	kept = c.Kept()
	if len(kept) != 5 || kept[4].To != api.ToAll || kept[4].M.Kind != 2 {
		t.Fatalf("kept %+v", kept)
	}
	do(t, c, arrive(4))
	kept = c.Kept()
	if len(kept) != 7 || kept[5].M.Kind != 3 || kept[5].M.From != 1 || kept[6].M.From != 3 {
		t.Errorf("after the proposal: kept %+v", kept)
	}
	do(t, c, arrive(4))
	if got := drops(c, 4); !slices.Equal(got, []int{0, 1, -1, 1}) || len(c.Kept()) != 7 {
		t.Errorf("after the proposal again: %v", got)
	}
	do(t, c, arrive(5), arrive(6))
	if got := drops(c, 4); !slices.Equal(got, []int{0, 1, -1, 1}) {
		t.Errorf("after two votes: %v", got)
	}
	do(t, c, settle)
	if got := drops(c, 4); !slices.Equal(got, []int{0, 1, -1, 1}) {
		t.Errorf("after the rest: %v", got)
	}
	if l := c.Taken(); len(l) != 1 || l[0].Client != 1 || l[0].Time != 1 || l[0].R.Val.S != "done" {
		t.Errorf("taken %+v", l)
	}
	x, _ := c.Client(1)
	if r, ok := x.Result(); !ok || r != c.Taken()[0].R || x.Waits() {
		t.Errorf("the client has %v, %v", r, ok)
	}
}

// P35.2
func TestStray(t *testing.T) {
	c := made(t, 4, 1)
	do(t, c, ask(0), api.Event{Do: api.EvStray, P: 3, K: 0})
	if got := waiting(c, 4); !slices.Equal(got, []int{0, 0, 0, 1}) {
		t.Errorf("after a stray request: %v", got)
	}
	do(t, c, arrive(0))
	proposal := api.Event{Do: api.EvStray, P: 0, K: 4}
	do(t, c, proposal)
	if got := drops(c, 4); !slices.Equal(got, []int{1, 0, 0, 0}) {
		t.Errorf("a proposal that comes back to its primary: %v", got)
	}
	do(t, c, settle)
	if got := drops(c, 4); !slices.Equal(got, []int{1, 0, 0, 0}) || len(c.Taken()) != 1 {
		t.Errorf("a stray post did not arrive afterwards: %v, %v", got, c.Taken())
	}
}

// P35.2
func TestForge(t *testing.T) {
	c := made(t, 4, 1, 0)
	do(t, c, ask(0))
	request := c.Kept()[0].M
	m := api.Msg{Kind: 3, From: 0, Seq: 1, Term: 5}
	do(t, c, api.Event{Do: api.EvForge, P: 1, M: m})
	if got := drops(c, 4); !slices.Equal(got, []int{-1, 1, 0, 0}) {
		t.Errorf("what was not said: %v", got)
	}
	do(t, c, api.Event{Do: api.EvSay, P: 0, S: api.Stmt{Kind: 3, Seq: 1, Term: 5}}, api.Event{Do: api.EvForge, P: 1, M: m})
	if got := drops(c, 4); !slices.Equal(got, []int{-1, 1, 0, 0}) {
		t.Errorf("what was said: %v", got)
	}
	do(t, c, api.Event{Do: api.EvForge, P: 2, M: request})
	if got := waiting(c, 4); !slices.Equal(got, []int{-1, 0, 1, 0}) {
		t.Errorf("a request: %v", got)
	}
	if len(c.Kept()) != 4 {
		t.Errorf("kept %v", c.Kept())
	}
}

// P35.2
func TestTicks(t *testing.T) {
	c := made(t, 4, 1)
	do(t, c, ask(0))
	for k := range 4 {
		do(t, c, api.Event{Do: api.EvStray, P: 1, K: k})
	}
	do(t, c, tick(1), tick(1), ring(0), ring(0))
	if len(c.Kept()) != 4 {
		t.Fatalf("kept %v", c.Kept())
	}
	do(t, c, tick(1))
	kept := c.Kept()
	if len(kept) != 5 || kept[4].M.Kind != 6 || kept[4].M.From != 1 || kept[4].To != api.ToAll {
		t.Fatalf("kept %+v", kept)
	}
	do(t, c, ring(0))
	kept = c.Kept()
	if len(kept) != 9 || kept[5].To != 0 || kept[8].To != 3 || !wire.Same(kept[8].M, kept[3].M) {
		t.Fatalf("kept %+v", kept)
	}
}

// P35.2: what has arrived by itself does not arrive again when all settles.
func TestSettle(t *testing.T) {
	c := made(t, 4, 1)
	do(t, c, settle)
	do(t, c, ask(0), settle)
	if got := drops(c, 4); !slices.Equal(got, []int{0, 0, 0, 0}) || len(c.Taken()) != 1 {
		t.Errorf("%v, taken %v", got, c.Taken())
	}
	n := len(c.Kept())
	before := told(c, 4, 1)
	do(t, c, settle, settle)
	if told(c, 4, 1) != before {
		t.Error("what has settled has changed")
	}
	do(t, c, arrive(4))
	if got := drops(c, 4); !slices.Equal(got, []int{0, 1, 1, 1}) || len(c.Kept()) != n {
		t.Errorf("what has arrived can arrive again: %v", got)
	}
	for _, x := range c.Kept() {
		if x.To == 4 && x.M.Kind != 8 || x.To > 4 {
			t.Errorf("kept %+v", x)
		}
	}
}

// P35.2, P29.4: the certificate in a change has the voice of the primary of its view first, then those of the others.
func TestCertificate(t *testing.T) {
	c, _ := cluster.New(4, 2, empty(t), nil, 1, 1)
	plain := func(client int) api.Event { return api.Event{Do: api.EvAsk, P: client} }
	do(t, c, plain(1), plain(0), arrive(6), tick(2), arrive(1), tick(1), tick(1), tick(2), settle, plain(0), arrive(38), tick(3))
	voice := func(from, kind int) api.Stmt {
		return api.Stmt{From: from, Kind: kind, View: 2, Seq: 1, Term: 12}
	}
	kept := c.Kept()
	m := kept[len(kept)-1].M
	if m.Kind != 6 || m.From != 3 || m.View != 3 || len(m.Changes) != 1 || len(m.Changes[0].Certs) != 1 {
		t.Fatalf("posted %+v", m)
	}
	k := m.Changes[0].Certs[0]
	if k.Seq != 1 || k.View != 2 || k.Term != 12 || !slices.Equal(k.Voices, []api.Stmt{voice(2, 2), voice(0, 3), voice(3, 3)}) {
		t.Errorf("the certificate %+v", k)
	}
}

// P35.1, P35.2: posts beyond MaxKept are lost.
func TestMaxKept(t *testing.T) {
	c, _ := cluster.New(4, 2, empty(t), nil, 1, 1)
	do(t, c, ask(0))
	for range 4094 {
		do(t, c, ring(0))
	}
	if n := len(c.Kept()); n != 16380 {
		t.Fatalf("%d are kept", n)
	}
	do(t, c, api.Event{Do: api.EvStray, P: 1, K: 0}, tick(1), tick(1))
	if n := len(c.Kept()); n != 16382 {
		t.Fatalf("%d are kept", n)
	}
	do(t, c, ring(0))
	if l := c.Kept(); len(l) != 16384 || l[16383].To != 1 {
		t.Fatalf("%d are kept", len(l))
	}
	do(t, c, ring(0), ask(1), tick(1), tick(1))
	if n := len(c.Kept()); n != 16384 {
		t.Errorf("%d are kept", n)
	}
	if e := c.Do(arrive(16384)); e != api.ErrRange {
		t.Errorf("a post that was lost: %d", e)
	}
	do(t, c, arrive(16383), settle)
	if n := len(c.Kept()); n != 16384 || len(c.Taken()) != 0 {
		t.Errorf("%d are kept, taken %v", n, c.Taken())
	}
}

// P35.3
func TestModel(t *testing.T) {
	c := made(t, 4, 2)
	for i := range 5 {
		x := ask(i % 2)
		x.Source = fmt.Sprintf(`put "a", %d; return %d;`, i, i)
		do(t, c, x, settle)
	}
	for p := range 4 {
		r, _ := c.Replica(p)
		s, l, ok := c.Model(p)
		if !ok || r.Seq() != 5 || !store.Same(s, r.Store()) || !slices.Equal(l, r.Replies()) || len(l) != 2 || s.Ver != 5 {
			t.Errorf("Model(%d) = %v, %v, %v", p, s, l, ok)
		}
	}
}

// P35.3: a replica that took over a state has no model.
func TestNoModel(t *testing.T) {
	c := made(t, 4, 1)
	handed := map[[2]int]bool{}
	for range 4 {
		do(t, c, ask(0))
		for k := 0; k < len(c.Kept()); k++ {
			x := c.Kept()[k]
			for p := range 3 {
				if (x.To == p || x.To == api.ToAll && x.M.From != p) && !handed[[2]int{k, p}] {
					handed[[2]int{k, p}] = true
					do(t, c, api.Event{Do: api.EvStray, P: p, K: k})
				}
			}
			if x.To == 4 && !handed[[2]int{k, 4}] {
				handed[[2]int{k, 4}] = true
				do(t, c, arrive(k))
			}
		}
	}
	if len(c.Taken()) != 4 {
		t.Fatalf("taken %v", c.Taken())
	}
	if r, _ := c.Replica(3); r.Seq() != 0 {
		t.Fatal("replica 3 has executed something")
	}
	for k, x := range c.Kept() {
		if x.M.Kind == 5 {
			do(t, c, api.Event{Do: api.EvStray, P: 3, K: k})
		}
	}
	r, _ := c.Replica(3)
	s, l, ok := c.Model(3)
	if r.Seq() != 4 || ok || len(l) != 0 || !store.Same(s, api.Store{}) {
		t.Errorf("Model after %d batches = %v, %v, %v", r.Seq(), s, l, ok)
	}
	if _, _, ok := c.Model(0); !ok {
		t.Error("replica 0 has no model")
	}
	do(t, c, settle, ask(0), settle)
	if _, _, ok := c.Model(3); ok || r.Seq() != 5 || len(r.Log()) != 1 {
		t.Errorf("replica 3 has executed %d batches, %d of them itself", r.Seq(), len(r.Log()))
	}
}

// P35.4
func TestTaken(t *testing.T) {
	c := made(t, 4, 3)
	for _, k := range []int{2, 0, 2, 1} {
		do(t, c, ask(k), settle)
	}
	want := [][2]int{{2, 1}, {0, 1}, {2, 2}, {1, 1}}
	l := c.Taken()
	if len(l) != 4 {
		t.Fatalf("taken %v", l)
	}
	for i, x := range l {
		if x.Client != want[i][0] || x.Time != want[i][1] || x.R != (api.Result{Val: api.Value{Kind: 3, S: "done"}, Ver: 1 + i}) {
			t.Errorf("taken %v", x)
		}
	}
	clear(l)
	clear(c.Kept())
	if c.Taken()[0].Client != 2 || c.Kept()[0].M.Kind != 1 {
		t.Error("a result shares the cluster's memory")
	}
}

// The second example of the chapter, and the third of the whole.
func TestBadPrimary(t *testing.T) {
	c := made(t, 4, 1, 0)
	do(t, c, ask(0), settle)
	if len(c.Taken()) != 0 {
		t.Errorf("taken %v", c.Taken())
	}
	for range 3 {
		do(t, c, tick(1), tick(2), tick(3), settle)
	}
	if l := c.Taken(); len(l) != 1 || l[0].R.Val.S != "done" {
		t.Errorf("taken %v", l)
	}
	for p := 1; p < 4; p++ {
		r, _ := c.Replica(p)
		if v, changing := r.View(); v != 1 || changing || r.Seq() != 1 {
			t.Errorf("replica %d is in view %d, and has executed %d batches", p, v, r.Seq())
		}
	}
}
