package replica_test

import (
	"fmt"
	"slices"
	"testing"

	"plenum/api"
	"plenum/replica"
	"plenum/ring"
	"plenum/store"
	"plenum/term"
	"plenum/txn"
	"plenum/wire"
)

const (
	request, prePrepare, prepare, commit, checkpoint, changeKind, newView, reply = 1, 2, 3, 4, 5, 6, 7, 8

	base, most = 3, 20
)

// world is replicas with one ring and one table, and the posts that are under way.
type world struct {
	*testing.T
	n     int
	ring  *ring.Ring
	table *term.Table
	r     []*replica.Replica
	out   map[int]bool // replicas that nothing reaches
	way   []api.Post
	sent  []api.Post // all that was posted so far
}

// made returns a world of n replicas and 8 clients; those that are bad may speak for one another.
func made(t *testing.T, n int, bad ...int) *world {
	t.Helper()
	r, e := ring.New(n+8, bad)
	if e != api.OK {
		t.Fatal(e)
	}
	w := &world{T: t, n: n, ring: r, table: term.New(), out: map[int]bool{}}
	for p := range n {
		x, e := replica.New(p, n, empty(t), r, w.table, base, most)
		if e != api.OK || x == nil {
			t.Fatal(e)
		}
		w.r = append(w.r, x)
	}
	return w
}

func empty(t *testing.T) api.Store {
	t.Helper()
	s, e := store.New(9999, 99)
	if e != api.OK {
		t.Fatal(e)
	}
	return s
}

// of returns the term of s.
func (w *world) of(s string) int {
	w.Helper()
	n, e := w.table.Of(s)
	if e != api.OK {
		w.Fatal(e)
	}
	return n
}

// say records the statement of a message by whom it is from, and returns the message.
func (w *world) say(m api.Msg) api.Msg {
	w.Helper()
	if e := w.ring.Say(m.From, stmt(m)); e != api.OK {
		w.Fatalf("Say(%v): %d", stmt(m), e)
	}
	return m
}

func stmt(m api.Msg) api.Stmt {
	return api.Stmt{From: m.From, Kind: m.Kind, View: m.View, Seq: m.Seq, Term: m.Term}
}

// ask returns a transaction of a client that puts its time at a key of its own.
func ask(client, time int) api.Txn {
	k := fmt.Sprintf("k/%d", client)
	return api.Txn{Client: client, Time: time, W: api.Want{Writes: []string{k}}, Source: fmt.Sprintf("put %q, %d; return %d;", k, time, 100*client+time), Gas: 100}
}

// unsaid returns the request of a transaction, which its client did not make.
func (w *world) unsaid(t api.Txn) api.Msg {
	w.Helper()
	body := string(txn.Encode(t))
	if body == "" {
		w.Fatalf("%v cannot be encoded", t)
	}
	return api.Msg{Kind: request, From: w.n + t.Client, Seq: t.Time, Term: w.of(body), Body: body}
}

// request returns the request of a transaction.
func (w *world) request(t api.Txn) api.Msg {
	w.Helper()
	return w.say(w.unsaid(t))
}

// give hands a message to a replica, keeps what it posts, and returns that.
func (w *world) give(p int, m api.Msg) []api.Post {
	w.Helper()
	l := w.r[p].Handle(m)
	w.keep(l)
	return l
}

func (w *world) keep(l []api.Post) {
	w.Helper()
	w.way = append(w.way, l...)
	w.sent = append(w.sent, l...)
	for _, x := range l {
		if !wire.May(x.M) {
			w.Errorf("a message that is not valid was posted: %+v", x)
		}
	}
}

// tick lets n ticks of a replica pass.
func (w *world) tick(p, n int) []api.Post {
	w.Helper()
	var out []api.Post
	for range n {
		l := w.r[p].Tick()
		w.keep(l)
		out = append(out, l...)
	}
	return out
}

// settle lets all posts arrive, and those that they lead to.
func (w *world) settle() {
	w.Helper()
	for len(w.way) > 0 {
		x := w.way[0]
		w.way = w.way[1:]
		for p := range w.n {
			if (x.To == p || x.To == api.ToAll && p != x.M.From) && !w.out[p] && !w.out[x.M.From] {
				w.give(p, x.M)
			}
		}
	}
}

// ordered lets all replicas that are reached get a request, and all that it leads to arrive.
func (w *world) ordered(l ...api.Txn) {
	w.Helper()
	for _, t := range l {
		m := w.request(t)
		for p := range w.n {
			if !w.out[p] {
				w.give(p, m)
			}
		}
		w.settle()
	}
}

// samePosts reports whether two lists of posts are the same.
func samePosts(a, b []api.Post) bool {
	return slices.EqualFunc(a, b, func(x, y api.Post) bool { return x.To == y.To && wire.Same(x.M, y.M) })
}

// posts fails unless got are these posts.
func (w *world) posts(what string, got []api.Post, want ...api.Post) {
	w.Helper()
	if !samePosts(got, want) {
		w.Errorf("%s: posted %+v, want %+v", what, got, want)
	}
}

// all is a post to all other replicas.
func all(m api.Msg) api.Post { return api.Post{To: api.ToAll, M: m} }

// state is what a replica tells of itself.
type state struct {
	view              int
	changing          bool
	seq, wait, logged int
	low               int
}

// is fails unless a replica tells this.
func (w *world) is(p int, want state) {
	w.Helper()
	x := w.r[p]
	v, c := x.View()
	if got := (state{v, c, x.Seq(), x.Waiting(), len(x.Log()), x.Marks().Low}); got != want {
		w.Errorf("replica %d: %+v, want %+v", p, got, want)
	}
}

// drops fails unless a message is dropped by a replica, of which nothing else changes.
func (w *world) drops(what string, p int, m api.Msg) {
	w.Helper()
	before, drops := w.told(p), w.r[p].Drops()
	if l := w.give(p, m); len(l) != 0 {
		w.Errorf("%s: posted %+v", what, l)
	}
	if w.r[p].Drops() != drops+1 {
		w.Errorf("%s: %d messages were dropped, want %d", what, w.r[p].Drops(), drops+1)
	}
	if after := w.told(p); after != before {
		w.Errorf("%s: %s has become %s", what, before, after)
	}
}

// takes fails if a message is dropped.
func (w *world) takes(what string, p int, m api.Msg) []api.Post {
	w.Helper()
	drops := w.r[p].Drops()
	l := w.give(p, m)
	if w.r[p].Drops() != drops {
		w.Errorf("%s was dropped", what)
	}
	return l
}

// told is all that a replica tells of itself, but the number of dropped messages.
func (w *world) told(p int) string {
	x := w.r[p]
	v, c := x.View()
	return fmt.Sprint(v, c, x.Seq(), x.Store(), x.Replies(), x.Log(), x.Marks(), x.Waiting())
}

// value is what a replica has at a client's key.
func (w *world) value(p, client int) int64 {
	v, _, _ := store.Get(w.r[p].Store(), fmt.Sprintf("k/%d", client))
	return v.I
}

// agree fails unless all replicas that are reached have executed the same.
func (w *world) agree(seq int) {
	w.Helper()
	first := -1
	for p, x := range w.r {
		if w.out[p] {
			continue
		}
		if first < 0 {
			first = p
		}
		if x.Seq() != seq || !store.Same(x.Store(), w.r[first].Store()) || !slices.Equal(x.Replies(), w.r[first].Replies()) {
			w.Errorf("replica %d has executed %d batches, want %d as replica %d has", p, x.Seq(), seq, first)
		}
	}
}

// kinds are the kinds of the messages of posts.
func kinds(l []api.Post) []int {
	var out []int
	for _, x := range l {
		out = append(out, x.M.Kind)
	}
	return out
}
