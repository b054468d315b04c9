package replica_test

import (
	"slices"
	"strconv"
	"testing"

	"plenum/api"
	"plenum/batch"
	"plenum/parcel"
	"plenum/replica"
	"plenum/replies"
	"plenum/store"
	"plenum/term"
	"plenum/txn"
	"plenum/view"
)

// stateTerm returns the term of a state, in a table.
func stateTerm(t *testing.T, x *term.Table, s api.Store, l []api.Last) int {
	t.Helper()
	m, e := parcel.Of(x, s)
	if e != api.OK {
		t.Fatal(e)
	}
	a, _ := parcel.Number(x, m)
	b, _ := x.Of(string(replies.Encode(l)))
	n, e := x.List([]int{a, b})
	if e != api.OK {
		t.Fatal(e)
	}
	return n
}

// four are four transactions of different clients.
func four() []api.Txn { return []api.Txn{ask(1, 1), ask(2, 1), ask(3, 1), ask(4, 1)} }

// mark returns the message of a checkpoint; it was said.
func (w *world) mark(from, seq, number int) api.Msg {
	w.Helper()
	return w.vote(checkpoint, from, 0, seq, number)
}

// P33.2
func TestCheckpoint(t *testing.T) {
	w := made(t, 4)
	w.ordered(four()[:3]...)
	for _, x := range w.sent {
		if x.M.Kind == checkpoint {
			t.Errorf("a checkpoint after three batches: %+v", x)
		}
	}
	m := w.request(four()[3])
	for p := range 4 {
		w.takes("a request", p, m)
	}
	w.settleOnly(prePrepare, prepare, commit)
	s, l := w.r[0].Store(), w.r[0].Replies()
	number := stateTerm(t, w.table, s, l)
	for p := range 4 {
		w.is(p, state{seq: 4, logged: 4})
		if k := w.r[p].Marks(); !slices.Equal(k.L, []api.Mark{{From: p, Seq: 4, Term: number}}) || k.Root != 0 {
			t.Errorf("replica %d: the marks are %v", p, k)
		}
		last := w.sent[len(w.sent)-1]
		for _, x := range w.sent {
			if x.M.Kind == checkpoint && x.M.From == p {
				last = x
			}
		}
		w.posts("a checkpoint", []api.Post{last}, all(api.Msg{Kind: checkpoint, From: p, Seq: 4, Term: number}))
		if !w.ring.Has(stmt(last.M)) {
			t.Error("the checkpoint was not said")
		}
	}
	w.posts("a second voice", w.takes("a mark", 0, api.Msg{Kind: checkpoint, From: 1, Seq: 4, Term: number}))
	w.is(0, state{seq: 4, logged: 4})
	w.posts("a third voice", w.takes("a mark", 0, api.Msg{Kind: checkpoint, From: 3, Seq: 4, Term: number}))
	w.is(0, state{seq: 4, logged: 4, low: 4})
	if k := w.r[0].Marks(); k.Root != number || len(k.L) != 0 {
		t.Errorf("the marks are %v", k)
	}
	w.drops("a fourth voice", 0, api.Msg{Kind: checkpoint, From: 2, Seq: 4, Term: number})
	w.drops("a vote that is left behind", 0, w.vote(commit, 1, 0, 4, 77))
	w.takes("a vote for the last number", 0, w.vote(commit, 1, 0, 20, 77))
	w.drops("a vote for a number that is too great", 0, w.vote(commit, 1, 0, 21, 77))
}

// P33.2: the order of the terms of a checkpoint.
func TestCheckpointTerms(t *testing.T) {
	w := made(t, 4)
	for i, x := range append(four()[:3], ask(5, 1)) {
		m := w.request(x)
		w.takes("a request", 1, m)
		b := w.say(w.proposal(0, 0, 1+i, x))
		w.give(1, b)
		w.give(1, w.vote(prepare, 2, 0, 1+i, b.Term))
		w.give(1, w.vote(commit, 0, 0, 1+i, b.Term))
		count := w.table.Clone()
		w.give(1, w.vote(commit, 2, 0, 1+i, b.Term))
		if i < 3 {
			continue
		}
		r := w.r[1].Replies()
		body := w.sent[len(w.sent)-2].M.Body
		count.Of(body)
		if r[3].R.Val.I != 501 {
			t.Fatalf("the replies are %v", r)
		}
		stateTerm(t, count, w.r[1].Store(), r)
		if count.Count() != w.table.Count() {
			t.Fatalf("%d terms, want %d", w.table.Count(), count.Count())
		}
		for n := 1; n <= count.Count(); n++ {
			want, _ := count.Text(n)
			if got, _ := w.table.Text(n); got != want {
				t.Errorf("the string %d is %q, want %q", n, got, want)
			}
		}
	}
}

// P33.2
func TestMarkDrops(t *testing.T) {
	w := made(t, 4)
	good := w.mark(2, 4, 9)
	for what, m := range map[string]api.Msg{
		"its own":           w.mark(1, 4, 9),
		"from a client":     w.mark(5, 4, 9),
		"another view":      w.vote(checkpoint, 2, 1, 4, 9),
		"what was not said": {Kind: checkpoint, From: 2, Seq: 8, Term: 9},
		"another term":      {Kind: checkpoint, From: 2, Seq: 4, Term: 8},
		"number 0":          w.mark(2, 0, 9),
		"number 5":          w.mark(2, 5, 9),
		"number 20":         w.mark(2, 20, 9),
	} {
		w.drops(what, 1, m)
	}
	w.posts("a good mark", w.takes("a mark", 1, good))
	w.drops("the mark again", 1, good)
	w.drops("another mark", 1, w.mark(2, 4, 8))
	w.takes("a mark at 16", 1, w.mark(2, 16, 9))
	if k := w.r[1].Marks(); !slices.Equal(k.L, []api.Mark{{From: 2, Seq: 4, Term: 9}, {From: 2, Seq: 16, Term: 9}}) {
		t.Errorf("the marks are %v", k)
	}
	w.takes("a mark of another one", 1, w.mark(3, 4, 9))
	w.takes("a request", 1, w.request(ask(1, 1)))
	w.rings(1, 3, 1)
	w.takes("a mark while changing", 1, w.mark(3, 8, 9))
}

// P33.2: three voices are enough to take over the state.
func TestStateTransfer(t *testing.T) {
	w := made(t, 4)
	w.out[3] = true
	w.takes("a request", 3, w.request(ask(2, 1)))
	w.takes("a request that is not done", 3, w.request(ask(6, 1)))
	w.ordered(four()...)
	number := w.r[0].Marks().Root
	for _, from := range []int{2, 0} {
		w.takes("a mark", 3, w.mark(from, 4, number))
		w.is(3, state{wait: 2})
	}
	w.posts("the third voice", w.takes("a mark", 3, w.mark(1, 4, number)))
	w.is(3, state{seq: 4, low: 4, wait: 1})
	if !store.Same(w.r[3].Store(), w.r[0].Store()) || !slices.Equal(w.r[3].Replies(), w.r[0].Replies()) || w.r[3].Marks().Root != number {
		t.Error("the state that was taken over is another one")
	}
	w.out[3] = false
	w.ordered(ask(5, 1))
	w.agree(5)
	w.is(3, state{seq: 5, logged: 1, low: 4, wait: 1})
	if l := w.r[3].Log(); l[0] != (api.Done{Seq: 5, Body: string(batch.Encode([]api.Txn{ask(5, 1)}))}) {
		t.Errorf("the log is %v", l)
	}
}

// P33.2: of a replica that is ahead nothing is taken over.
func TestStateKept(t *testing.T) {
	w := made(t, 4)
	w.ordered(four()...)
	w.ordered(ask(5, 1))
	before := w.r[0].Store()
	for p := range 4 {
		w.is(p, state{seq: 5, logged: 5, low: 4})
	}
	other := stateTerm(t, w.table, empty(t), nil)
	w.takes("a mark", 0, w.mark(1, 8, other))
	w.takes("a mark", 0, w.mark(2, 8, other))
	w.takes("a mark", 0, w.mark(3, 8, other))
	w.is(0, state{seq: 8, logged: 5, low: 8})
	if !store.Same(w.r[0].Store(), empty(t)) || store.Same(before, empty(t)) {
		t.Error("what three say was not taken over")
	}
}

// rooted returns a replica that has not executed anything, after three voices for this root at 4.
func rooted(t *testing.T, w *world, number int) *replica.Replica {
	t.Helper()
	x, e := replica.New(3, 4, empty(t), w.ring, w.table, base, most)
	if e != api.OK {
		t.Fatal(e)
	}
	for p := range 3 {
		if l := x.Handle(w.mark(p, 4, number)); len(l) != 0 || x.Drops() != 0 {
			t.Fatalf("a mark: %v, %d", l, x.Drops())
		}
	}
	if m := x.Marks(); m.Low != 4 || m.Root != number || len(m.L) != 0 {
		t.Errorf("the marks are %v", m)
	}
	return x
}

// P33.2: what is the number of no state is not taken over.
func TestNoState(t *testing.T) {
	w := made(t, 4)
	s, e, _ := store.Take(empty(t), []api.Edit{{Key: "a", Val: api.Value{Kind: 2, I: 1}}, {Key: "q", Val: api.Value{Kind: 3, S: "x"}}})
	if e != api.OK {
		t.Fatal(e)
	}
	table := []api.Last{{Client: 3, Time: 7}}
	manifest, _ := parcel.Of(w.table, s)
	list := func(l ...int) int { n, _ := w.table.List(l); return n }
	number := func(f func(*api.Manifest)) int {
		m := manifest
		f(&m)
		n, _ := parcel.Number(w.table, m)
		return n
	}
	right, answers := number(func(*api.Manifest) {}), w.of(string(replies.Encode(table)))
	good := rooted(t, w, list(right, answers))
	if good.Seq() != 4 || !store.Same(good.Store(), s) || !slices.Equal(good.Replies(), table) || len(good.Log()) != 0 {
		t.Errorf("the state was not taken over: %d, %v, %v", good.Seq(), good.Store(), good.Replies())
	}
	numbers := []int{manifest.Ver, manifest.Bytes, manifest.Keys}
	numbers = append(numbers, manifest.Leaves[:]...)
	foreign := manifest.Leaves
	foreign[2] = foreign[1]
	for what, n := range map[string]int{
		"no number":               999999,
		"number 0":                0,
		"no list":                 w.of("junk"),
		"a list of one":           list(right),
		"a list of three":         list(right, answers, answers),
		"an empty list":           w.of(""),
		"a list with a blank":     w.of(" " + strconv.Itoa(right) + "," + strconv.Itoa(answers) + ","),
		"another order":           list(answers, right),
		"no manifest":             list(w.of("junk"), answers),
		"a manifest of 18":        list(list(numbers[:18]...), answers),
		"a manifest of 20":        list(list(append(slices.Clone(numbers), 1)...), answers),
		"a manifest without one":  list(999999, answers),
		"a store that is too old": list(number(func(m *api.Manifest) { m.Ver = 0 }), answers),
		"a version below 0":       list(number(func(m *api.Manifest) { m.Ver = -1 }), answers),
		"too few bytes":           list(number(func(m *api.Manifest) { m.Bytes = 3 }), answers),
		"too few keys":            list(number(func(m *api.Manifest) { m.Keys = 1 }), answers),
		"too many keys":           list(number(func(m *api.Manifest) { m.Keys = 9999 }), answers),
		"no leaf":                 list(number(func(m *api.Manifest) { m.Leaves[1] = 999999 }), answers),
		"a leaf that is none":     list(number(func(m *api.Manifest) { m.Leaves[1] = w.of("junk") }), answers),
		"a leaf of other chunks":  list(number(func(m *api.Manifest) { m.Leaves[1] = list(1, w.of("junk")) }), answers),
		"a leaf of another":       list(number(func(m *api.Manifest) { m.Leaves = foreign }), answers),
		"no replies":              list(right, w.of("junk")),
		"replies without number":  list(right, 999999),
		"more than replies":       list(right, w.of(string(replies.Encode(table))+"x")),
	} {
		count := w.table.Count()
		x := rooted(t, w, n)
		if x.Seq() != 0 || !store.Same(x.Store(), empty(t)) || len(x.Replies()) != 0 {
			t.Errorf("%s: taken over as %d, %v, %v", what, x.Seq(), x.Store(), x.Replies())
		}
		if w.table.Count() != count {
			t.Errorf("%s: terms were given", what)
		}
	}
	plain := rooted(t, w, list(number(func(m *api.Manifest) {}), w.of("\x00")))
	if plain.Seq() != 4 || len(plain.Replies()) != 0 || !store.Same(plain.Store(), s) {
		t.Errorf("a state without replies was not taken over: %d", plain.Seq())
	}
}

// P33.2: a change tells the stable checkpoint, and its proof.
func TestChangeWithProof(t *testing.T) {
	w := made(t, 4)
	w.out[3] = true
	w.ordered(four()...)
	number := w.r[1].Marks().Root
	w.takes("a request", 1, w.request(ask(5, 1)))
	l := w.tick(1, 3)
	proof := []api.Stmt{}
	for p := range 3 {
		proof = append(proof, api.Stmt{From: p, Kind: checkpoint, Seq: 4, Term: number})
	}
	want := api.Change{From: 1, View: 1, Stable: 4, Root: number, Proof: proof}
	w.posts("a change", l, all(changeMsg(want)))
	if !view.Change(w.ring, w.table, l[0].M.Changes[0], 4) {
		t.Error("the change does not hold")
	}
}

// P33.2: a new view begins at the greatest stable checkpoint of its changes; who has not come so far takes over the state there.
func TestNewViewMoves(t *testing.T) {
	w := made(t, 4)
	w.out[3] = true
	w.ordered(four()...)
	number := w.r[1].Marks().Root
	w.out[3] = false
	w.out[0] = true
	m := w.request(ask(5, 1))
	for p := 1; p < 4; p++ {
		w.takes("a request", p, m)
	}
	w.takes("a request that is done", 3, w.request(ask(4, 1)))
	for p := 1; p < 4; p++ {
		w.tick(p, 3)
	}
	w.settle()
	w.agree(5)
	for p := 1; p < 3; p++ {
		w.is(p, state{view: 1, seq: 5, logged: 5, low: 4})
	}
	w.is(3, state{view: 1, seq: 5, logged: 1, low: 4})
	if k := w.r[3].Marks(); k.Root != number {
		t.Errorf("the marks are %v", k)
	}
	w.takes("a request", 3, w.request(ask(6, 1)))
	l := w.tick(3, 3)
	c := l[0].M.Changes[0]
	if c.Stable != 4 || c.Root != number || len(c.Proof) != 3 || len(c.Certs) != 1 || c.Certs[0].Seq != 5 || !view.Change(w.ring, w.table, c, 4) {
		t.Errorf("the change %+v", c)
	}
}

// P33.4: what is left behind a stable checkpoint is not kept: a change has no certificates of it.
func TestBounded(t *testing.T) {
	w := made(t, 4)
	for i := range 40 {
		w.ordered(ask(i%4, 1+i/4))
	}
	w.agree(40)
	for p := range 4 {
		w.is(p, state{seq: 40, logged: 40, low: 40})
	}
	for i := range 18 {
		m := w.request(ask(i%6, 100+i))
		for p := range 4 {
			w.give(p, m)
		}
	}
	w.settleOnly(prePrepare, prepare)
	c := w.tick(2, 3)[0].M.Changes[0]
	if c.Stable != 40 || len(c.Certs) != 16 {
		t.Errorf("the change has %d certificates above %d", len(c.Certs), c.Stable)
	}
	for i, k := range c.Certs {
		if k.Seq != 41+i {
			t.Errorf("certificate %d is of number %d", i, k.Seq)
		}
	}
}

// fillTable gives terms to so many strings that only left numbers are left.
func (w *world) fillTable(left int) {
	for i := w.table.Count(); i < api.MaxTerms-left; i++ {
		w.table.Of("fill " + strconv.Itoa(i))
	}
}

// fillRing lets a client say so much that only left statements are left.
func (w *world) fillRing(left int) {
	for i := w.ring.Count(); i < api.MaxSigned-left; i++ {
		w.ring.Say(w.n+7, api.Stmt{From: w.n + 7, Kind: 99, Seq: i})
	}
}

// nearly returns a world in which replica 1 lacks one vote to execute the last of some batches, and that vote.
func nearly(t *testing.T, l ...api.Txn) (*world, api.Msg) {
	w := made(t, 4)
	var last api.Msg
	for i, x := range l {
		w.takes("a request", 1, w.request(x))
		b := w.say(w.proposal(0, 0, 1+i, x))
		w.takes("a proposal", 1, b)
		w.takes("a vote", 1, w.vote(prepare, 2, 0, 1+i, b.Term))
		w.takes("a vote", 1, w.vote(commit, 0, 0, 1+i, b.Term))
		last = w.vote(commit, 2, 0, 1+i, b.Term)
		if i < len(l)-1 {
			w.takes("a vote", 1, last)
		}
	}
	return w, last
}

// P33.2: what cannot be given a term, or cannot be said, is omitted.
func TestFullTable(t *testing.T) {
	w := made(t, 4)
	m := w.request(ask(1, 1))
	w.fillTable(0)
	w.posts("a request that cannot be proposed", w.takes("a request", 0, m))
	w.is(0, state{wait: 1})
	w.posts("the request again", w.takes("a request", 0, m))
	other := ask(2, 1)
	w.drops("a request without a term", 0, api.Msg{Kind: request, From: 6, Seq: 1, Body: string(txn.Encode(other))})

	w, last := nearly(t, ask(1, 1))
	w.fillTable(0)
	w.posts("a batch whose result has no term", w.takes("a vote", 1, last))
	w.is(1, state{seq: 1, logged: 1})
	if w.value(1, 1) != 1 || len(w.r[1].Replies()) != 1 {
		t.Error("the batch was not executed")
	}

	w, last = nearly(t, four()...)
	w.of(string(txn.EncodeResult(api.Result{Val: api.Value{Kind: 2, I: 401}, Ver: 4})))
	w.fillTable(1)
	l := w.takes("a vote", 1, last)
	if !slices.Equal(kinds(l), []int{reply}) || len(w.r[1].Marks().L) != 0 {
		t.Errorf("a checkpoint without a term: %+v, %v", l, w.r[1].Marks())
	}
	w.is(1, state{seq: 4, logged: 4})
}

// P33.2
func TestFullRing(t *testing.T) {
	w := made(t, 4)
	x := ask(1, 1)
	m := w.request(x)
	b := w.say(w.proposal(0, 0, 1, x))
	w.fillRing(0)
	w.posts("a proposal that cannot be answered", w.takes("a proposal", 2, b))
	w.takes("a request", 3, m)
	w.posts("a change that cannot be said", w.tick(3, 3))
	w.is(3, state{view: 1, changing: true, wait: 1})

	w = made(t, 4)
	m = w.request(x)
	w.fillRing(0)
	w.posts("a request that cannot be proposed", w.takes("a request", 0, m))
	w.is(0, state{wait: 1})

	for left := range 3 {
		w, last := nearly(t, four()...)
		w.fillRing(left)
		l := w.takes("a vote", 1, last)
		if want := []int{reply, checkpoint}[:left]; !slices.Equal(kinds(l), want) || len(w.r[1].Marks().L) != left/2 {
			t.Errorf("with %d left: %+v, %v", left, l, w.r[1].Marks())
		}
		w.is(1, state{seq: 4, logged: 4})
	}
}
