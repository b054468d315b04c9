package client_test

import (
	"math"
	"slices"
	"strconv"
	"testing"

	"plenum/api"
	"plenum/client"
	"plenum/ring"
	"plenum/term"
	"plenum/txn"
	"plenum/wire"
)

// world is a client 1 of four replicas, the party 5 of a ring.
type world struct {
	*testing.T
	r *ring.Ring
	t *term.Table
	x *client.Client
}

const base, most = 3, 10

func made(t *testing.T) *world {
	t.Helper()
	r, e := ring.New(8, nil)
	if e != api.OK {
		t.Fatal(e)
	}
	w := &world{t, r, term.New(), nil}
	if w.x, e = client.New(1, 4, r, w.t, base, most); e != api.OK || w.x == nil {
		t.Fatal(e)
	}
	return w
}

// rights are the patterns of a transaction.
var rights = api.Want{Reads: []string{"b"}, Writes: []string{"a"}}

// ask lets the client ask, and returns its posts.
func (w *world) ask(source string) []api.Post {
	w.Helper()
	l, e := w.x.Ask(rights, source, 9)
	if e != api.OK {
		w.Fatalf("Ask(%q): %d", source, e)
	}
	return l
}

// request are the posts of the request with this time.
func (w *world) request(time int, source string) []api.Post {
	w.Helper()
	body := string(txn.Encode(api.Txn{Client: 1, Time: time, W: rights, Source: source, Gas: 9}))
	n, ok := w.t.Has(body)
	if !ok {
		w.Errorf("the request %d has no term", time)
	}
	var l []api.Post
	for p := range 4 {
		l = append(l, api.Post{To: p, M: api.Msg{Kind: 1, From: 5, Seq: time, Term: n, Body: body}})
	}
	return l
}

func (w *world) posts(what string, got, want []api.Post) {
	w.Helper()
	if !slices.EqualFunc(got, want, func(x, y api.Post) bool { return x.To == y.To && wire.Same(x.M, y.M) }) {
		w.Errorf("%s: posted %+v, want %+v", what, got, want)
	}
}

// unsaid returns a reply that was not said.
func (w *world) unsaid(from, time int, r api.Result) api.Msg {
	w.Helper()
	body := string(txn.EncodeResult(r))
	n, e := w.t.Of(body)
	if e != api.OK {
		w.Fatal(e)
	}
	return api.Msg{Kind: 8, From: from, View: 1, Seq: time, Term: n, Body: body}
}

func (w *world) say(m api.Msg) api.Msg {
	w.Helper()
	if e := w.r.Say(m.From, api.Stmt{From: m.From, Kind: m.Kind, View: m.View, Seq: m.Seq, Term: m.Term}); e != api.OK {
		w.Fatal(e)
	}
	return m
}

func (w *world) reply(from, time int, r api.Result) api.Msg {
	w.Helper()
	return w.say(w.unsaid(from, time, r))
}

// handle fails unless a message has this effect.
func (w *world) handle(what string, m api.Msg, is bool, want api.Errno) {
	w.Helper()
	if got, e := w.x.Handle(m); got != is || e != want {
		w.Errorf("%s: %v, %d, want %v, %d", what, got, e, is, want)
	}
}

// is fails unless the client tells this.
func (w *world) is(time int, waits bool, voices ...int) {
	w.Helper()
	if w.x.Time() != time || w.x.Waits() != waits || !slices.Equal(w.x.Voices(), voices) {
		w.Errorf("time %d, waits %v, voices %v, want %d, %v, %v", w.x.Time(), w.x.Waits(), w.x.Voices(), time, waits, voices)
	}
}

func (w *world) result(want api.Result, has bool) {
	w.Helper()
	if r, ok := w.x.Result(); r != want || ok != has {
		w.Errorf("Result = %v, %v, want %v, %v", r, ok, want, has)
	}
}

// results that differ.
var one, two = api.Result{Val: api.Value{Kind: 2, I: 1}, Ver: 3}, api.Result{Code: api.ErrAbort, Ver: 3}

// P34.1
func TestNew(t *testing.T) {
	r, _ := ring.New(64, nil)
	x := term.New()
	for _, c := range [][4]int{{0, 0, 1, 1}, {0, 5, 1, 1}, {0, -4, 1, 1}, {0, 17, 1, 1}, {0, math.MaxInt, 1, 1}, {-1, 4, 1, 1}, {60, 4, 1, 1}, {48, 16, 1, 1}, {math.MaxInt, 4, 1, 1}, {math.MinInt, 4, 1, 1}, {0, 4, 0, 1}, {0, 4, 2, 1}, {0, 4, 1, api.MaxWait + 1}} {
		if k, e := client.New(c[0], c[1], r, x, c[2], c[3]); k != nil || e != api.ErrArg {
			t.Errorf("New(%v) = %v, %d", c, k, e)
		}
	}
	for _, c := range [][2]int{{0, 4}, {59, 4}, {47, 16}, {3, 7}} {
		k, e := client.New(c[0], c[1], r, x, 1, 1)
		if e != api.OK || k == nil {
			t.Fatalf("New(%v): %d", c, e)
		}
		if r, ok := k.Result(); k.Time() != 0 || k.Waits() || ok || r != (api.Result{}) || len(k.Voices()) != 0 {
			t.Errorf("a new client tells %d, %v, %v, %v", k.Time(), k.Waits(), r, k.Voices())
		}
	}
	if r.Count() != 0 || x.Count() != 0 {
		t.Error("New has said something")
	}
}

// P34.2
func TestAsk(t *testing.T) {
	w := made(t)
	w.is(0, false)
	l := w.ask("return 1;")
	w.posts("Ask", l, w.request(1, "return 1;"))
	w.is(1, true)
	w.result(api.Result{}, false)
	if m := l[0].M; !w.r.Has(api.Stmt{From: 5, Kind: 1, Seq: 1, Term: m.Term}) || w.r.Count() != 1 || w.t.Count() != 1 {
		t.Error("the request was not said, or something else")
	}
	for _, source := range []string{"return 2;", "?"} {
		if l, e := w.x.Ask(rights, source, 9); len(l) != 0 || e != api.ErrBusy {
			t.Errorf("Ask while waiting = %v, %d", l, e)
		}
	}
	w.is(1, true)
	if w.r.Count() != 1 || w.t.Count() != 1 {
		t.Error("Ask while waiting has changed something")
	}
}

// P34.2
func TestAskWrong(t *testing.T) {
	w := made(t)
	for _, x := range []struct {
		w      api.Want
		source string
		gas    int
	}{{rights, "?", 9}, {rights, "return x;", 9}, {rights, "", -1}, {rights, "", api.MaxGas + 1}, {api.Want{Reads: []string{"A"}}, "", 9}, {api.Want{Writes: []string{"b", "a"}}, "", 9}} {
		if l, e := w.x.Ask(x.w, x.source, x.gas); len(l) != 0 || e != api.ErrArg {
			t.Errorf("Ask(%v, %q, %d) = %v, %d", x.w, x.source, x.gas, l, e)
		}
	}
	w.is(0, false)
	if w.r.Count() != 0 || w.t.Count() != 0 || len(w.x.Tick()) != 0 {
		t.Error("a wrong transaction has changed something")
	}
	w.posts("Ask", w.ask(""), w.request(1, ""))
}

// P34.2
func TestAskFull(t *testing.T) {
	w := made(t)
	for i := range api.MaxTerms {
		w.t.Of(strconv.Itoa(i))
	}
	if l, e := w.x.Ask(rights, "", 9); len(l) != 0 || e != api.ErrFull {
		t.Errorf("Ask with a full table = %v, %d", l, e)
	}
	w.is(0, false)
	if w.r.Count() != 0 {
		t.Error("something was said")
	}
	w = made(t)
	for i := range api.MaxSigned {
		w.r.Say(0, api.Stmt{Seq: i})
	}
	for range 2 {
		if l, e := w.x.Ask(rights, "", 9); len(l) != 0 || e != api.ErrFull {
			t.Errorf("Ask with a full ring = %v, %d", l, e)
		}
	}
	w.is(0, false)
	for range 20 {
		w.posts("a tick", w.x.Tick(), nil)
	}
	last := made(t)
	for i := range api.MaxTerms - 1 {
		last.t.Of(strconv.Itoa(i))
	}
	last.posts("a transaction that gets the last term", last.ask(""), last.request(1, ""))
	known := made(t)
	body := string(txn.Encode(api.Txn{Client: 1, Time: 1, W: rights, Gas: 9}))
	known.t.Of("first")
	known.t.Of(body)
	for i := known.t.Count(); i < api.MaxTerms; i++ {
		known.t.Of(strconv.Itoa(i))
	}
	known.posts("a transaction that has a term in a full table", known.ask(""), known.request(1, ""))
}

// P34.3
func TestHandle(t *testing.T) {
	w := made(t)
	w.handle("nothing waits", w.reply(0, 0, one), false, api.ErrNone)
	w.handle("nothing waits", api.Msg{}, false, api.ErrNone)
	w.ask("return 1;")
	good := w.reply(2, 1, one)
	change := func(f func(*api.Msg)) api.Msg {
		m := good
		f(&m)
		return m
	}
	for _, x := range []struct {
		what string
		m    api.Msg
		e    api.Errno
	}{
		{"another kind", w.say(change(func(m *api.Msg) { m.Kind = 4 })), api.ErrForm},
		{"another client", w.say(change(func(m *api.Msg) { m.View = 2 })), api.ErrForm},
		{"a time before", w.say(change(func(m *api.Msg) { m.Seq = 0 })), api.ErrForm},
		{"a time to come", w.say(change(func(m *api.Msg) { m.Seq = 2 })), api.ErrForm},
		{"no result", change(func(m *api.Msg) { m.Body = "" }), api.ErrForm},
		{"no result", change(func(m *api.Msg) { m.Body += "x" }), api.ErrForm},
		{"no result from nobody", change(func(m *api.Msg) { m.Body = "x"; m.From = 9 }), api.ErrForm},
		{"a client", w.say(change(func(m *api.Msg) { m.From = 4 })), api.ErrRange},
		{"nobody", change(func(m *api.Msg) { m.From = -1 }), api.ErrRange},
		{"nobody", change(func(m *api.Msg) { m.From = math.MaxInt; m.Term++ }), api.ErrRange},
		{"another term", w.say(change(func(m *api.Msg) { m.Term++ })), api.ErrForged},
		{"a body without a term", change(func(m *api.Msg) { m.Body = string(txn.EncodeResult(api.Result{Ver: 77})) }), api.ErrForged},
		{"a body without a term", change(func(m *api.Msg) { m.Body = string(txn.EncodeResult(api.Result{Ver: 78})); m.Term = 0 }), api.ErrForged},
		{"what was not said", w.unsaid(3, 1, one), api.ErrForged},
		{"what was said otherwise", w.unsaid(2, 1, two), api.ErrForged},
	} {
		count := w.t.Count()
		w.handle(x.what, x.m, false, x.e)
		w.is(1, true)
		if w.t.Count() != count {
			t.Errorf("%s: a term was given", x.what)
		}
	}
	w.handle("a voice", good, false, api.OK)
	w.is(1, true, 2)
	w.handle("the voice again", good, false, api.OK)
	w.is(1, true, 2)
	w.result(api.Result{}, false)
	w.handle("another result", w.reply(0, 1, two), false, api.OK)
	w.is(1, true, 0, 2)
	w.handle("a second voice", w.reply(3, 1, one), true, api.OK)
	w.is(1, false)
	w.result(one, true)
	w.handle("a third voice", w.reply(1, 1, one), false, api.ErrNone)
	w.posts("Ask", w.ask("return 2;"), w.request(2, "return 2;"))
	w.is(2, true)
	w.result(one, true)
	w.handle("a voice for the first one", w.reply(1, 1, one), false, api.ErrForm)
	w.handle("a voice", w.reply(0, 2, two), false, api.OK)
	w.handle("a second voice", w.reply(1, 2, two), true, api.OK)
	w.result(two, true)
	w.is(2, false)
}

// P34.3: a later voice of a replica replaces the earlier one.
func TestReplace(t *testing.T) {
	w := made(t)
	w.ask("")
	w.handle("a voice", w.reply(0, 1, one), false, api.OK)
	w.handle("another voice of it", w.reply(0, 1, two), false, api.OK)
	w.is(1, true, 0)
	w.handle("a voice for what was replaced", w.reply(1, 1, one), false, api.OK)
	w.is(1, true, 0, 1)
	w.handle("it goes over", w.reply(1, 1, two), true, api.OK)
	w.result(two, true)
}

// P34.3: of seven replicas three are needed.
func TestSeven(t *testing.T) {
	r, _ := ring.New(9, nil)
	w := &world{t, r, term.New(), nil}
	w.x, _ = client.New(1, 7, r, w.t, base, most)
	l := w.ask("")
	if len(l) != 7 || l[6].To != 6 || l[0].M.From != 8 {
		t.Errorf("posted %+v", l)
	}
	w.handle("the first voice", w.reply(6, 1, one), false, api.OK)
	w.handle("the second voice", w.reply(1, 1, one), false, api.OK)
	w.is(1, true, 1, 6)
	w.handle("the third voice", w.reply(4, 1, one), true, api.OK)
}

// P34.4
func TestTick(t *testing.T) {
	w := made(t)
	for range 50 {
		w.posts("nothing waits", w.x.Tick(), nil)
	}
	w.ask("return 1;")
	again := w.request(1, "return 1;")
	rings := func(n int) {
		t.Helper()
		for range n - 1 {
			w.posts("too early", w.x.Tick(), nil)
		}
		w.posts("it rings", w.x.Tick(), again)
	}
	rings(3)
	rings(6)
	rings(10)
	rings(10)
	if w.r.Count() != 1 {
		t.Error("something was said again")
	}
	w.handle("a voice", w.reply(0, 1, one), false, api.OK)
	w.handle("a second voice", w.reply(1, 1, one), true, api.OK)
	for range 50 {
		w.posts("nothing waits", w.x.Tick(), nil)
	}
	w.ask("return 2;")
	again = w.request(2, "return 2;")
	rings(3)
	rings(6)
}

// P34.5: a single bad replica makes the client accept nothing.
func TestOneBad(t *testing.T) {
	w := made(t)
	w.ask("")
	for i := range 5 {
		w.handle("the bad one", w.reply(3, 1, api.Result{Ver: i}), false, api.OK)
	}
	w.is(1, true, 3)
	w.handle("an honest one", w.reply(0, 1, one), false, api.OK)
	w.handle("an honest one", w.reply(1, 1, one), true, api.OK)
	w.result(one, true)
}
