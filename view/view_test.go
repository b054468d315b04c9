package view_test

import (
	"math"
	"slices"
	"strconv"
	"strings"
	"testing"

	"plenum/api"
	"plenum/ring"
	"plenum/term"
	"plenum/view"
	"plenum/wire"
)

const (
	request, prePrepare, prepare, commit, checkpoint, changeKind, newView = 1, 2, 3, 4, 5, 6, 7
	last                                                                  = 1<<31 - 1
)

// world is a ring of four replicas and two others, and a table.
type world struct {
	*testing.T
	r *ring.Ring
	t *term.Table
}

func made(t *testing.T) *world {
	t.Helper()
	r, e := ring.New(6, nil)
	if e != api.OK {
		t.Fatal(e)
	}
	return &world{t, r, term.New()}
}

// say records statements.
func (w *world) say(l ...api.Stmt) []api.Stmt {
	for _, s := range l {
		if e := w.r.Say(s.From, s); e != api.OK {
			w.Fatalf("Say(%v): %d", s, e)
		}
	}
	return l
}

func (w *world) of(s string) int {
	n, e := w.t.Of(s)
	if e != api.OK {
		w.Fatal(e)
	}
	return n
}

// stmts returns the statement s of several parties.
func stmts(s api.Stmt, from ...int) []api.Stmt {
	var l []api.Stmt
	for _, p := range from {
		s.From = p
		l = append(l, s)
	}
	return l
}

// cert returns a certificate that holds.
func (w *world) cert(seq, v int, body string) api.Cert {
	n := w.of(body)
	primary := v % 4
	voices := w.say(api.Stmt{From: primary, Kind: prePrepare, View: v, Seq: seq, Term: n})
	voices = append(voices, w.say(stmts(api.Stmt{Kind: prepare, View: v, Seq: seq, Term: n}, (primary+1)%4, (primary+3)%4)...)...)
	return api.Cert{Seq: seq, View: v, Term: n, Body: body, Voices: voices}
}

// announce records the statement of a change.
func (w *world) announce(c api.Change) api.Change {
	s, e := view.ChangeStmt(w.t, c)
	if e != api.OK {
		w.Fatal(e)
	}
	w.say(s)
	return c
}

// full returns a change of 2 to view 5 that has everything; its statement is not made yet.
func (w *world) full() api.Change {
	proof := w.say(stmts(api.Stmt{Kind: checkpoint, Seq: 4, Term: 77}, 0, 1, 3)...)
	return api.Change{From: 2, View: 5, Stable: 4, Root: 77, Proof: proof, Certs: []api.Cert{w.cert(5, 0, "five"), w.cert(8, 4, "eight"), w.cert(20, 1, "twenty")}}
}

// holds fails unless Cert says so, for 4 replicas.
func (w *world) holds(what string, c api.Cert, want bool) {
	w.Helper()
	if view.Cert(w.r, w.t, c, 4) != want {
		w.Errorf("%s: Cert is %v", what, !want)
	}
}

// P32.1
func TestCert(t *testing.T) {
	w := made(t)
	good := w.cert(7, 6, "x")
	w.holds("a good one", good, true)
	w.holds("an empty one of view 0", w.cert(0, 0, ""), true)
	with := func(f func(*api.Cert)) api.Cert {
		c := good
		c.Voices = slices.Clone(good.Voices)
		f(&c)
		return c
	}
	w.holds("another body", with(func(c *api.Cert) { c.Body = "y" }), false)
	w.holds("another term", with(func(c *api.Cert) { c.Term++ }), false)
	w.holds("another view", with(func(c *api.Cert) { c.View = 10 }), false)
	w.holds("another number", with(func(c *api.Cert) { c.Seq++ }), false)
	w.holds("no voice of the primary", with(func(c *api.Cert) { c.Voices = c.Voices[1:] }), false)
	w.holds("one voice of another", with(func(c *api.Cert) { c.Voices = c.Voices[:2] }), false)
	w.holds("no voices", with(func(c *api.Cert) { c.Voices = nil }), false)
	w.holds("a voice twice", with(func(c *api.Cert) { c.Voices[2] = c.Voices[1] }), false)
	w.holds("another order, and more", with(func(c *api.Cert) {
		slices.Reverse(c.Voices)
		c.Voices = append(c.Voices, api.Stmt{From: 99}, api.Stmt{From: -1}, c.Voices[0])
	}), true)
	unsaid := with(func(c *api.Cert) { c.Voices[2].From = 0 })
	w.holds("a voice that was not given", unsaid, false)
	w.say(unsaid.Voices[2])
	w.holds("the voice of another one", unsaid, true)
	own := stmts(api.Stmt{Kind: prepare, View: 6, Seq: 7, Term: good.Term}, 2)
	w.say(own...)
	w.holds("the primary prepares", with(func(c *api.Cert) { c.Voices[2] = own[0] }), false)
	outside := stmts(api.Stmt{Kind: prepare, View: 6, Seq: 7, Term: good.Term}, 4, 5)
	w.say(outside...)
	w.holds("two that are no replicas", with(func(c *api.Cert) { c.Voices = append(c.Voices[:1], outside...) }), false)
	w.holds("one that is no replica", with(func(c *api.Cert) { c.Voices[2] = outside[0] }), false)
	for i := range 4 {
		s := api.Stmt{From: 1, Kind: prepare, View: 6, Seq: 7, Term: good.Term}
		*[]*int{&s.Kind, &s.View, &s.Seq, &s.Term}[i] += 4
		w.say(s)
		w.holds("a voice for something else", with(func(c *api.Cert) { c.Voices[2] = s }), false)
	}
	other := api.Stmt{From: 0, Kind: prePrepare, View: 6, Seq: 7, Term: good.Term}
	w.say(other)
	w.holds("another one proposes", with(func(c *api.Cert) { c.Voices[0] = other }), false)
}

// P32.1
func TestCertReplicas(t *testing.T) {
	w := made(t)
	good := w.cert(7, 0, "x")
	empty := w.announce(api.Change{View: 1})
	count := w.t.Count()
	for _, n := range []int{math.MinInt, -4, 0, 1, 3, 5, 6, 64, math.MaxInt} {
		good.Body = "not numbered"
		if view.Cert(w.r, w.t, good, n) || view.Change(w.r, w.t, api.Change{View: 1, Certs: []api.Cert{good}}, n) || view.Change(w.r, w.t, empty, n) || w.t.Count() != count {
			t.Errorf("of %d replicas something holds, or is given a term", n)
		}
	}
	r, _ := ring.New(7, nil)
	six := api.Cert{Seq: 1, Term: w.of("y"), Body: "y"}
	for p := range 7 {
		s := api.Stmt{From: p, Kind: prepare, Seq: 1, Term: six.Term}
		if p == 0 {
			s.Kind = prePrepare
		}
		r.Say(p, s)
		six.Voices = append(six.Voices, s)
	}
	if !view.Cert(r, w.t, six, 7) {
		t.Error("of 7 replicas all are not enough")
	}
	for many := range 7 {
		c := six
		c.Voices = six.Voices[:many]
		if view.Cert(r, w.t, c, 7) != (many >= 5) {
			t.Errorf("of 7 replicas %d voices: %v", many, many < 5)
		}
	}
}

// P32.1: a body is given a term even if the rest does not hold; and nothing without a term holds.
func TestCertTerms(t *testing.T) {
	w := made(t)
	w.holds("nothing said", api.Cert{Seq: 1, Term: 1, Body: "new"}, false)
	if n, ok := w.t.Has("new"); n != 1 || !ok {
		t.Error("the body has no term")
	}
	good := w.cert(1, 0, "x")
	for i := w.t.Count(); i < api.MaxTerms; i++ {
		w.t.Of(strconv.Itoa(i))
	}
	w.holds("in a full table", good, true)
	w.holds("a new body in a full table", api.Cert{Seq: 1, Body: "none", Voices: good.Voices}, false)
	c := api.Change{From: 1, View: 1, Certs: []api.Cert{good}}
	if s, e := view.ChangeStmt(w.t, c); s != (api.Stmt{}) || e != api.ErrFull {
		t.Errorf("ChangeStmt in a full table = %v, %d", s, e)
	}
	if s, e := view.NewStmt(w.t, api.Msg{From: 1, View: 1, Changes: []api.Change{c}}); s != (api.Stmt{}) || e != api.ErrFull {
		t.Errorf("NewStmt in a full table = %v, %d", s, e)
	}
	w.say(api.Stmt{From: 1, Kind: changeKind, View: 1})
	if view.Change(w.r, w.t, c, 4) {
		t.Error("a change without a term holds")
	}
}

// P32.1
func TestChange(t *testing.T) {
	w := made(t)
	empty := api.Change{From: 3, View: 1}
	if view.Change(w.r, w.t, empty, 4) {
		t.Error("a change that nobody stated holds")
	}
	w.announce(empty)
	if !view.Change(w.r, w.t, empty, 4) {
		t.Error("a change that was stated does not hold")
	}
	good := w.full()
	if view.Change(w.r, w.t, good, 4) {
		t.Error("a full change that nobody stated holds")
	}
	w.announce(good)
	if !view.Change(w.r, w.t, good, 4) {
		t.Error("a full change does not hold")
	}
	voice := api.Stmt{From: 2, Kind: checkpoint, Seq: 4, Term: 78}
	w.say(voice)
	for what, f := range map[string]func(*api.Change){
		"from no replica":                  func(c *api.Change) { c.From = 4 },
		"of view 0":                        func(c *api.Change) { c.View = 0; c.Certs = nil },
		"a root without a checkpoint":      func(c *api.Change) { c.Stable, c.Proof, c.Certs = 0, nil, nil },
		"a proof without a checkpoint":     func(c *api.Change) { c.Stable, c.Root, c.Certs = 0, 0, nil },
		"another root":                     func(c *api.Change) { c.Root = 78 },
		"another checkpoint":               func(c *api.Change) { c.Stable = 8; c.Certs = c.Certs[2:] },
		"no checkpoint":                    func(c *api.Change) { c.Stable = 5; c.Certs = c.Certs[1:] },
		"two voices for a checkpoint":      func(c *api.Change) { c.Proof = c.Proof[:2] },
		"a voice for another root":         func(c *api.Change) { c.Proof[2] = voice },
		"a voice that was not given":       func(c *api.Change) { c.Proof[2].From = 2 },
		"a voice twice":                    func(c *api.Change) { c.Proof[2] = c.Proof[1] },
		"certificates in another order":    func(c *api.Change) { c.Certs[0], c.Certs[1] = c.Certs[1], c.Certs[0] },
		"a certificate twice":              func(c *api.Change) { c.Certs[1] = c.Certs[0] },
		"a certificate of the checkpoint":  func(c *api.Change) { c.Certs[0] = w.cert(4, 0, "four") },
		"a certificate that is too far on": func(c *api.Change) { c.Certs[2] = w.cert(21, 1, "far") },
		"a certificate of its own view":    func(c *api.Change) { c.Certs[1] = w.cert(8, 5, "own") },
		"a certificate of a later view":    func(c *api.Change) { c.Certs[2] = w.cert(20, 6, "later") },
		"a certificate that does not hold": func(c *api.Change) { c.Certs[1].Voices = c.Certs[1].Voices[1:] },
		"the last one does not hold":       func(c *api.Change) { c.Certs[2].Body = "other" },
	} {
		c := w.full()
		f(&c)
		s, e := view.ChangeStmt(w.t, c)
		if e != api.OK {
			t.Fatal(e)
		}
		w.say(s)
		if view.Change(w.r, w.t, c, 4) {
			t.Errorf("a change with %s holds", what)
		}
	}
	c := good
	c.Certs = good.Certs[:2]
	for i := range 5 {
		s, _ := view.ChangeStmt(w.t, c)
		*[]*int{&s.From, &s.Kind, &s.View, &s.Seq, &s.Term}[i]++
		w.say(s)
		if view.Change(w.r, w.t, c, 4) {
			t.Errorf("a change holds by the statement %v", s)
		}
	}
	w.announce(c)
	if !view.Change(w.r, w.t, c, 4) {
		t.Error("a change with two certificates does not hold")
	}
	for _, f := range []func(*api.Change){func(c *api.Change) { c.Root = 0; c.Stable = 0; c.Proof = nil }, func(c *api.Change) { c.Certs = nil }, func(c *api.Change) { c.View = 100 }} {
		c := w.full()
		f(&c)
		c.Certs = c.Certs[:min(1, len(c.Certs))]
		w.announce(c)
		if !view.Change(w.r, w.t, c, 4) {
			t.Errorf("the change %v does not hold", c)
		}
	}
}

// P32.1: after the first condition that fails nothing is given a term.
func TestChangeTerms(t *testing.T) {
	w := made(t)
	fresh := func(f func(*api.Change)) int {
		c := api.Change{From: 1, View: 1, Certs: []api.Cert{{Seq: 1, Body: "one"}, {Seq: 2, Body: "two"}}}
		f(&c)
		x := term.New()
		if view.Change(w.r, x, c, 4) {
			t.Errorf("%v holds", c)
		}
		return x.Count()
	}
	one := w.cert(1, 0, "one")
	for what, x := range map[string]struct {
		n int
		f func(*api.Change)
	}{
		"a party below 0":               {0, func(c *api.Change) { c.From = -1 }},
		"a view that is too great":      {0, func(c *api.Change) { c.View = last + 1 }},
		"what cannot be encoded":        {0, func(c *api.Change) { c.Root = -1 }},
		"no replica":                    {0, func(c *api.Change) { c.From = 4 }},
		"view 0":                        {0, func(c *api.Change) { c.View = 0 }},
		"a root":                        {0, func(c *api.Change) { c.Root = 1 }},
		"a checkpoint":                  {0, func(c *api.Change) { c.Stable = 4 }},
		"a number":                      {0, func(c *api.Change) { c.Certs[0].Seq = 0 }},
		"a view":                        {0, func(c *api.Change) { c.Certs[0].View = 1 }},
		"the first certificate":         {1, func(c *api.Change) {}},
		"the number of the second":      {1, func(c *api.Change) { c.Certs[0] = one; c.Certs[1].Seq = 1 }},
		"the second":                    {2, func(c *api.Change) { c.Certs[0] = one }},
		"the statement":                 {2, func(c *api.Change) { c.Certs = []api.Cert{one} }},
		"the statement of an empty one": {1, func(c *api.Change) { c.Certs = nil }},
	} {
		if n := fresh(x.f); n != x.n {
			t.Errorf("%s: %d numbers were assigned, want %d", what, n, x.n)
		}
	}
}

// P32.2
func TestStatements(t *testing.T) {
	w := made(t)
	c := w.full()
	count := w.t.Count()
	s, e := view.ChangeStmt(w.t, c)
	if text, _ := w.t.Text(count + 1); s != (api.Stmt{From: 2, Kind: changeKind, View: 5, Seq: 4, Term: count + 1}) || e != api.OK || text != string(wire.EncodeChange(c)) {
		t.Errorf("ChangeStmt = %v, %d", s, e)
	}
	d := api.Change{From: 3, View: 5}
	m := api.Msg{From: 9, View: 8, Seq: 3, Term: 4, Body: "x", Changes: []api.Change{c, d, c}}
	s, e = view.NewStmt(w.t, m)
	want := string(wire.EncodeChange(c)) + string(wire.EncodeChange(d)) + string(wire.EncodeChange(c))
	if text, _ := w.t.Text(count + 2); s != (api.Stmt{From: 9, Kind: newView, View: 8, Term: count + 2}) || e != api.OK || text != want {
		t.Errorf("NewStmt = %v, %d", s, e)
	}
	s, e = view.NewStmt(w.t, api.Msg{})
	if text, _ := w.t.Text(count + 3); s != (api.Stmt{Kind: newView, Term: count + 3}) || e != api.OK || text != "" {
		t.Errorf("NewStmt of nothing = %v, %d", s, e)
	}
	for _, bad := range []api.Change{{From: -1}, {From: 64}, {View: -1}, {Root: last + 1}, {Certs: []api.Cert{{Body: strings.Repeat("x", 65537)}}}} {
		if s, e := view.ChangeStmt(w.t, bad); s != (api.Stmt{}) || e != api.ErrArg {
			t.Errorf("ChangeStmt of what cannot be encoded = %v, %d", s, e)
		}
		if s, e := view.NewStmt(w.t, api.Msg{Changes: []api.Change{d, bad}}); s != (api.Stmt{}) || e != api.ErrArg {
			t.Errorf("NewStmt of what cannot be encoded = %v, %d", s, e)
		}
	}
	if w.t.Count() != count+3 {
		t.Error("what cannot be encoded has got a number")
	}
}

// lead returns the message of a new view; its statement is made.
func (w *world) lead(from, v int, l ...api.Change) api.Msg {
	m := api.Msg{Kind: newView, From: from, View: v, Changes: l}
	s, e := view.NewStmt(w.t, m)
	if e != api.OK {
		w.Fatal(e)
	}
	w.say(s)
	return m
}

// P32.3
func TestNewView(t *testing.T) {
	w := made(t)
	a, b := w.announce(api.Change{From: 0, View: 5}), w.announce(api.Change{From: 1, View: 5, Certs: []api.Cert{w.cert(6, 3, "six")}})
	c := w.announce(w.full())
	six, eight := w.of("six"), w.of("eight")
	good := w.lead(1, 5, b, c, a)
	choices, e := view.NewView(w.r, w.t, good, 4)
	if e != api.OK || len(choices) != 16 || choices[0] != (api.Choice{Seq: 5, Term: w.of("five"), Body: "five"}) || choices[1] != (api.Choice{Seq: 6, Term: six, Body: "six"}) || choices[2] != (api.Choice{Seq: 7, Null: true}) || choices[3] != (api.Choice{Seq: 8, Term: eight, Body: "eight"}) {
		t.Errorf("NewView = %v, %d", choices, e)
	}
	unsaid := api.Change{From: 3, View: 5}
	other := w.announce(api.Change{From: 3, View: 9})
	for _, x := range []struct {
		what string
		m    api.Msg
		n    int
		e    api.Errno
	}{
		{"another kind", func() api.Msg { m := good; m.Kind = changeKind; m.From = 0; return m }(), 4, api.ErrArg},
		{"no replicas", good, 5, api.ErrArg},
		{"no replicas", good, 0, api.ErrArg},
		{"not from the primary", w.lead(0, 5, a, b, c), 4, api.ErrView},
		{"not from the primary of seven", good, 7, api.ErrView},
		{"not from the primary, and wrong", w.lead(2, 5, unsaid), 4, api.ErrView},
		{"a change of another view", w.lead(1, 5, a, b, c, other), 4, api.ErrForm},
		{"changes of another view", w.lead(1, 9, a, b, c), 4, api.ErrForm},
		{"a change that does not hold", w.lead(1, 5, a, b, c, unsaid), 4, api.ErrForm},
		{"a change that cannot be encoded", api.Msg{Kind: newView, From: 1, View: 5, Changes: []api.Change{a, {From: -1, View: 5}}}, 4, api.ErrForm},
		{"two changes", w.lead(1, 5, a, c), 4, api.ErrArg},
		{"no changes", w.lead(1, 5), 4, api.ErrArg},
		{"a change twice", w.lead(1, 5, a, b, c, a), 4, api.ErrArg},
		{"no statement", api.Msg{Kind: newView, From: 1, View: 5, Changes: []api.Change{a, b, c}}, 4, api.ErrForged},
		{"view 0", w.lead(0, 0, a, b, c), 4, api.ErrForm},
		{"a view below 0", api.Msg{Kind: newView, From: 3, View: -1}, 4, api.ErrArg},
	} {
		if l, e := view.NewView(w.r, w.t, x.m, x.n); len(l) != 0 || e != x.e {
			t.Errorf("%s: %v, %d, want %d", x.what, l, e, x.e)
		}
	}
	m := api.Msg{Kind: newView, From: 1, View: 5, Changes: []api.Change{c, a, b}}
	for i := range 5 {
		s, _ := view.NewStmt(w.t, m)
		*[]*int{&s.From, &s.Kind, &s.View, &s.Seq, &s.Term}[i]++
		w.say(s)
		if l, e := view.NewView(w.r, w.t, m, 4); len(l) != 0 || e != api.ErrForged {
			t.Errorf("a new view holds by the statement %v: %d", s, e)
		}
	}
	m.Seq, m.Term, m.Body = 7, 7, "more"
	w.lead(1, 5, c, a, b)
	if l, e := view.NewView(w.r, w.t, m, 4); len(l) != 16 || e != api.OK {
		t.Errorf("NewView with other fields = %v, %d", l, e)
	}
}

// P32.3: of a change of another view nothing more is checked.
func TestNewViewTerms(t *testing.T) {
	w := made(t)
	count := func(l ...api.Change) int {
		x := term.New()
		view.NewView(w.r, x, api.Msg{Kind: newView, From: 1, View: 5, Changes: l}, 4)
		return x.Count()
	}
	other := api.Change{From: 0, View: 6, Certs: []api.Cert{{Seq: 1, Body: "x"}}}
	same := api.Change{From: 0, View: 5, Certs: []api.Cert{{Seq: 1, Body: "x"}}}
	if n := count(other, same); n != 0 {
		t.Errorf("%d numbers for a change of another view", n)
	}
	if n := count(same, same, other); n != 1 {
		t.Errorf("%d numbers for a change that does not hold", n)
	}
	if n := count(); n != 0 {
		t.Errorf("%d numbers for no changes", n)
	}
}

// P32.3: what cannot be given a term was not stated.
func TestNewViewFull(t *testing.T) {
	w := made(t)
	l := []api.Change{w.announce(api.Change{From: 0, View: 1}), w.announce(api.Change{From: 1, View: 1}), w.announce(api.Change{From: 2, View: 1})}
	w.say(api.Stmt{From: 1, Kind: newView, View: 1})
	for i := w.t.Count(); i < api.MaxTerms; i++ {
		w.t.Of(strconv.Itoa(i))
	}
	if got, e := view.NewView(w.r, w.t, api.Msg{Kind: newView, From: 1, View: 1, Changes: l}, 4); len(got) != 0 || e != api.ErrForged {
		t.Errorf("NewView in a full table = %v, %d", got, e)
	}
}

// P32.4: what is from a party that is not bad holds only if that party said it; bad ones may speak for one another.
func TestBad(t *testing.T) {
	r, _ := ring.New(5, []int{0, 3})
	x := term.New()
	for from := range 4 {
		c := api.Change{From: from, View: 1}
		s, _ := view.ChangeStmt(x, c)
		e := r.Say(3, s)
		if may := from == 0 || from == 3; (e == api.OK) != may || view.Change(r, x, c, 4) != may {
			t.Errorf("3 has stated a change of %d: %d", from, e)
		}
	}
}
