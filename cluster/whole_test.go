package cluster_test

import (
	"fmt"
	"slices"
	"testing"

	"plenum/api"
	"plenum/batch"
	"plenum/cluster"
	"plenum/exec"
	"plenum/replies"
	"plenum/store"
	"plenum/txn"
	"plenum/wire"
)

// lab is a cluster that is driven at random, with a source of numbers that is the same each time.
type lab struct {
	*testing.T
	c          *cluster.Cluster
	n, clients int
	bad        []int
	seed       uint64
	words      int // statements that bad replicas may still make up in bulk
}

func newLab(t *testing.T, n, clients int, seed uint64, bad ...int) *lab {
	t.Helper()
	c, e := cluster.New(n, clients, empty(t), bad, 3, 20)
	if e != api.OK {
		t.Fatal(e)
	}
	return &lab{t, c, n, clients, bad, seed*0x9e3779b97f4a7c15 + 1, 20}
}

// below returns some number below n.
func (x *lab) below(n int) int {
	x.seed ^= x.seed << 13
	x.seed ^= x.seed >> 7
	x.seed ^= x.seed << 17
	return int(x.seed>>33) % n
}

// honest returns some replica that is not bad.
func (x *lab) honest() int {
	for {
		if p := x.below(x.n); !slices.Contains(x.bad, p) {
			return p
		}
	}
}

// source returns some transaction of a client: most count at a key of their client, some touch what others touch too.
func (x *lab) source(k int) api.Event {
	own := fmt.Sprintf("c/%d", k)
	count := fmt.Sprintf(`if has(%q) { put %q, get(%q) + 1; } else { put %q, 1; }`, own, own, own, own)
	e := api.Event{Do: api.EvAsk, P: k, W: api.Want{Writes: []string{own}}, Source: count, Gas: 200}
	switch x.below(6) {
	case 0:
		e.Source += fmt.Sprintf(` return get(%q);`, own)
	case 1:
		e.W.Writes = []string{own, "x"}
		e.Source += `if has("x") { put "x", get("x") * 2 % 1000; } else { put "x", 1; } return get("x");`
	case 2:
		e.W.Reads = []string{"c/"}
		e.Source = `let n = 0; for k, v in scan("c/", 20) { set n = n + v; } return n;`
	case 3:
		e.Source += ` abort 1;`
	case 4:
		e.Source += ` put "y", 1;`
	}
	return e
}

// try lets an event happen, if it may.
func (x *lab) try(e api.Event) api.Errno {
	return x.c.Do(e)
}

// step lets something happen.
func (x *lab) step() {
	kept := len(x.c.Kept())
	switch r := x.below(100); {
	case r < 12:
		x.try(x.source(x.below(x.clients)))
	case r < 72 && kept > 0:
		x.try(arrive(max(0, kept-1-x.below(min(kept, 24)))))
	case r < 76 && kept > 0:
		x.try(api.Event{Do: api.EvStray, P: x.honest(), K: x.below(kept)})
	case r < 82:
		x.try(tick(x.honest()))
	case r < 84:
		x.try(ring(x.below(x.clients)))
	case r < 85:
		x.try(settle)
	case len(x.bad) > 0 && kept > 0:
		x.misbehave()
	}
}

// misbehave lets a bad replica say something, and hands it to some replica.
func (x *lab) misbehave() {
	b := x.bad[x.below(len(x.bad))]
	kept := x.c.Kept()
	m := kept[x.below(len(kept))].M
	m.From = b
	switch x.below(8) {
	case 0:
		m.View = x.below(4)
	case 1:
		m.Seq = 1 + x.below(6)
	case 2:
		m.Kind = 2 + x.below(4)
	case 3:
		m.Term = 1 + x.below(60)
	case 4:
		m = x.proposal(b)
	case 5:
		m = x.change(b)
	}
	if len(m.Changes) == 0 {
		x.try(api.Event{Do: api.EvSay, P: b, S: api.Stmt{From: b, Kind: m.Kind, View: m.View, Seq: m.Seq, Term: m.Term}})
	}
	for range 1 + x.below(3) {
		x.try(api.Event{Do: api.EvForge, P: x.honest(), M: m})
	}
}

// proposal returns a proposal of requests that were made, in some order; it is said with many terms, of which one may be the right one.
func (x *lab) proposal(b int) api.Msg {
	var l []api.Txn
	for _, p := range x.c.Kept() {
		if t, e := txn.Decode([]byte(p.M.Body)); p.M.Kind == 1 && e == api.OK && x.below(5) == 0 && len(l) < 3 {
			l = append(l, t)
		}
	}
	m := api.Msg{Kind: 2, From: b, View: b + x.n*x.below(2), Seq: 1 + x.below(6), Body: string(batch.Encode(l))}
	return x.guess(m, m.Seq)
}

// change returns a change of a bad replica, with certificates of others.
func (x *lab) change(b int) api.Msg {
	c := api.Change{From: b, View: 1 + x.below(4)}
	for _, p := range x.c.Kept() {
		for _, d := range p.M.Changes {
			if x.below(3) == 0 {
				c.Stable, c.Root, c.Proof, c.Certs = d.Stable, d.Root, d.Proof, d.Certs[:x.below(len(d.Certs)+1)]
			}
		}
	}
	m := api.Msg{Kind: 6, From: b, View: c.View, Changes: []api.Change{c}}
	return x.guess(m, c.Stable)
}

// guess lets a bad replica say a statement with all terms that there may be, hands the message to a replica with each, and returns it with the last one that was not dropped.
func (x *lab) guess(m api.Msg, seq int) api.Msg {
	if x.words == 0 {
		return m
	}
	x.words--
	to := x.honest()
	r, _ := x.c.Replica(to)
	x.try(api.Event{Do: api.EvForge, P: to, M: m})
	best := m
	for number := 1; number <= 250; number++ {
		x.try(api.Event{Do: api.EvSay, P: m.From, S: api.Stmt{From: m.From, Kind: m.Kind, View: m.View, Seq: seq, Term: number}})
	}
	for number := 1; number <= 250 && m.Kind == 2; number++ {
		m.Term = number
		before := r.Drops()
		x.try(api.Event{Do: api.EvForge, P: to, M: m})
		if r.Drops() == before {
			best = m
			break
		}
	}
	return best
}

// executed is what the log of a replica that executed all batches itself comes to: the results by client and time, and what was executed.
type executed struct {
	results map[[2]int]api.Result
	fresh   []api.Txn
}

func (x *lab) replay(log []api.Done) executed {
	out := executed{results: map[[2]int]api.Result{}}
	s := empty(x.T)
	var done []api.Last
	for _, d := range log {
		l, _ := batch.Decode([]byte(d.Body))
		fresh, _ := replies.Fresh(done, l)
		next, results, e := exec.Serial(s, fresh)
		if e != api.OK {
			x.Fatal(e)
		}
		if done, e = replies.All(done, fresh, results); e != api.OK {
			x.Fatal(e)
		}
		s = next
		out.fresh = append(out.fresh, fresh...)
		for i, t := range fresh {
			out.results[[2]int{t.Client, t.Time}] = results[i]
		}
	}
	return out
}

// check fails if something is not as it is promised.
func (x *lab) check(what string) {
	x.Helper()
	asked := map[string]bool{}
	for _, p := range x.c.Kept() {
		if p.M.Kind == 1 {
			asked[p.M.Body] = true
		}
	}
	bodies := map[int]string{}
	states := map[int]int{}
	var longest []api.Done
	for p := range x.n {
		r, ok := x.c.Replica(p)
		if !ok {
			continue
		}
		for _, d := range r.Log() {
			if was, ok := bodies[d.Seq]; ok && was != d.Body {
				x.Fatalf("%s: number %d is %q and %q", what, d.Seq, was, d.Body)
			}
			bodies[d.Seq] = d.Body
		}
		if q, ok := states[r.Seq()]; ok {
			o, _ := x.c.Replica(q)
			if !store.Same(o.Store(), r.Store()) || !slices.Equal(o.Replies(), r.Replies()) {
				x.Fatalf("%s: replicas %d and %d differ after %d batches", what, q, p, r.Seq())
			}
		}
		states[r.Seq()] = p
		if s, l, ok := x.c.Model(p); ok {
			if !store.Same(s, r.Store()) || !slices.Equal(l, r.Replies()) {
				x.Fatalf("%s: replica %d is not as its model", what, p)
			}
			if len(r.Log()) > len(longest) {
				longest = r.Log()
			}
		}
		x.bounds(what, p)
	}
	done := x.replay(longest)
	times := map[int]int{}
	for _, t := range done.fresh {
		if !asked[string(txn.Encode(t))] {
			x.Fatalf("%s: nobody asked for %+v", what, t)
		}
		if t.Time <= times[t.Client] {
			x.Fatalf("%s: client %d at %d after %d", what, t.Client, t.Time, times[t.Client])
		}
		times[t.Client] = t.Time
	}
	for _, l := range x.c.Taken() {
		if r, ok := done.results[[2]int{l.Client, l.Time}]; ok && r != l.R {
			x.Fatalf("%s: client %d took %+v for %d, which comes to %+v", what, l.Client, l.R, l.Time, r)
		}
	}
}

// bounds fails if a replica keeps more than it may.
func (x *lab) bounds(what string, p int) {
	x.Helper()
	r, _ := x.c.Replica(p)
	m := r.Marks()
	if r.Waiting() > api.MaxQueue || r.Waiting() > x.clients || len(m.L) > x.n*api.Ahead/api.Every || r.Drops() > api.MaxDrops {
		x.Fatalf("%s: replica %d keeps %d transactions, %d marks", what, p, r.Waiting(), len(m.L))
	}
}

// heal lets all arrive, and time pass, until no client waits.
func (x *lab) heal() bool {
	for range 60 {
		x.try(settle)
		waits := false
		for k := range x.clients {
			c, _ := x.c.Client(k)
			waits = waits || c.Waits()
		}
		if !waits {
			return true
		}
		for p := range x.n {
			x.try(tick(p))
		}
	}
	return false
}

// P0.1, P0.2, P0.4, P0.5, P0.7, P35.5
func TestAnything(t *testing.T) {
	progress, took, views := 0, 0, 0
	for seed := range uint64(40) {
		n, f := 4, 1
		if seed%5 == 4 {
			n, f = 7, 2
		}
		var bad []int
		for p := range f {
			if seed%3 > 0 {
				bad = append(bad, (int(seed)+p*3)%n)
			}
		}
		x := newLab(t, n, 1+int(seed)%5, seed, bad...)
		what := fmt.Sprintf("seed %d, %d replicas of which %v are bad", seed, n, bad)
		for i := range 400 {
			x.step()
			if i%100 == 99 {
				x.check(what)
			}
		}
		if x.heal() {
			progress++
		}
		x.check(what)
		took += len(x.c.Taken())
		for p := range n {
			if r, ok := x.c.Replica(p); ok {
				v, _ := r.View()
				views = max(views, v)
			}
		}
	}
	t.Logf("%d came to rest, %d results, up to view %d", progress, took, views)
	if took < 100 || views < 2 {
		t.Errorf("%d results were taken, up to view %d: too little has happened", took, views)
	}
}

// P0.6
func TestProgress(t *testing.T) {
	for seed := range uint64(12) {
		n, f := 4, 1
		if seed%3 == 2 {
			n, f = 7, 2
		}
		for many := range f + 1 {
			var bad []int
			for p := range many {
				bad = append(bad, p)
			}
			x := newLab(t, n, 6, seed, bad...)
			for round := range 8 {
				for k := range x.clients {
					if e := x.try(x.source(k)); e != api.OK {
						t.Fatalf("seed %d, %v: client %d, round %d: %d", seed, bad, k, round, e)
					}
				}
				if !x.heal() {
					t.Fatalf("seed %d, %v: round %d does not end", seed, bad, round)
				}
			}
			x.check("progress")
			if l := x.c.Taken(); len(l) != 8*x.clients {
				t.Errorf("seed %d, %v: %d results", seed, bad, len(l))
			}
			if many == 0 {
				for p := range n {
					r, _ := x.c.Replica(p)
					if v, _ := r.View(); v != 0 {
						t.Errorf("seed %d: replica %d is in view %d", seed, p, v)
					}
				}
			}
		}
	}
}

// P0.4: what a bad replica reports alone is not believed.
func TestLyingReplies(t *testing.T) {
	x := newLab(t, 4, 1, 1, 3)
	x.try(ask(0))
	honest := txn.EncodeResult(api.Result{Val: api.Value{Kind: 3, S: "done"}, Ver: 1})
	lie := string(txn.EncodeResult(api.Result{Code: api.ErrAbort, Ver: 7}))
	for number := 1; number < 40; number++ {
		x.try(api.Event{Do: api.EvSay, P: 3, S: api.Stmt{From: 3, Kind: 8, Seq: 1, Term: number}})
	}
	x.try(settle)
	l := x.c.Taken()
	if len(l) != 1 || string(txn.EncodeResult(l[0].R)) != string(honest) || string(honest) == lie {
		t.Errorf("taken %+v", l)
	}
}

// P0.2: the request that a bad primary makes up is not executed.
func TestMadeUp(t *testing.T) {
	x := newLab(t, 4, 2, 1, 0)
	x.try(ask(1))
	body := string(batch.Encode([]api.Txn{{Client: 0, Time: 1, W: api.Want{Writes: []string{"a"}}, Source: `put "a", 9;`, Gas: 9}}))
	m := api.Msg{Kind: 2, Seq: 1, Body: body}
	for number := 1; number < 60; number++ {
		for _, kind := range []int{1, 2, 3, 4} {
			x.try(api.Event{Do: api.EvSay, P: 0, S: api.Stmt{Kind: kind, Seq: 1, Term: number}})
		}
		m.Term = number
		for p := 1; p < 4; p++ {
			x.try(api.Event{Do: api.EvForge, P: p, M: m})
		}
	}
	if !x.heal() {
		t.Error("the request that was made got no result")
	}
	for p := 1; p < 4; p++ {
		r, _ := x.c.Replica(p)
		if v, _, e := store.Get(r.Store(), "a"); e != api.OK || v.I != 1 {
			t.Errorf("replica %d has %v, %d", p, v, e)
		}
		for _, d := range r.Log() {
			if d.Body == body {
				t.Errorf("replica %d has executed what was made up", p)
			}
		}
	}
	for _, p := range x.c.Kept() {
		if !wire.May(p.M) {
			t.Errorf("kept %+v", p)
		}
	}
}
