package cluster_test

import (
	"fmt"
	"testing"

	"plenum/api"
	"plenum/cluster"
	"plenum/store"
)

// with returns a cluster of four replicas and some clients, whose store has these quotas and, after one version, these items.
func with(t *testing.T, clients, bytes, keys int, l ...api.Edit) *cluster.Cluster {
	t.Helper()
	s, _ := store.New(bytes, keys)
	s, e, _ := store.Take(s, l)
	if e != api.OK {
		t.Fatal(e)
	}
	c, e := cluster.New(4, clients, s, nil, 3, 20)
	if e != api.OK {
		t.Fatal(e)
	}
	return c
}

func num(n int64) api.Value { return api.Value{Kind: 2, I: n} }

// source is the event in which a client asks for a transaction that writes under a pattern.
func source(k int, s, writes string) api.Event {
	return api.Event{Do: api.EvAsk, P: k, W: api.Want{Writes: []string{writes}}, Source: s, Gas: 1000}
}

// has fails unless all replicas have this at a key.
func has(t *testing.T, c *cluster.Cluster, k string, want api.Value, wantErr api.Errno) {
	t.Helper()
	for p := range 4 {
		r, _ := c.Replica(p)
		if v, _, e := store.Get(r.Store(), k); v != want || e != wantErr {
			t.Errorf("replica %d has %v, %d at %s, want %v, %d", p, v, e, k, want, wantErr)
		}
	}
}

// Examples 1 and 2 of the whole: two replies are enough, and a request that comes again is not executed again.
func TestExampleTwice(t *testing.T) {
	c := made(t, 4, 1)
	do(t, c, ask(0))
	for k := 0; k < len(c.Kept()); k++ {
		if c.Kept()[k].To != 4 {
			do(t, c, arrive(k))
		}
	}
	sent := 0
	for k, x := range c.Kept() {
		if x.To == 4 && sent < 2 {
			do(t, c, arrive(k))
			if sent++; len(c.Taken()) != sent/2 {
				t.Errorf("after %d replies taken %v", sent, c.Taken())
			}
		}
	}
	before := len(c.Kept())
	for k := range 4 {
		do(t, c, arrive(k))
	}
	kept := c.Kept()
	if len(kept) != before+4 {
		t.Fatalf("%d posts, want 4", len(kept)-before)
	}
	for p, x := range kept[before:] {
		if x.To != 4 || x.M.Kind != 8 || x.M.From != p {
			t.Errorf("posted %+v", x)
		}
		if r, _ := c.Replica(p); r.Seq() != 1 {
			t.Errorf("replica %d has executed %d batches", p, r.Seq())
		}
	}
}

// Example 6.
func TestExampleLoop(t *testing.T) {
	const add = `for k, v in scan("a/", 9) { put k, v + 1; }`
	c := with(t, 1, 999, 99, api.Edit{Key: "a/1", Val: num(1)}, api.Edit{Key: "a/2", Val: num(5)}, api.Edit{Key: "b", Val: num(7)})
	do(t, c, source(0, add, "a/"), settle)
	has(t, c, "a/1", num(2), api.OK)
	has(t, c, "a/2", num(6), api.OK)
	has(t, c, "b", num(7), api.OK)
	text := api.Value{Kind: 3, S: "x"}
	c = with(t, 1, 999, 99, api.Edit{Key: "a/1", Val: num(1)}, api.Edit{Key: "a/2", Val: text})
	do(t, c, source(0, add, "a/"), settle)
	has(t, c, "a/1", num(1), api.OK)
	has(t, c, "a/2", text, api.OK)
	if l := c.Taken(); len(l) != 1 || l[0].R.Code != api.ErrType || l[0].R.Ver != 1 {
		t.Errorf("taken %v", l)
	}
}

// Example 8.
func TestExampleQuota(t *testing.T) {
	c := with(t, 3, 999, 2)
	for k := range 3 {
		s := fmt.Sprintf("k%d", k)
		do(t, c, source(k, fmt.Sprintf("put %q, 1;", s), s))
	}
	do(t, c, settle)
	has(t, c, "k0", num(1), api.OK)
	has(t, c, "k1", num(1), api.OK)
	has(t, c, "k2", api.Value{}, api.ErrNone)
	want := []api.Errno{api.OK, api.OK, api.ErrQuota}
	for _, l := range c.Taken() {
		if l.R.Code != want[l.Client] {
			t.Errorf("client %d took %v", l.Client, l.R)
		}
	}
	if len(c.Taken()) != 3 {
		t.Errorf("taken %v", c.Taken())
	}
}

// Example 9.
func TestExampleGas(t *testing.T) {
	c := with(t, 1, 999, 99)
	do(t, c, source(0, `put "a", 1; repeat 64 { repeat 64 { } }`, "a"), settle)
	has(t, c, "a", api.Value{}, api.ErrNone)
	if l := c.Taken(); len(l) != 1 || l[0].R.Code != api.ErrGas || l[0].R.Ver != 1 {
		t.Errorf("taken %v", l)
	}
}
