package choose_test

import (
	"math"
	"slices"
	"strings"
	"testing"

	"plenum/api"
	"plenum/choose"
)

const last = 1<<31 - 1

func cert(seq, view, term int) api.Cert {
	return api.Cert{Seq: seq, View: view, Term: term, Body: strings.Repeat("b", term%100)}
}

func change(from, stable int, certs ...api.Cert) api.Change {
	return api.Change{From: from, View: 9, Stable: stable, Root: 100 + from, Certs: certs}
}

func choice(seq, term int) api.Choice {
	return api.Choice{Seq: seq, Term: term, Body: strings.Repeat("b", term%100)}
}

func null(seq int) api.Choice { return api.Choice{Seq: seq, Null: true} }

// three are the changes of the examples.
func three() []api.Change {
	return []api.Change{change(0, 0, cert(2, 0, 5)), change(1, 0, cert(2, 1, 6)), change(2, 0)}
}

// with returns three() with the second change replaced.
func with(c api.Change) []api.Change {
	l := three()
	l[1] = c
	return l
}

// refused are changes that are not eligible for 4 replicas.
func refused() [][]api.Change {
	long := cert(1, 0, 1)
	long.Body = strings.Repeat("x", 65537)
	return [][]api.Change{
		nil, three()[:2], three()[1:],
		with(change(0, 0)), with(change(2, 0)), with(change(4, 0)), with(change(-1, 0)), with(change(63, 0)), with(change(64, 0)), with(change(math.MaxInt, 0)), with(change(math.MinInt, 0)),
		append(three(), change(0, 0)), append(three(), change(4, 0)), append(three(), change(3, 1)),
		with(change(1, 1)), with(change(1, 6)), with(change(1, -4)), with(change(1, last)), with(change(1, last+1)), with(change(1, math.MaxInt-3)), with(change(1, math.MinInt)),
		with(change(1, 4, cert(4, 0, 1))), with(change(1, 4, cert(3, 0, 1))), with(change(1, 4, cert(21, 0, 1))), with(change(1, 0, cert(0, 0, 1))), with(change(1, 0, cert(17, 0, 1))), with(change(1, 0, cert(-1, 0, 1))), with(change(1, 0, cert(math.MaxInt, 0, 1))),
		with(change(1, 0, cert(2, 0, 1), cert(2, 1, 1))), with(change(1, 0, cert(3, 0, 1), cert(2, 1, 1))), with(change(1, 0, cert(1, 0, 1), cert(3, 0, 1), cert(2, 1, 1))),
		with(change(1, 0, cert(1, -1, 1))), with(change(1, 0, cert(1, 0, 1), cert(2, math.MinInt, 1))),
		with(change(1, 0, long)),
	}
}

// P31.1
func TestMay(t *testing.T) {
	most := cert(20, last, last)
	most.Body = strings.Repeat("x", 65536)
	for i, l := range [][]api.Change{
		three(), append(three(), change(3, 0)), with(change(3, 4, cert(5, 0, 1), most)), with(change(1, last-3)), with(change(1, last-3, cert(last-2, 0, 0))),
		{change(3, 8), change(2, 4), change(0, 0)},
	} {
		if !choose.May(l, 4) {
			t.Errorf("list %d is not eligible", i)
		}
	}
	for i, l := range refused() {
		if choose.May(l, 4) {
			t.Errorf("refused list %d is eligible", i)
		}
		if low, root, e := choose.Low(l, 4); low != 0 || root != 0 || e != api.ErrArg {
			t.Errorf("Low of refused list %d = %d, %d, %d", i, low, root, e)
		}
		if c, e := choose.Choices(l, 4); len(c) != 0 || e != api.ErrArg {
			t.Errorf("Choices of refused list %d = %v, %d", i, c, e)
		}
		for _, seq := range []int{0, 1, 99} {
			if c, e := choose.At(l, 4, seq); c != (api.Choice{}) || e != api.ErrArg {
				t.Errorf("At of refused list %d = %v, %d", i, c, e)
			}
		}
	}
	var many []api.Change
	for p := range 16 {
		many = append(many, change(p, 0))
	}
	for _, n := range []int{math.MinInt, -4, 0, 1, 3, 5, 6, 15, 17, 64, math.MaxInt} {
		if choose.May(many, n) || choose.May(three(), n) {
			t.Errorf("eligible for %d replicas", n)
		}
	}
	for n, strong := range map[int]int{4: 3, 7: 5, 10: 7, 13: 9, 16: 11} {
		if !choose.May(many[:strong], n) || choose.May(many[:strong-1], n) || !choose.May(many[:n], n) {
			t.Errorf("of %d replicas %d are not what is needed", n, strong)
		}
	}
}

// P31.2
func TestLow(t *testing.T) {
	for _, x := range []struct {
		l         []api.Change
		low, root int
	}{
		{three(), 0, 100},
		{with(change(1, 4)), 4, 101},
		{[]api.Change{change(2, 4), change(3, 8), change(1, 8), change(0, 0)}, 8, 103},
		{[]api.Change{change(2, 8), change(3, 8), change(1, 8)}, 8, 102},
		{[]api.Change{change(2, 0), change(0, 0), change(1, last-3)}, last - 3, 101},
	} {
		if low, root, e := choose.Low(x.l, 4); low != x.low || root != x.root || e != api.OK {
			t.Errorf("Low = %d, %d, %d, want %d, %d", low, root, e, x.low, x.root)
		}
	}
}

// P31.2
func TestChoices(t *testing.T) {
	for _, x := range []struct {
		what string
		l    []api.Change
		want []api.Choice
	}{
		{"the example", three(), []api.Choice{null(1), choice(2, 6)}},
		{"no certificates", []api.Change{change(0, 0), change(1, 4), change(2, 0)}, nil},
		{"the greatest view comes first", with(change(1, 0, cert(2, 3, 7), cert(4, 0, 0))), []api.Choice{null(1), choice(2, 7), null(3), choice(4, 0)}},
		{"the greatest view is the first one", []api.Change{change(2, 0, cert(1, 5, 8)), change(0, 0, cert(1, 4, 9)), change(1, 0, cert(1, 5, 7))}, []api.Choice{choice(1, 8)}},
		{"views of one number only", []api.Change{change(2, 0, cert(1, 5, 8), cert(2, 0, 3)), change(0, 0, cert(2, 1, 4)), change(1, 0)}, []api.Choice{choice(1, 8), choice(2, 4)}},
		{"what is low already", []api.Change{change(2, 0, cert(1, 5, 8), cert(4, 0, 3), cert(6, 0, 5)), change(0, 4, cert(5, 1, 4)), change(1, 0)}, []api.Choice{choice(5, 4), choice(6, 5)}},
		{"all is low already", []api.Change{change(2, 0, cert(1, 5, 8), cert(4, 0, 3)), change(0, 4), change(1, 0)}, nil},
		{"all numbers", []api.Change{change(2, 4, cert(20, 5, 8)), change(0, 4), change(1, 0, cert(16, 0, 2))}, append(append(nulls(5, 15), choice(16, 2)), append(nulls(17, 19), choice(20, 8))...)},
		{"more than enough", append(three(), change(3, 0, cert(1, 0, 1), cert(2, 7, 2))), []api.Choice{choice(1, 1), choice(2, 2)}},
		{"view 0", []api.Change{change(2, 0), change(0, 0, cert(1, 0, 4)), change(1, 0, cert(1, 0, 5))}, []api.Choice{choice(1, 4)}},
	} {
		got, e := choose.Choices(x.l, 4)
		if !slices.Equal(got, x.want) || e != api.OK {
			t.Errorf("%s: %v, %d, want %v", x.what, got, e, x.want)
		}
		low, _, _ := choose.Low(x.l, 4)
		for seq := low - 2; seq < low+20; seq++ {
			want, wantErr := null(seq), api.OK
			if seq <= low || seq > low+16 {
				want, wantErr = api.Choice{}, api.ErrMark
			} else if seq-low <= len(x.want) {
				want = x.want[seq-low-1]
			}
			if c, e := choose.At(x.l, 4, seq); c != want || e != wantErr {
				t.Errorf("%s: At(%d) = %v, %d, want %v, %d", x.what, seq, c, e, want, wantErr)
			}
		}
	}
	for _, seq := range []int{0, -1, 17, math.MaxInt, math.MinInt} {
		if c, e := choose.At(three(), 4, seq); c != (api.Choice{}) || e != api.ErrMark {
			t.Errorf("At(%d) = %v, %d", seq, c, e)
		}
	}
}

func nulls(from, to int) []api.Choice {
	var l []api.Choice
	for seq := from; seq <= to; seq++ {
		l = append(l, null(seq))
	}
	return l
}

// P31.3: what more changes have than are left out is chosen by the others.
func TestLeftOut(t *testing.T) {
	for seed := range 300 {
		var l []api.Change
		for p := range 7 {
			x := seed*31 + p*17
			c := change(p, x%3/2*4)
			for seq := c.Stable + 1; seq <= c.Stable+16; seq += 1 + (x+seq)%5 {
				view := (x*seq + seed) % 3
				c.Certs = append(c.Certs, cert(seq, view, 10*view+seq%4+1))
			}
			l = append(l, c)
		}
		for drop := range 1 << 7 {
			var others []api.Change
			for p := range 7 {
				if drop>>p&1 == 0 {
					others = append(others, l[p])
				}
			}
			if !choose.May(others, 7) {
				continue
			}
			out := 7 - len(others)
			for seq := 1; seq <= 24; seq++ {
				view, count := -1, 0
				var best api.Cert
				for _, c := range l {
					for _, x := range c.Certs {
						switch {
						case x.Seq == seq && x.View > view:
							view, count, best = x.View, 1, x
						case x.Seq == seq && x.View == view:
							count++
						}
					}
				}
				c, e := choose.At(others, 7, seq)
				if count > out && e == api.OK && (c.Null || c.Term != best.Term || c.Body != best.Body) {
					t.Fatalf("seed %d, without %b: at %d %v, want %v", seed, drop, seq, c, best)
				}
			}
			if c, _ := choose.Choices(others, 7); len(c) > 16 {
				t.Fatalf("%d choices", len(c))
			}
		}
	}
}
