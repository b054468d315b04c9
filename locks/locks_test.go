package locks_test

import (
	"math"
	"slices"
	"testing"

	"plenum/api"
	"plenum/clash"
	"plenum/locks"
)

// four are the declarations of the examples: of 0, a/ is written; of 1, a/1 is read; of 2, b is read; of 3, everything is written.
var four = []api.Want{{Writes: []string{"a/"}}, {Reads: []string{"a/1"}}, {Reads: []string{"b"}}, {Writes: []string{""}}}

func made(t *testing.T, l []api.Want) *locks.Table {
	t.Helper()
	x, e := locks.New(l)
	if e != api.OK || x == nil {
		t.Fatalf("New: %d", e)
	}
	return x
}

// is fails unless the table says this.
func is(t *testing.T, x *locks.Table, ready, running []int, left int) {
	t.Helper()
	if got := x.Ready(); !slices.Equal(got, ready) {
		t.Errorf("Ready = %v, want %v", got, ready)
	}
	if got := x.Running(); !slices.Equal(got, running) {
		t.Errorf("Running = %v, want %v", got, running)
	}
	if x.Left() != left || x.Done() != (left == 0) {
		t.Errorf("Left = %d, Done = %v, want %d", x.Left(), x.Done(), left)
	}
}

// does fails unless a call returned want.
func does(t *testing.T, what string, e, want api.Errno) {
	t.Helper()
	if e != want {
		t.Errorf("%s = %d, want %d", what, e, want)
	}
}

func waits(t *testing.T, x *locks.Table, i int, want ...int) {
	t.Helper()
	if got, e := x.Waits(i); !slices.Equal(got, want) || e != api.OK {
		t.Errorf("Waits(%d) = %v, %d, want %v", i, got, e, want)
	}
}

// P24.1
func TestNew(t *testing.T) {
	is(t, made(t, nil), nil, nil, 0)
	is(t, made(t, four), []int{0, 2}, nil, 4)
	is(t, made(t, make([]api.Want, 64)), upTo(64), nil, 64)
	for _, l := range [][]api.Want{make([]api.Want, 65), {{Reads: []string{"A"}}}, append(slices.Clone(four), api.Want{Writes: []string{"a", "B"}})} {
		if x, e := locks.New(l); x != nil || e != api.ErrArg {
			t.Errorf("New(%v) = %v, %d", l, x, e)
		}
	}
}

func upTo(n int) []int {
	var l []int
	for i := range n {
		l = append(l, i)
	}
	return l
}

// P24.2, P24.3
func TestCourse(t *testing.T) {
	x := made(t, four)
	waits(t, x, 0)
	waits(t, x, 1, 0)
	waits(t, x, 2)
	waits(t, x, 3, 0, 1, 2)
	does(t, "Begin of 1", x.Begin(1), api.ErrBusy)
	does(t, "Begin of 3", x.Begin(3), api.ErrBusy)
	does(t, "End of 0", x.End(0), api.ErrNone)
	is(t, x, []int{0, 2}, nil, 4)
	does(t, "Begin of 0", x.Begin(0), api.OK)
	is(t, x, []int{2}, []int{0}, 4)
	does(t, "Begin of 0", x.Begin(0), api.ErrThere)
	does(t, "Begin of 1", x.Begin(1), api.ErrBusy)
	does(t, "Begin of 2", x.Begin(2), api.OK)
	is(t, x, nil, []int{0, 2}, 4)
	waits(t, x, 0)
	waits(t, x, 2)
	waits(t, x, 3, 0, 1, 2)
	does(t, "End of 0", x.End(0), api.OK)
	is(t, x, []int{1}, []int{2}, 3)
	waits(t, x, 1)
	waits(t, x, 3, 1, 2)
	does(t, "End of 0", x.End(0), api.ErrThere)
	does(t, "Begin of 0", x.Begin(0), api.ErrThere)
	does(t, "End of 3", x.End(3), api.ErrNone)
	does(t, "Begin of 1", x.Begin(1), api.OK)
	does(t, "End of 2", x.End(2), api.OK)
	waits(t, x, 3, 1)
	is(t, x, nil, []int{1}, 2)
	does(t, "Begin of 3", x.Begin(3), api.ErrBusy)
	does(t, "End of 1", x.End(1), api.OK)
	is(t, x, []int{3}, nil, 1)
	waits(t, x, 3)
	does(t, "Begin of 3", x.Begin(3), api.OK)
	is(t, x, nil, []int{3}, 1)
	does(t, "End of 3", x.End(3), api.OK)
	is(t, x, nil, nil, 0)
	for i := range 4 {
		waits(t, x, i)
		does(t, "Begin of what is done", x.Begin(i), api.ErrThere)
		does(t, "End of what is done", x.End(i), api.ErrThere)
	}
}

// P24.2, P24.3
func TestRange(t *testing.T) {
	for _, l := range [][]api.Want{nil, four} {
		x := made(t, l)
		for _, i := range []int{-1, len(l), math.MaxInt, math.MinInt} {
			if got, e := x.Waits(i); len(got) != 0 || e != api.ErrRange {
				t.Errorf("Waits(%d) = %v, %d", i, got, e)
			}
			does(t, "Begin", x.Begin(i), api.ErrRange)
			does(t, "End", x.End(i), api.ErrRange)
		}
	}
}

// R3: the table is its own.
func TestCopies(t *testing.T) {
	l := slices.Clone(four)
	x := made(t, l)
	clear(l)
	w, _ := x.Waits(3)
	clear(w)
	clear(x.Ready())
	waits(t, x, 3, 0, 1, 2)
	is(t, x, []int{0, 2}, nil, 4)
}

// P24.4
func TestAnyOrder(t *testing.T) {
	var l []api.Want
	for i := range 16 {
		l = append(l, api.Want{Reads: []string{string(rune('a' + i%5))}, Writes: []string{string(rune('a' + i*i%7))}})
	}
	for seed := range 200 {
		x := made(t, l)
		var ended []int
		for step := 0; !x.Done(); step++ {
			ready, running := x.Ready(), x.Running()
			if len(ready)+len(running) == 0 {
				t.Fatalf("nothing may happen after %v", ended)
			}
			for _, i := range running {
				for _, j := range running {
					if i != j && clash.Pair(l[i], l[j]) {
						t.Fatalf("%d and %d run beside each other", i, j)
					}
				}
			}
			pick := (seed*7 + step*step*(seed%3+1)) % (len(ready) + len(running))
			if pick < len(ready) {
				does(t, "Begin", x.Begin(ready[pick]), api.OK)
			} else {
				i := running[pick-len(ready)]
				does(t, "End", x.End(i), api.OK)
				ended = append(ended, i)
			}
		}
		if ok, e := clash.Swap(l, ended); !ok || e != api.OK {
			t.Errorf("they ended in the order %v: %v, %d", ended, ok, e)
		}
	}
}
