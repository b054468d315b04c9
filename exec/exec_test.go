package exec_test

import (
	"fmt"
	"math"
	"slices"
	"testing"

	"plenum/api"
	"plenum/exec"
	"plenum/locks"
	"plenum/store"
	"plenum/txn"
)

func num(n int64) api.Value { return api.Value{Kind: 2, I: n} }

// do returns a transaction that declares what it reads and writes.
func do(source string, reads, writes []string) api.Txn {
	return api.Txn{Client: 1, Time: 1, W: api.Want{Reads: reads, Writes: writes}, Source: source, Gas: 1000}
}

// puts returns a transaction that puts 1 at a key, and declares so.
func puts(k string) api.Txn { return do(fmt.Sprintf("put %q, 1;", k), nil, []string{k}) }

func made(t *testing.T, bytes, keys int, l ...api.Edit) api.Store {
	t.Helper()
	s, _ := store.New(bytes, keys)
	s, e, _ := store.Take(s, l)
	if e != api.OK {
		t.Fatal(e)
	}
	return s
}

// runs fails unless a batch takes these steps.
func runs(t *testing.T, l []api.Txn, workers int, picks, want []int) {
	t.Helper()
	s := made(t, 999, 99)
	serial, results, _ := exec.Serial(s, l)
	out, r, steps, e := exec.Run(s, l, workers, picks)
	if !slices.Equal(steps, want) || e != api.OK {
		t.Errorf("Run with %d workers and the picks %v: %v, %d, want %v", workers, picks, steps, e, want)
	}
	if !store.Same(out, serial) || !slices.Equal(r, results) {
		t.Errorf("Run with %d workers and the picks %v: %v, %v, want %v, %v", workers, picks, out, r, serial, results)
	}
}

// P25.2
func TestSteps(t *testing.T) {
	l := []api.Txn{puts("a"), puts("b")}
	runs(t, l, 2, nil, []int{0, 1, -1, -2})
	runs(t, l, 1, nil, []int{0, -1, 1, -2})
	runs(t, l, 2, []int{1}, []int{1, 0, -1, -2})
	runs(t, l, 1, []int{1}, []int{1, -2, 0, -1})
	runs(t, l, 2, []int{0, 1}, []int{0, -1, 1, -2})
	runs(t, l, 2, []int{2, 3, 4, 5, 6, 7}, []int{0, -1, 1, -2})
	runs(t, l, 2, []int{-1, -1, -1, -1}, []int{1, -2, 0, -1})
	runs(t, l, 2, []int{-2, 0, 1}, []int{0, 1, -2, -1})
	runs(t, l, 8, []int{math.MinInt, math.MaxInt, math.MinInt}, []int{0, -1, 1, -2})
	runs(t, l, 8, []int{0, 0, 1, 0, 9, 9, 9}, []int{0, 1, -2, -1})
	runs(t, nil, 1, []int{1, 2, 3}, nil)
	clashing := []api.Txn{puts("a"), do(`put "b", get("a");`, []string{"a"}, []string{"b"}), puts("c"), do(`put "d", get("b") + get("c");`, []string{"b", "c"}, []string{"d"})}
	runs(t, clashing, 8, nil, []int{0, 2, -1, 1, -2, -3, 3, -4})
	runs(t, clashing, 8, []int{1, 1}, []int{2, -3, 0, -1, 1, -2, 3, -4})
	runs(t, clashing, 1, nil, []int{0, -1, 1, -2, 2, -3, 3, -4})
	runs(t, clashing, 2, []int{0, 0, 1, 0, 0}, []int{0, 2, -3, -1, 1, -2, 3, -4})
	many := []api.Txn{puts("a"), puts("b"), puts("c"), puts("d")}
	runs(t, many, 3, nil, []int{0, 1, 2, -1, 3, -2, -3, -4})
	runs(t, many, 3, []int{3, 2, 1, 2, 2, 0, 1}, []int{3, 2, 1, -4, -3, 0, -2, -1})
}

// P25.1
func TestSerial(t *testing.T) {
	s := made(t, 99, 9, api.Edit{Key: "n", Val: num(1)})
	double := do(`put "n", get("n") * 2; return get("n");`, nil, []string{"n"})
	out, r, e := exec.Serial(s, []api.Txn{double, do("abort 5;", nil, nil), double, do("return 7;", nil, nil), double})
	want := []api.Result{{Val: num(2), Ver: 2}, {Code: api.ErrAbort, Val: num(5), Ver: 2}, {Val: num(4), Ver: 3}, {Val: num(7), Ver: 3}, {Val: num(8), Ver: 4}}
	if v, ver, _ := store.Get(out, "n"); e != api.OK || !slices.Equal(r, want) || v != num(8) || ver != 4 || out.Ver != 4 {
		t.Errorf("Serial = %v, %v, %d", out, r, e)
	}
	if out, r, e := exec.Serial(s, nil); !store.Same(out, s) || len(r) != 0 || e != api.OK {
		t.Errorf("Serial of nothing = %v, %v, %d", out, r, e)
	}
	if out, r, e := exec.Serial(s, slices.Repeat([]api.Txn{puts("a")}, 64)); out.Ver != 65 || len(r) != 64 || e != api.OK {
		t.Errorf("Serial of 64: %d, %d, %d", out.Ver, len(r), e)
	}
}

// P25.1, P25.2
func TestArg(t *testing.T) {
	s := made(t, 99, 9, api.Edit{Key: "n", Val: num(1)})
	wrong := s
	wrong.Keys = 0
	bad := puts("a")
	bad.Time = 0
	unreadable := puts("a")
	unreadable.Source = "?"
	refused := func(s api.Store, l []api.Txn, workers int) {
		t.Helper()
		if out, r, steps, e := exec.Run(s, l, workers, nil); !store.Same(out, api.Store{}) || len(r) != 0 || len(steps) != 0 || e != api.ErrArg {
			t.Errorf("Run = %v, %v, %v, %d", out, r, steps, e)
		}
	}
	for _, x := range []struct {
		s api.Store
		l []api.Txn
	}{
		{wrong, nil}, {wrong, []api.Txn{puts("a")}}, {s, []api.Txn{bad}}, {s, []api.Txn{puts("a"), puts("b"), unreadable}}, {s, slices.Repeat([]api.Txn{puts("a")}, 65)},
	} {
		if out, r, e := exec.Serial(x.s, x.l); !store.Same(out, api.Store{}) || len(r) != 0 || e != api.ErrArg {
			t.Errorf("Serial = %v, %v, %d", out, r, e)
		}
		for _, workers := range []int{0, 1, 8} {
			refused(x.s, x.l, workers)
		}
	}
	for _, workers := range []int{0, -1, 9, math.MaxInt, math.MinInt} {
		refused(s, nil, workers)
		refused(s, []api.Txn{puts("a")}, workers)
	}
	if _, r, _, e := exec.Run(s, slices.Repeat([]api.Txn{puts("a")}, 64), 8, nil); len(r) != 64 || e != api.OK {
		t.Errorf("Run of 64: %d, %d", len(r), e)
	}
}

// batches are transactions of which some clash, some do not end well, and some fit only in their order.
func batches() map[string][]api.Txn {
	move := do(`if get("a") > 0 { put "a", get("a") - 1; put "b", get("b") + 1; } else { abort get("b"); }`, nil, []string{"a", "b"})
	all := do(`let n = 0; for k, v in scan("", 64) { set n = n + 1; } put "n", n; return n;`, []string{""}, []string{"n"})
	grow := func(k string) api.Txn {
		return do(fmt.Sprintf("put %q, %q; return has(%q);", k, "0123456789", k), nil, []string{k})
	}
	drop := func(k string) api.Txn { return do(fmt.Sprintf("delete %q; return 1;", k), nil, []string{k}) }
	see := func(k, at string) api.Txn {
		return do(fmt.Sprintf("put %q, has(%q); return has(%q);", at, k, k), []string{k}, []string{at})
	}
	return map[string][]api.Txn{
		"moves":  {move, move, all, move, move, see("b", "x"), move},
		"quota":  {grow("x"), grow("y"), see("y", "z"), drop("a"), grow("w"), see("w", "v"), see("x", "u"), drop("x"), grow("y"), see("y", "z")},
		"room":   {drop("a"), puts("c"), puts("d"), see("c", "e"), drop("b"), see("d", "f"), puts("g"), see("e", "h"), see("g", "i")},
		"denied": {do(`put "a", 9;`, []string{"a"}, nil), puts("b"), do(`return get("b");`, nil, []string{"c"}), do("repeat 64 { repeat 64 { } }", nil, nil), see("b", "d"), do("return 1 / 0;", nil, []string{""}), see("d", "e")},
		"apart":  {puts("c"), puts("d"), puts("e"), puts("f"), puts("g"), puts("h"), puts("i"), puts("j")},
		"one":    {all},
	}
}

// P25.2, P25.3
func TestRun(t *testing.T) {
	for name, l := range batches() {
		for _, quota := range [][2]int{{999, 99}, {40, 99}, {30, 4}, {20, 3}, {7, 2}} {
			s := made(t, quota[0], quota[1], api.Edit{Key: "a", Val: num(3)}, api.Edit{Key: "b", Val: num(0)})
			serial, results, e := exec.Serial(s, l)
			if e != api.OK {
				t.Fatal(e)
			}
			var wants []api.Want
			for _, x := range l {
				wants = append(wants, x.W)
			}
			for workers := 1; workers <= 8; workers++ {
				for seed := range 12 {
					var picks []int
					for i := range 3 * seed {
						picks = append(picks, (seed*i*i+7*i-30)*(1-seed%2*2))
					}
					out, r, steps, e := exec.Run(s, l, workers, picks)
					if !store.Same(out, serial) || !slices.Equal(r, results) || e != api.OK {
						t.Fatalf("%s, %v, %d workers, picks %v: %v, %v, %d, want %v, %v", name, quota, workers, picks, out, r, e, serial, results)
					}
					if want := follow(wants, workers, picks); !slices.Equal(steps, want) {
						t.Fatalf("%s, %d workers, picks %v: the steps %v, want %v", name, workers, picks, steps, want)
					}
				}
			}
		}
	}
}

// follow returns the steps that the words of the chapter give.
func follow(wants []api.Want, workers int, picks []int) []int {
	x, _ := locks.New(wants)
	var steps []int
	for at := 0; !x.Done(); at++ {
		var events []int
		if len(x.Running()) < workers {
			events = x.Ready()
		}
		for _, i := range x.Running() {
			events = append(events, -1-i)
		}
		pick := 0
		if at < len(picks) {
			for pick = picks[at] % len(events); pick < 0; pick += len(events) {
			}
		}
		event := events[pick]
		if event >= 0 {
			x.Begin(event)
		} else {
			x.End(-1 - event)
		}
		steps = append(steps, event)
	}
	return steps
}

// P25.3: each transaction begins once, and ends once after that.
func TestComplete(t *testing.T) {
	for name, l := range batches() {
		_, _, steps, _ := exec.Run(made(t, 99, 9), l, 3, []int{2, 1, 5, 3, 2, 2, 1})
		for i := range l {
			begin, end := slices.Index(steps, i), slices.Index(steps, -1-i)
			if begin < 0 || end < begin {
				t.Errorf("%s: the steps are %v", name, steps)
			}
		}
		if len(steps) != 2*len(l) {
			t.Errorf("%s: the steps are %v", name, steps)
		}
	}
}

// R3: neither the transactions nor the picks are changed.
func TestArguments(t *testing.T) {
	l := batches()["moves"]
	before := txn.Encode(l[0])
	picks := []int{3, 2, 1}
	exec.Run(made(t, 99, 9), l, 2, picks)
	if !slices.Equal(picks, []int{3, 2, 1}) || !slices.Equal(txn.Encode(l[0]), before) {
		t.Error("an argument has changed")
	}
}
