package clock_test

import (
	"math"
	"testing"

	"plenum/api"
	"plenum/clock"
)

// good are clocks at the edges of what is valid.
var good = []api.Clock{
	{Base: 1, Wait: 1, Cap: 1},
	{Base: 2, Wait: 2, Cap: 5},
	{Base: 2, Wait: 5, Cap: 5, Now: 7},
	{Base: 2, Wait: 3, Cap: 5, Now: 7, On: true, Due: 8},
	{Base: 2, Wait: 3, Cap: 5, Now: 7, On: true, Due: 10},
	{Base: 1, Wait: 1, Cap: api.MaxWait},
	{Base: api.MaxWait, Wait: api.MaxWait, Cap: api.MaxWait, Now: api.LastNow, On: true, Due: api.LastNow + api.MaxWait},
	{Base: 3, Wait: 4, Cap: 9, Now: api.LastNow},
	{Base: 3, Wait: 4, Cap: 9, Now: api.LastNow - 1, On: true, Due: api.LastNow},
}

// wrong are clocks that are not valid, each for one reason.
var wrong = []api.Clock{
	{},
	{Base: 0, Wait: 1, Cap: 1},
	{Base: -1, Wait: 1, Cap: 1},
	{Base: math.MinInt, Wait: 1, Cap: 1},
	{Base: 1, Wait: 1, Cap: api.MaxWait + 1},
	{Base: 1, Wait: 1, Cap: math.MaxInt},
	{Base: api.MaxWait + 1, Wait: api.MaxWait + 1, Cap: api.MaxWait + 1},
	{Base: 5, Wait: 5, Cap: 4},
	{Base: 5, Wait: 4, Cap: 9},
	{Base: 5, Wait: 10, Cap: 9},
	{Base: 5, Wait: 0, Cap: 9},
	{Base: 2, Wait: 3, Cap: 5, Now: -1},
	{Base: 2, Wait: 3, Cap: 5, Now: math.MinInt},
	{Base: 2, Wait: 3, Cap: 5, Now: -1, On: true, Due: 1},
	{Base: 2, Wait: 3, Cap: 5, Now: api.LastNow + 1},
	{Base: 2, Wait: 3, Cap: 5, Now: math.MaxInt, On: true, Due: math.MaxInt},
	{Base: 2, Wait: 3, Cap: 5, Now: 7, On: true, Due: 7},
	{Base: 2, Wait: 3, Cap: 5, Now: 7, On: true, Due: 11},
	{Base: 2, Wait: 3, Cap: 5, Now: 7, On: true},
	{Base: 2, Wait: 3, Cap: 5, Now: 7, On: true, Due: -1},
	{Base: 2, Wait: 3, Cap: 5, Now: 7, On: true, Due: math.MinInt},
	{Base: 2, Wait: 3, Cap: 5, Now: 7, On: true, Due: math.MaxInt},
	{Base: 2, Wait: 3, Cap: 5, Now: 7, Due: 8},
	{Base: 2, Wait: 3, Cap: 5, Due: -1},
}

// is fails unless c is want.
func is(t *testing.T, what string, c api.Clock, e api.Errno, want api.Clock) {
	t.Helper()
	if c != want || e != api.OK {
		t.Errorf("%s: %+v, %d, want %+v", what, c, e, want)
	}
}

// P6.1
func TestNew(t *testing.T) {
	for _, x := range [][2]int{{1, 1}, {2, 5}, {1, api.MaxWait}, {api.MaxWait, api.MaxWait}} {
		c, e := clock.New(x[0], x[1])
		is(t, "New", c, e, api.Clock{Wait: x[0], Base: x[0], Cap: x[1]})
	}
	for _, x := range [][2]int{{0, 1}, {0, 0}, {-1, 5}, {5, 4}, {1, api.MaxWait + 1}, {api.MaxWait + 1, api.MaxWait + 1}, {math.MinInt, math.MaxInt}, {math.MaxInt, math.MaxInt}} {
		if c, e := clock.New(x[0], x[1]); c != (api.Clock{}) || e != api.ErrArg {
			t.Errorf("New(%d, %d) = %+v, %d", x[0], x[1], c, e)
		}
	}
}

// P6.1
func TestMay(t *testing.T) {
	for _, c := range good {
		if !clock.May(c) {
			t.Errorf("May(%+v) is false", c)
		}
	}
	for _, c := range wrong {
		if clock.May(c) {
			t.Errorf("May(%+v) is true", c)
		}
	}
}

// P6.1
func TestWrong(t *testing.T) {
	for _, c := range wrong {
		for name, do := range map[string]func(api.Clock) (api.Clock, api.Errno){"Start": clock.Start, "Stop": clock.Stop, "Double": clock.Double, "Reset": clock.Reset} {
			if got, e := do(c); got != (api.Clock{}) || e != api.ErrArg {
				t.Errorf("%s(%+v) = %+v, %d", name, c, got, e)
			}
		}
		if got, rings, e := clock.Tick(c); got != (api.Clock{}) || rings || e != api.ErrArg {
			t.Errorf("Tick(%+v) = %+v, %v, %d", c, got, rings, e)
		}
		if n := clock.Left(c); n != 0 {
			t.Errorf("Left(%+v) = %d", c, n)
		}
	}
}

// P6.2, P6.4
func TestChanges(t *testing.T) {
	for _, c := range good {
		want := c
		want.On, want.Due = true, c.Now+c.Wait
		got, e := clock.Start(c)
		is(t, "Start", got, e, want)
		if n := clock.Left(got); n != c.Wait {
			t.Errorf("Left after Start of %+v = %d", c, n)
		}
		want.On, want.Due = false, 0
		got, e = clock.Stop(c)
		is(t, "Stop", got, e, want)
		if n := clock.Left(got); n != 0 {
			t.Errorf("Left after Stop of %+v = %d", c, n)
		}
		want = c
		want.Wait = min(2*c.Wait, c.Cap)
		got, e = clock.Double(c)
		is(t, "Double", got, e, want)
	}
	c := api.Clock{Base: 2, Wait: 5, Cap: 9, Now: 10, On: true, Due: 14}
	if n := clock.Left(c); n != 4 {
		t.Errorf("Left = %d", n)
	}
	c.Wait = 4
	got, e := clock.Double(c)
	is(t, "Double", got, e, api.Clock{Base: 2, Wait: 8, Cap: 9, Now: 10, On: true, Due: 14})
	got, e = clock.Double(got)
	is(t, "Double up to the bound", got, e, api.Clock{Base: 2, Wait: 9, Cap: 9, Now: 10, On: true, Due: 14})
}

// P6.4
func TestReset(t *testing.T) {
	for due, want := range map[int]int{11: 11, 12: 12, 13: 12, 19: 12} {
		got, e := clock.Reset(api.Clock{Base: 2, Wait: 9, Cap: 9, Now: 10, On: true, Due: due})
		is(t, "Reset", got, e, api.Clock{Base: 2, Wait: 2, Cap: 9, Now: 10, On: true, Due: want})
	}
	got, e := clock.Reset(api.Clock{Base: 2, Wait: 9, Cap: 9, Now: 10})
	is(t, "Reset of one that does not run", got, e, api.Clock{Base: 2, Wait: 2, Cap: 9, Now: 10})
}

// P6.3
func TestTick(t *testing.T) {
	c := api.Clock{Base: 2, Wait: 3, Cap: 5, Now: 7, On: true, Due: 9}
	c, rings, e := clock.Tick(c)
	is(t, "Tick", c, e, api.Clock{Base: 2, Wait: 3, Cap: 5, Now: 8, On: true, Due: 9})
	if rings {
		t.Error("rings too early")
	}
	c, rings, e = clock.Tick(c)
	is(t, "Tick", c, e, api.Clock{Base: 2, Wait: 3, Cap: 5, Now: 9})
	if !rings {
		t.Error("does not ring")
	}
	c, rings, e = clock.Tick(c)
	is(t, "Tick", c, e, api.Clock{Base: 2, Wait: 3, Cap: 5, Now: 10})
	if rings {
		t.Error("rings though it does not run")
	}
}

// P6.3
func TestLastNow(t *testing.T) {
	c := api.Clock{Base: 2, Wait: 3, Cap: 5, Now: api.LastNow - 1, On: true, Due: api.LastNow}
	c, rings, e := clock.Tick(c)
	is(t, "the last tick", c, e, api.Clock{Base: 2, Wait: 3, Cap: 5, Now: api.LastNow})
	if !rings {
		t.Error("does not ring at the last tick")
	}
	for _, on := range []bool{false, true} {
		if on {
			c, _ = clock.Start(c)
		}
		if got, rings, e := clock.Tick(c); got != (api.Clock{}) || rings || e != api.ErrOver {
			t.Errorf("Tick(%+v) = %+v, %v, %d", c, got, rings, e)
		}
	}
	c.Wait = 9
	if _, _, e := clock.Tick(c); e != api.ErrArg {
		t.Errorf("Tick of a wrong clock at LastNow = %d", e)
	}
}

// P6.5
func TestRings(t *testing.T) {
	c, _ := clock.New(3, 20)
	for range 5 {
		started, _ := clock.Start(c)
		for n := 1; n <= c.Wait; n++ {
			var rings bool
			if started, rings, _ = clock.Tick(started); rings != (n == c.Wait) {
				t.Errorf("with a wait of %d, tick %d: %v", c.Wait, n, rings)
			}
		}
		if c, _ = clock.Double(c); c.Wait > 20 {
			t.Errorf("Wait = %d", c.Wait)
		}
	}
	if c.Wait != 20 {
		t.Errorf("Wait = %d after five times", c.Wait)
	}
}
