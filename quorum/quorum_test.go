package quorum_test

import (
	"math"
	"slices"
	"testing"

	"plenum/api"
	"plenum/quorum"
)

const full = ^api.Set(0)

// outside are numbers that no set has.
var outside = []int{-1, -64, 64, 65, 128, math.MaxInt, math.MinInt}

// P5.1
func TestReplicas(t *testing.T) {
	for f, want := range map[int]int{1: 4, 2: 7, 3: 10, 4: 13, 5: 16} {
		if n, e := quorum.Replicas(f); n != want || e != api.OK {
			t.Errorf("Replicas(%d) = %d, %d", f, n, e)
		}
	}
	for _, f := range []int{0, -1, 6, math.MaxInt, math.MinInt, math.MaxInt/3 + 2} {
		if n, e := quorum.Replicas(f); n != 0 || e != api.ErrArg {
			t.Errorf("Replicas(%d) = %d, %d", f, n, e)
		}
	}
}

// P5.1
func TestSizes(t *testing.T) {
	sizes := map[int][3]int{4: {1, 3, 2}, 7: {2, 5, 3}, 10: {3, 7, 4}, 13: {4, 9, 5}, 16: {5, 11, 6}}
	try := []int{math.MaxInt, math.MinInt}
	for n := -20; n < 40; n++ {
		try = append(try, n)
	}
	for _, n := range try {
		want, is := sizes[n]
		f, e := quorum.Faults(n)
		if f != want[0] || (e == api.OK) != is || !is && e != api.ErrArg {
			t.Errorf("Faults(%d) = %d, %d", n, f, e)
		}
		if q := quorum.Strong(n); q != want[1] {
			t.Errorf("Strong(%d) = %d, want %d", n, q, want[1])
		}
		if q := quorum.Weak(n); q != want[2] {
			t.Errorf("Weak(%d) = %d, want %d", n, q, want[2])
		}
	}
}

// P5.2
func TestMembers(t *testing.T) {
	for n := range 64 {
		one := api.Set(1) << n
		for _, s := range []api.Set{0, one, 11, 11 | one, full, full ^ one} {
			if got := quorum.With(s, n); got != s|one {
				t.Errorf("With(%x, %d) = %x", s, n, got)
			}
			if got := quorum.Without(s, n); got != s&^one {
				t.Errorf("Without(%x, %d) = %x", s, n, got)
			}
			if got := quorum.Has(s, n); got != (s&one != 0) {
				t.Errorf("Has(%x, %d) = %v", s, n, got)
			}
		}
	}
	for _, n := range outside {
		for _, s := range []api.Set{0, 11, full} {
			if quorum.With(s, n) != s || quorum.Without(s, n) != s || quorum.Has(s, n) {
				t.Errorf("%d changes %x, or is in it", n, s)
			}
		}
	}
}

// P5.2
func TestList(t *testing.T) {
	for s, want := range map[api.Set][]int{0: nil, 11: {0, 1, 3}, 1: {0}, 1 << 63: {63}, 1<<63 | 1<<32 | 1<<31 | 1: {0, 31, 32, 63}} {
		if got := quorum.List(s); !slices.Equal(got, want) {
			t.Errorf("List(%x) = %v, want %v", s, got, want)
		}
		if got := quorum.Count(s); got != len(want) {
			t.Errorf("Count(%x) = %d", s, got)
		}
		if got := quorum.Of(want); got != s {
			t.Errorf("Of(%v) = %x", want, got)
		}
	}
	every := quorum.List(full)
	if len(every) != 64 || every[0] != 0 || every[63] != 63 || !slices.IsSorted(every) || quorum.Count(full) != 64 {
		t.Errorf("List of all = %v", every)
	}
	if got := quorum.Of(append([]int{3, 1, 3, 0, 1}, outside...)); got != 11 {
		t.Errorf("Of with more = %x", got)
	}
	if quorum.Of(nil) != 0 || quorum.Of(outside) != 0 {
		t.Error("Of of nothing")
	}
}

// P5.2
func TestAll(t *testing.T) {
	for n, want := range map[int]api.Set{math.MinInt: 0, -1: 0, 0: 0, 1: 1, 4: 15, 63: full >> 1, 64: full, 65: full, math.MaxInt: full} {
		if got := quorum.All(n); got != want {
			t.Errorf("All(%d) = %x, want %x", n, got, want)
		}
	}
}

// P5.3
func TestQuorums(t *testing.T) {
	for n, q := range map[int][2]int{4: {3, 2}, 7: {5, 3}, 10: {7, 4}, 13: {9, 5}, 16: {11, 6}} {
		beyond := full &^ quorum.All(n)
		for many := 0; many <= n; many++ {
			low := quorum.All(many)
			high := quorum.All(n) &^ quorum.All(n-many)
			for _, s := range []api.Set{low, high, low | beyond, high | beyond} {
				if got := quorum.IsStrong(s, n); got != (many >= q[0]) {
					t.Errorf("IsStrong(%x, %d) = %v", s, n, got)
				}
				if got := quorum.IsWeak(s, n); got != (many >= q[1]) {
					t.Errorf("IsWeak(%x, %d) = %v", s, n, got)
				}
			}
		}
	}
	for _, n := range []int{math.MinInt, -4, 0, 1, 3, 5, 6, 8, 15, 17, 19, 64, math.MaxInt} {
		for _, s := range []api.Set{0, full} {
			if quorum.IsStrong(s, n) || quorum.IsWeak(s, n) {
				t.Errorf("%x is a quorum of %d", s, n)
			}
		}
	}
	if !quorum.IsStrong(11, 4) {
		t.Error("0, 1, 3 of 4 are not strong")
	}
}

// P5.4
func TestPrimary(t *testing.T) {
	for _, x := range []struct{ view, n, want int }{
		{0, 4, 0}, {3, 4, 3}, {4, 4, 0}, {9, 4, 1}, {-1, 4, 3}, {-4, 4, 0}, {-5, 4, 3}, {16, 7, 2},
		{5, 1, 0}, {-5, 1, 0}, {5, 0, 0}, {5, -1, 0}, {5, -4, 0}, {7, math.MinInt, 0},
		{math.MaxInt, 4, 3}, {math.MinInt, 4, 0}, {math.MinInt, 7, 6},
		{math.MaxInt - 1, math.MaxInt, math.MaxInt - 1}, {-1, math.MaxInt, math.MaxInt - 1}, {math.MinInt, math.MaxInt, math.MaxInt - 1},
	} {
		if p := quorum.Primary(x.view, x.n); p != x.want {
			t.Errorf("Primary(%d, %d) = %d, want %d", x.view, x.n, p, x.want)
		}
	}
}

// P5.5
func TestOverlap(t *testing.T) {
	var strong []api.Set
	for s := range api.Set(1 << 7) {
		if quorum.IsStrong(s, 7) {
			strong = append(strong, s)
			if !quorum.IsWeak(s, 7) {
				t.Errorf("%x is strong, but not weak", s)
			}
		}
	}
	for _, a := range strong {
		for _, b := range strong {
			if !quorum.IsWeak(a&b, 7) {
				t.Errorf("%x and %x have %x in common", a, b, a&b)
			}
		}
		for p := range 7 {
			if !quorum.IsWeak(quorum.Without(quorum.Without(a, p), (p+3)%7), 7) {
				t.Errorf("%x without two is not weak", a)
			}
		}
	}
}
