package ints_test

import (
	"math"
	"slices"
	"testing"

	"plenum/ints"
	"plenum/term"
)

// TestSplit: what layer 2 writes is read as it was.
func TestSplit(t *testing.T) {
	for _, want := range [][]int{nil, {0}, {1}, {-1}, {12, 3}, {math.MaxInt, math.MinInt, 0, 0}} {
		x := term.New()
		x.List(want)
		s, _ := x.Text(1)
		if l, ok := ints.Split(s); !ok || !slices.Equal(l, want) {
			t.Errorf("Split(%q) = %v, %v", s, l, ok)
		}
	}
	for _, s := range []string{"1", ",", "1,,", "01,", "+1,", "-0,", "00,", "1, ", " 1,", "a,", "1,a,", "1.0,", "0x1,", "9223372036854775808,", "1,2", "1,2,x", ",1,"} {
		if l, ok := ints.Split(s); ok || len(l) != 0 {
			t.Errorf("Split(%q) = %v, %v", s, l, ok)
		}
	}
}
