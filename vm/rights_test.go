package vm_test

import (
	"fmt"
	"math"
	"slices"
	"strings"
	"testing"

	"plenum/api"
	"plenum/code"
	"plenum/store"
	"plenum/vm"
)

// P21.2
func TestReadsWrites(t *testing.T) {
	w := api.Want{Reads: []string{"a", "b/"}, Writes: []string{"c", "b/x"}}
	for k, want := range map[string][2]bool{
		"a": {true, false}, "ab": {true, false}, "b": {false, false}, "b/": {true, false}, "b/1": {true, false}, "b/x": {true, true}, "b/xy": {true, true}, "c": {true, true}, "c/1": {true, true}, "d": {false, false},
		"": {false, false}, "aA": {false, false}, "cA": {false, false}, "a" + strings.Repeat("a", 24): {false, false}, "c" + strings.Repeat("a", 24): {false, false},
	} {
		if vm.Reads(w, k) != want[0] || vm.Writes(w, k) != want[1] {
			t.Errorf("%q: Reads %v, Writes %v", k, vm.Reads(w, k), vm.Writes(w, k))
		}
	}
	for _, k := range []string{"", "a", "A"} {
		if vm.Reads(api.Want{}, k) || vm.Writes(api.Want{}, k) || vm.Reads(all, k) != (k == "a") || vm.Writes(all, k) != (k == "a") {
			t.Errorf("%q with nothing, and with everything", k)
		}
	}
	if vm.Writes(api.Want{Reads: []string{""}}, "a") || !vm.Reads(api.Want{Reads: []string{""}}, "a") {
		t.Error("what may be read may be written")
	}
}

// P21.1
func TestDeny(t *testing.T) {
	s := some(t)
	w := api.Want{Reads: []string{"a", "c/1"}, Writes: []string{"b", "d/"}}
	deny := func(node, gas int) api.Outcome { return api.Outcome{Code: api.ErrDeny, Node: node, Gas: gas} }
	runs(t, `return get("a") + get("b");`, s, w, plenty, api.Outcome{Node: 5, Val: num(3), Gas: 6})
	runs(t, `return get("q");`, s, w, plenty, deny(1, 3))
	runs(t, `return has("q");`, s, w, plenty, deny(1, 3))
	runs(t, `return has("c/2");`, s, w, plenty, deny(1, 3))
	runs(t, `return has("d/1");`, s, w, plenty, api.Outcome{Node: 2, Val: no, Gas: 3})
	runs(t, `put "b", 1;`, s, w, plenty, api.Outcome{Node: -1, Gas: 3, Edits: []api.Edit{put("b", num(1))}})
	runs(t, `put "a", 1;`, s, w, plenty, deny(2, 3))
	runs(t, `put "a", nil;`, s, w, plenty, deny(2, 3))
	runs(t, `put "d", 1;`, s, w, plenty, deny(2, 3))
	runs(t, `delete "a";`, s, w, plenty, deny(1, 2))
	runs(t, `delete "d/2";`, s, w, plenty, api.Outcome{Node: -1, Gas: 2, Edits: []api.Edit{put("d/2", api.Value{})}})
	runs(t, `put "b", 1; put "q", 1;`, s, w, plenty, deny(5, 6))
	for pattern, may := range map[string]bool{"a": true, "a/": true, "b": true, "c/1": true, "c/12": true, "c/": false, "c": false, "": false, "d/": true, "d/1": true, "d": false, "q": false} {
		want := api.Outcome{Node: -1, Gas: 2}
		if !may {
			want = deny(1, 2)
		}
		runs(t, `for k, v in scan("`+pattern+`", 0) { }`, s, w, plenty, want)
	}
	runs(t, "return 1;", s, api.Want{}, plenty, api.Outcome{Node: 1, Val: num(1), Gas: 2})
	runs(t, `put "b", 1;`, s, api.Want{Reads: []string{""}, Writes: []string{"a"}}, plenty, deny(2, 3))
	runs(t, `return get("A");`, s, w, plenty, api.Outcome{Code: api.ErrForm, Node: 1, Gas: 3})
}

// P21.1
func TestEdits(t *testing.T) {
	source := func(n int, more string) string {
		s := ""
		for i := range n {
			s += fmt.Sprintf("put \"k%02d\",1;", i)
		}
		return s + more
	}
	good, _, _ := vm.Source(source(64, `put "k00", 2; delete "k63"; return 1;`), some(t), all, plenty)
	if good.Code != api.OK || len(good.Edits) != 64 || good.Edits[0] != put("k00", num(2)) || good.Edits[63] != put("k63", api.Value{}) {
		t.Errorf("64 keys: %+v", good)
	}
	run(t, source(64, `put "a", 1;`), api.Outcome{Code: api.ErrFull, Node: 3*64 + 2, Gas: 3*64 + 3})
	run(t, source(64, `delete "a";`), api.Outcome{Code: api.ErrFull, Node: 3*64 + 1, Gas: 3*64 + 2})
	run(t, source(64, `put "a", nil;`), api.Outcome{Code: api.ErrType, Node: 3*64 + 2, Gas: 3*64 + 3})
	run(t, source(64, `delete "A";`), api.Outcome{Code: api.ErrForm, Node: 3*64 + 1, Gas: 3*64 + 2})
	run(t, source(63, `delete "none"; delete "a";`), api.Outcome{Code: api.ErrFull, Node: 3*63 + 3, Gas: 3*63 + 4})
}

// P21.1, P21.3
func TestGas(t *testing.T) {
	for source, nodes := range map[string][]int{
		"":                                       {},
		"return 1 + 2;":                          {3, 0, 1, 2},
		"let x = -5; return x;":                  {2, 0, 1, 4, 3},
		`put "a", get("b");`:                     {3, 0, 1, 2},
		"abort true and false or 1 == 2;":        {7, 0, 2, 1, 6, 3, 4, 5},
		"if true { return 1; }":                  {3, 0, 2, 1},
		"repeat 2 { let x = 1; }":                {2, 2, 1, 0, 2, 1, 0},
		`for k, v in scan("c", 9) { delete k; }`: {3, 0, 3, 2, 1, 3, 2, 1},
	} {
		whole, e, _ := vm.Source(source, some(t), all, plenty)
		if e != api.OK || whole.Gas != len(nodes) {
			t.Errorf("%q: %+v, %d", source, whole, e)
		}
		for gas, node := range nodes {
			runs(t, source, some(t), all, gas, api.Outcome{Code: api.ErrGas, Node: node, Gas: gas})
		}
		for gas := len(nodes); gas < len(nodes)+3; gas++ {
			runs(t, source, some(t), all, gas, whole)
		}
	}
	runs(t, "repeat 64 { repeat 64 { } }", some(t), all, 1000, api.Outcome{Code: api.ErrGas, Node: 0, Gas: 1000})
	runs(t, "repeat 64 { repeat 64 { } }", some(t), all, 1+64*66, api.Outcome{Node: -1, Gas: 1 + 64*66})
	deep := strings.Repeat("repeat 64 { ", 15) + strings.Repeat("}", 15)
	if got, e, _ := vm.Source(deep, some(t), all, plenty); e != api.OK || got.Code != api.ErrGas || got.Gas != plenty {
		t.Errorf("15 loops in one another: %+v, %d", got, e)
	}
}

// P21.1
func TestArg(t *testing.T) {
	s := some(t)
	c, _, _ := code.Source("return 1;")
	wrong := s
	wrong.Ver = 0
	for _, x := range []struct {
		s   api.Store
		w   api.Want
		gas int
	}{
		{wrong, all, 9}, {s, api.Want{Reads: []string{"A"}}, 9}, {s, api.Want{Reads: []string{"a", "b", "a b"}}, 9}, {s, api.Want{Writes: []string{"a", strings.Repeat("a", 25)}}, 9}, {s, api.Want{Reads: []string{""}, Writes: []string{"\x00"}}, 9},
		{s, all, -1}, {s, all, 100001}, {s, all, math.MaxInt}, {s, all, math.MinInt},
	} {
		if got, e := vm.Run(c, x.s, x.w, x.gas); !same(got, api.Outcome{}) || e != api.ErrArg {
			t.Errorf("Run with %v, %d = %+v, %d", x.w, x.gas, got, e)
		}
		if got, e, at := vm.Source("return 1;", x.s, x.w, x.gas); !same(got, api.Outcome{}) || e != api.ErrArg || at != -1 {
			t.Errorf("Source with %v, %d = %+v, %d, %d", x.w, x.gas, got, e, at)
		}
		if _, e, at := vm.Source("return x;", x.s, x.w, x.gas); e != api.ErrName || at != 0 {
			t.Errorf("Source of what cannot be compiled: %d, %d", e, at)
		}
	}
	for _, x := range []struct {
		source string
		e      api.Errno
		at     int
	}{{"return 1 1;", api.ErrForm, 9}, {"return ?;", api.ErrForm, 7}, {"let x = 1; let x = 2;", api.ErrThere, 3}, {"repeat 65 { }", api.ErrOver, 7}} {
		if got, e, at := vm.Source(x.source, s, all, 9); !same(got, api.Outcome{}) || e != x.e || at != x.at {
			t.Errorf("Source(%q) = %+v, %d, %d", x.source, got, e, at)
		}
	}
	many := api.Want{Reads: slices.Repeat([]string{"q", ""}, 50)}
	for _, gas := range []int{2, 100000} {
		if got, e := vm.Run(c, s, many, gas); e != api.OK || got.Val != num(1) {
			t.Errorf("Run with gas %d = %+v, %d", gas, got, e)
		}
	}
}

// P21.1: a code may be run again and again, and the store stays as it is.
func TestAgain(t *testing.T) {
	s := some(t)
	c, _, _ := code.Source(`let n = 0; for k, v in scan("", 64) { delete k; set n = n + 1; } put "n", n; return n;`)
	first, _ := vm.Run(c, s, all, plenty)
	again, _ := vm.Run(c, s, all, plenty)
	if first.Val != num(5) || !same(first, again) || !store.Same(s, some(t)) {
		t.Errorf("%+v, then %+v", first, again)
	}
}

// P21.3: what is not under the patterns of a run does not matter to it.
func TestOnlyPatterns(t *testing.T) {
	w := api.Want{Reads: []string{"c/"}, Writes: []string{"b"}}
	source := `let n = 0; for k, v in scan("c/", 9) { set n = n + 1; } put "b", get("b") + n; return get("a");`
	a, _, _ := vm.Source(source, some(t), w, plenty)
	b, _, _ := vm.Source(source, made(t, put("b", num(2)), put("c/1", text("x")), put("c/2", yes), put("c", num(9)), put("c0", num(9)), put("z", num(1))), w, plenty)
	if a.Code != api.ErrDeny || !same(a, b) {
		t.Errorf("%+v and %+v", a, b)
	}
}

// P21.1: a store may be full.
func TestManyItems(t *testing.T) {
	var l []api.Edit
	for _, c := range "0123456789-./jkl" {
		for i := range 60 {
			l = append(l, put(fmt.Sprintf("%c%02d", c, i), num(int64(i))))
		}
	}
	s := made(t, l...)
	runs(t, `return get("l59") + get("-00") + get("559");`, s, all, plenty, api.Outcome{Node: 8, Val: num(118), Gas: 9})
	got, _, _ := vm.Source(`let s = 0; let l = ""; for k, v in scan("k", 64) { set s = s + v; set l = k; } return l .. show(s);`, s, all, plenty)
	if got.Val != text("k591770") {
		t.Errorf("a loop over 60 of 960: %+v", got)
	}
}
