package value_test

import (
	"math"
	"math/big"
	"strings"
	"testing"

	"plenum/api"
	"plenum/value"
)

var long = strings.Repeat("x", 64)

func text(s string) api.Value { return api.Value{Kind: 3, S: s} }

func num(n int64) api.Value { return api.Value{Kind: 2, I: n} }

var no, yes = api.Value{Kind: 1}, api.Value{Kind: 1, I: 1}

// ordered are valid values, each before the next one.
var ordered = []api.Value{
	{}, no, yes,
	num(math.MinInt64), num(math.MinInt64 + 1), num(-7), num(-1), num(0), num(1), num(2), num(64), num(math.MaxInt64),
	text(""), text("\x00"), text("A"), text("a"), text("a\x00"), text("aa"), text("ab"), text("b"), text(long), text("\xff"),
}

// wrong are values that are not valid.
var wrong = []api.Value{
	{Kind: -1}, {Kind: 4}, {Kind: math.MaxInt}, {Kind: math.MinInt}, {Kind: 256},
	{Kind: 0, I: 1}, {Kind: 0, I: -1}, {Kind: 0, S: "a"},
	{Kind: 1, I: 2}, {Kind: 1, I: -1}, {Kind: 1, S: "a"}, {Kind: 1, I: 1, S: "a"},
	{Kind: 2, S: "a"}, {Kind: 2, I: 5, S: "a"},
	{Kind: 3, I: 1}, {Kind: 3, I: 1, S: "a"}, {Kind: 3, S: long + "x"},
}

type two = func(a, b api.Value) (api.Value, api.Errno)
type one = func(a api.Value) (api.Value, api.Errno)

var twos = map[string]two{"Add": value.Add, "Sub": value.Sub, "Mul": value.Mul, "Div": value.Div, "Mod": value.Mod, "Join": value.Join}
var ones = map[string]one{"Not": value.Not, "Minus": value.Minus, "Length": value.Length, "Show": value.Show}

// gives fails unless a call returned this value or this error.
func gives(t *testing.T, what string, v api.Value, e api.Errno, want api.Value, wantErr api.Errno) {
	t.Helper()
	if v != want || e != wantErr {
		t.Errorf("%s: %v, %d, want %v, %d", what, v, e, want, wantErr)
	}
}

// P7.1
func TestMay(t *testing.T) {
	for _, v := range ordered {
		if !value.May(v) {
			t.Errorf("May(%v) is false", v)
		}
	}
	for _, v := range wrong {
		if value.May(v) {
			t.Errorf("May(%v) is true", v)
		}
	}
}

// P7.1
func TestMake(t *testing.T) {
	if value.Nil() != (api.Value{}) || value.Bool(false) != no || value.Bool(true) != yes {
		t.Error("Nil, Bool")
	}
	for _, n := range []int64{0, 1, -1, math.MaxInt64, math.MinInt64} {
		if value.Int(n) != num(n) {
			t.Errorf("Int(%d) = %v", n, value.Int(n))
		}
	}
	for _, s := range []string{"", "ab", "\x00\xff\n", long} {
		v, e := value.Text(s)
		gives(t, "Text", v, e, text(s), api.OK)
	}
	v, e := value.Text(long + "x")
	gives(t, "Text of 65 bytes", v, e, api.Value{}, api.ErrFull)
}

// P7.1, P7.6
func TestLess(t *testing.T) {
	for i, a := range ordered {
		for j, b := range ordered {
			if value.Less(a, b) != (i < j) {
				t.Errorf("Less(%v, %v) = %v", a, b, i >= j)
			}
		}
	}
	for _, w := range wrong {
		for _, v := range append(ordered, wrong...) {
			if value.Less(w, v) || value.Less(v, w) {
				t.Errorf("Less of %v and %v", w, v)
			}
		}
	}
}

// P7.1
func TestWrong(t *testing.T) {
	for _, w := range wrong {
		for name, f := range ones {
			v, e := f(w)
			gives(t, name, v, e, api.Value{}, api.ErrArg)
		}
		for _, o := range ordered {
			for name, f := range twos {
				v, e := f(w, o)
				gives(t, name, v, e, api.Value{}, api.ErrArg)
				v, e = f(o, w)
				gives(t, name, v, e, api.Value{}, api.ErrArg)
			}
			for _, op := range []int{-1, 0, 1, 2, 5, 6} {
				v, e := value.Compare(op, w, o)
				gives(t, "Compare", v, e, api.Value{}, api.ErrArg)
				v, e = value.Compare(op, o, w)
				gives(t, "Compare", v, e, api.Value{}, api.ErrArg)
			}
		}
		if b := value.Encode(w); len(b) != 0 {
			t.Errorf("Encode(%v) = %v", w, b)
		}
	}
}

// P7.2, P7.3
func TestTypes(t *testing.T) {
	for _, a := range ordered {
		for name, kind := range map[string]int{"Minus": 2, "Not": 1, "Length": 3} {
			if v, e := ones[name](a); a.Kind != kind {
				gives(t, name, v, e, api.Value{}, api.ErrType)
			}
		}
		for _, b := range ordered {
			for name, f := range twos {
				kind := 2
				if name == "Join" {
					kind = 3
				}
				if v, e := f(a, b); a.Kind != kind || b.Kind != kind {
					gives(t, name, v, e, api.Value{}, api.ErrType)
				}
			}
		}
	}
}

// exact are the five operations on unbounded integers; the last two are not asked for b = 0.
var exact = map[string]func(z, a, b *big.Int) *big.Int{
	"Add": (*big.Int).Add, "Sub": (*big.Int).Sub, "Mul": (*big.Int).Mul, "Div": (*big.Int).Quo, "Mod": (*big.Int).Rem,
}

// P7.2
func TestArithmetic(t *testing.T) {
	nums := []int64{0, 1, -1, 2, -2, 3, -3, 7, -7, 10, 1 << 31, -1 << 31, 1<<31 + 1, 3037000499, 3037000500, -3037000500, 1 << 32, -1 << 32, 1 << 62, -1 << 62, 1<<62 + 1, math.MaxInt64, math.MaxInt64 - 1, math.MinInt64, math.MinInt64 + 1}
	for _, a := range nums {
		for _, b := range nums {
			for name, f := range exact {
				v, e := twos[name](num(a), num(b))
				if b == 0 && (name == "Div" || name == "Mod") {
					gives(t, name, v, e, api.Value{}, api.ErrZero)
					continue
				}
				if z := f(new(big.Int), big.NewInt(a), big.NewInt(b)); z.IsInt64() {
					gives(t, name, v, e, num(z.Int64()), api.OK)
				} else {
					gives(t, name, v, e, api.Value{}, api.ErrOver)
				}
			}
		}
	}
	for _, x := range []struct{ a, b, div, mod int64 }{{7, 2, 3, 1}, {-7, 2, -3, -1}, {7, -2, -3, 1}, {-7, -2, 3, -1}, {-6, 2, -3, 0}} {
		v, e := value.Div(num(x.a), num(x.b))
		gives(t, "Div", v, e, num(x.div), api.OK)
		v, e = value.Mod(num(x.a), num(x.b))
		gives(t, "Mod", v, e, num(x.mod), api.OK)
	}
	v, e := value.Mod(num(math.MinInt64), num(-1))
	gives(t, "Mod of the least by -1", v, e, num(0), api.OK)
	v, e = value.Div(num(math.MinInt64), num(-1))
	gives(t, "Div of the least by -1", v, e, api.Value{}, api.ErrOver)
}

// P7.2
func TestMinusNot(t *testing.T) {
	for _, n := range []int64{0, 1, -1, 5, math.MaxInt64, math.MinInt64 + 1} {
		v, e := value.Minus(num(n))
		gives(t, "Minus", v, e, num(-n), api.OK)
	}
	v, e := value.Minus(num(math.MinInt64))
	gives(t, "Minus of the least", v, e, api.Value{}, api.ErrOver)
	v, e = value.Not(no)
	gives(t, "Not", v, e, yes, api.OK)
	v, e = value.Not(yes)
	gives(t, "Not", v, e, no, api.OK)
}

// P7.3
func TestTexts(t *testing.T) {
	for _, x := range [][2]string{{"", ""}, {"a", ""}, {"", "b"}, {"ab", "cd"}, {long, ""}, {"", long}, {long[:30], long[30:]}} {
		v, e := value.Join(text(x[0]), text(x[1]))
		gives(t, "Join", v, e, text(x[0]+x[1]), api.OK)
	}
	for _, x := range [][2]string{{long, "a"}, {"a", long}, {long, long}} {
		v, e := value.Join(text(x[0]), text(x[1]))
		gives(t, "Join", v, e, api.Value{}, api.ErrFull)
	}
	for _, s := range []string{"", "a", "\xff\xfe", long} {
		v, e := value.Length(text(s))
		gives(t, "Length", v, e, num(int64(len(s))), api.OK)
		v, e = value.Show(text(s))
		gives(t, "Show", v, e, text(s), api.OK)
	}
	for v, want := range map[api.Value]string{{}: "nil", no: "false", yes: "true", num(0): "0", num(-12): "-12", num(34): "34", num(math.MinInt64): "-9223372036854775808", num(math.MaxInt64): "9223372036854775807"} {
		s, e := value.Show(v)
		gives(t, "Show", s, e, text(want), api.OK)
	}
}

// P7.4
func TestCompare(t *testing.T) {
	for i, a := range ordered {
		for j, b := range ordered {
			for op, is := range []bool{i == j, i != j, i < j, i <= j, i > j, i >= j} {
				v, e := value.Compare(op, a, b)
				if op > 1 && a.Kind != b.Kind {
					gives(t, "Compare of two kinds", v, e, api.Value{}, api.ErrType)
				} else if is {
					gives(t, "Compare", v, e, yes, api.OK)
				} else {
					gives(t, "Compare", v, e, no, api.OK)
				}
			}
			for _, op := range []int{-1, 6, math.MaxInt, math.MinInt} {
				v, e := value.Compare(op, a, b)
				gives(t, "Compare", v, e, api.Value{}, api.ErrRange)
			}
		}
	}
}

// P7.5
func TestEncode(t *testing.T) {
	for v, want := range map[api.Value]string{
		{}: "\x00", no: "\x01\x00", yes: "\x01\x01", num(0): "\x02\x00", num(-1): "\x02\x01", num(150): "\x02\xac\x02",
		text(""): "\x03\x00", text("ab"): "\x03\x02ab", text(long): "\x03\x40" + long,
	} {
		if b := value.Encode(v); string(b) != want {
			t.Errorf("Encode(%v) = %v", v, b)
		}
	}
}

// P7.5, P7.6
func TestCut(t *testing.T) {
	for _, v := range ordered {
		b := value.Encode(v)
		for _, rest := range []string{"", "\x00", "\xff\xff"} {
			if got, n, e := value.Cut(append(b[:len(b):len(b)], rest...)); got != v || n != len(b) || e != api.OK {
				t.Errorf("Cut(%v + %q) = %v, %d, %d", b, rest, got, n, e)
			}
		}
		for i := range b {
			if got, n, e := value.Cut(b[:i]); got != (api.Value{}) || n != 0 || e != api.ErrShort {
				t.Errorf("Cut(%v) = %v, %d, %d", b[:i], got, n, e)
			}
		}
	}
	for b, want := range map[string]api.Errno{
		"": api.ErrShort, "\x04": api.ErrForm, "\xff\x00": api.ErrForm, "\x04\x00\x00": api.ErrForm,
		"\x01": api.ErrShort, "\x01\x02": api.ErrForm, "\x01\xff": api.ErrForm,
		"\x02": api.ErrShort, "\x02\x80": api.ErrShort, "\x02\x80\x00": api.ErrForm, "\x02" + strings.Repeat("\xff", 10): api.ErrOver,
		"\x03": api.ErrShort, "\x03\x02a": api.ErrShort, "\x03\x80\x00": api.ErrForm, "\x03\x80\x02" + strings.Repeat("x", 256): api.ErrOver,
		"\x03\x41" + long: api.ErrShort, "\x03\x41" + long + "x": api.ErrFull, "\x03\xff\x01" + strings.Repeat("x", 255): api.ErrFull,
	} {
		if v, n, e := value.Cut([]byte(b)); v != (api.Value{}) || n != 0 || e != want {
			t.Errorf("Cut(%q) = %v, %d, %d, want error %d", b, v, n, e, want)
		}
	}
}

// P7.6
func TestCancel(t *testing.T) {
	for _, a := range ordered {
		for _, b := range ordered {
			sum, e := value.Add(a, b)
			if e != api.OK {
				continue
			}
			v, e := value.Sub(sum, b)
			gives(t, "Sub after Add", v, e, a, api.OK)
		}
	}
}
