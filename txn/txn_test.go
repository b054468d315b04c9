package txn_test

import (
	"math"
	"slices"
	"strings"
	"testing"

	"plenum/api"
	"plenum/store"
	"plenum/txn"
)

func num(n int64) api.Value { return api.Value{Kind: 2, I: n} }

// good is a transaction that puts a, and may read b.
func good() api.Txn {
	return api.Txn{Client: 3, Time: 5, W: api.Want{Reads: []string{"b"}, Writes: []string{"a"}}, Source: `put "a", 1;`, Gas: 9}
}

// change returns t after f has changed it.
func change(t api.Txn, f func(*api.Txn)) api.Txn {
	f(&t)
	return t
}

// source returns a transaction with all rights and a source.
func source(s string) api.Txn {
	return api.Txn{Client: 1, Time: 1, W: api.Want{Writes: []string{""}}, Source: s, Gas: 1000}
}

func same(a, b api.Txn) bool {
	return a.Client == b.Client && a.Time == b.Time && slices.Equal(a.W.Reads, b.W.Reads) && slices.Equal(a.W.Writes, b.W.Writes) && a.Source == b.Source && a.Gas == b.Gas
}

var nine = []string{"", "a", "b", "c", "d", "e", "f", "g", "h"}

type fault struct {
	t    api.Txn
	e    api.Errno
	part int
}

// faulty are transactions that are not valid, with what Check says of them.
func faulty() []fault {
	part := func(part int, e api.Errno, f func(*api.Txn)) fault { return fault{change(good(), f), e, part} }
	l := []fault{{api.Txn{}, api.ErrArg, 0}}
	for _, n := range []int{-1, 256, math.MaxInt, math.MinInt} {
		l = append(l, part(0, api.ErrArg, func(t *api.Txn) { t.Client = n }))
	}
	for _, n := range []int{0, -1, 1 << 31, math.MaxInt, math.MinInt} {
		l = append(l, part(0, api.ErrArg, func(t *api.Txn) { t.Time = n }))
	}
	for _, n := range []int{-1, 100001, math.MaxInt, math.MinInt} {
		l = append(l, part(0, api.ErrArg, func(t *api.Txn) { t.Gas = n; t.W.Reads, t.W.Writes = nine, nine }))
	}
	for _, w := range [][]string{nine, {"A"}, {"a", "B"}, {"b", "a"}, {"a", "a"}, {"a", ""}, {"a", "c", "b"}, {strings.Repeat("a", 25)}, {"\x00"}, {"", ""}} {
		l = append(l, part(1, api.ErrArg, func(t *api.Txn) { t.W.Reads, t.W.Writes, t.Source = w, nine, "?" }))
		l = append(l, part(2, api.ErrArg, func(t *api.Txn) { t.W.Writes, t.Source = w, "?" }))
	}
	for s, e := range map[string]api.Errno{"?": api.ErrForm, "return x;": api.ErrName, `return "`: api.ErrShort, "let x = 1; let x = 1;": api.ErrThere, "repeat 65 { }": api.ErrOver, "return " + strings.Repeat("-", 16) + "1;": api.ErrDeep, strings.Repeat(" ", 4097): api.ErrFull} {
		l = append(l, part(3, e, func(t *api.Txn) { t.Source = s }))
	}
	return l
}

// limits are valid transactions at the limits.
func limits() []api.Txn {
	return []api.Txn{
		good(),
		source(""),
		source(strings.Repeat(" ", 4096)),
		{Time: 1},
		change(good(), func(t *api.Txn) { t.Client, t.Time, t.Gas = 255, 1<<31-1, 100000 }),
		change(good(), func(t *api.Txn) { t.W.Reads, t.W.Writes = nine[:8], nine[1:] }),
		change(good(), func(t *api.Txn) { t.W = api.Want{} }),
		change(good(), func(t *api.Txn) { t.W.Reads = []string{strings.Repeat("a", 24), "a-b", "b"}[1:] }),
	}
}

// P22.1
func TestCheck(t *testing.T) {
	for _, x := range limits() {
		if e, part := txn.Check(x); e != api.OK || part != 0 {
			t.Errorf("Check(%.99v) = %d, %d", x, e, part)
		}
	}
	for _, x := range faulty() {
		if e, part := txn.Check(x.t); e != x.e || part != x.part {
			t.Errorf("Check(%.99v) = %d, %d, want %d, %d", x.t, e, part, x.e, x.part)
		}
	}
}

// P22.2
func TestEncode(t *testing.T) {
	want := "\x03\x05\x01\x01b\x01\x01a\x09\x0bput \"a\", 1;"
	if b := txn.Encode(good()); string(b) != want {
		t.Errorf("Encode = %q, want %q", b, want)
	}
	big := api.Txn{Client: 255, Time: 300, W: api.Want{Reads: []string{"", "ab"}}, Gas: 1000}
	if b := txn.Encode(big); string(b) != "\xff\x01\xac\x02\x02\x00\x02ab\x00\xe8\x07\x00" {
		t.Errorf("Encode = %q", b)
	}
	for _, x := range faulty() {
		if b := txn.Encode(x.t); len(b) != 0 {
			t.Errorf("Encode(%.99v) = %q", x.t, b)
		}
	}
	for _, x := range limits() {
		b := txn.Encode(x)
		if got, e := txn.Decode(b); !same(got, x) || e != api.OK {
			t.Errorf("Decode of Encode(%.99v) = %.99v, %d", x, got, e)
		}
		if got, e := txn.Decode(append(b, 0)); !same(got, api.Txn{}) || e != api.ErrExtra {
			t.Errorf("Decode with one byte more = %.99v, %d", got, e)
		}
		for i := range min(len(b), 60) {
			if got, e := txn.Decode(b[:i]); !same(got, api.Txn{}) || e != api.ErrShort {
				t.Errorf("Decode of %d bytes of %q = %v, %d", i, b, got, e)
			}
		}
	}
}

// P22.2
func TestDecodeWrong(t *testing.T) {
	over := strings.Repeat("\xff", 10)
	long := "\xff\xff\xff\xff\x07" // 2^31 - 1
	more := "\x80\x80\x80\x80\x08" // 2^31
	for b, want := range map[string]api.Errno{
		"":                             api.ErrShort,
		"\x80\x00":                     api.ErrForm,
		over:                           api.ErrOver,
		"\x80\x02":                     api.ErrOver,
		"\x80\x02\x80\x00":             api.ErrOver,
		"\x03":                         api.ErrShort,
		"\x03\x80\x00":                 api.ErrForm,
		"\x03" + more:                  api.ErrOver,
		"\x03" + over:                  api.ErrOver,
		"\x03" + long:                  api.ErrShort,
		"\x03\x05\x09":                 api.ErrOver,
		"\x03\x05\x02\x00":             api.ErrShort,
		"\x03\x05\x01\x80\x02":         api.ErrOver,
		"\x03\x05\x01\x80\x00":         api.ErrForm,
		"\x03\x05\x00\x09":             api.ErrOver,
		"\x03\x05\x00\x01\x05ab":       api.ErrShort,
		"\x03\x05\x00\x00" + more:      api.ErrOver,
		"\x03\x05\x00\x00\x80\x00":     api.ErrForm,
		"\x03\x05\x00\x00\x09":         api.ErrShort,
		"\x03\x05\x00\x00\x09\x81\x20": api.ErrOver,
		"\x03\x05\x00\x00\x09\x80\x00": api.ErrForm,
		"\x03\x05\x00\x00\x09\x81\x20" + strings.Repeat(" ", 4097):         api.ErrOver,
		"\x03\x05\x00\x00\x09\x80\x20" + strings.Repeat(" ", 4095):         api.ErrShort,
		"\x03\x05\x00\x00\x09\x80\x20" + strings.Repeat(" ", 4097):         api.ErrExtra,
		"\x03\x05\x00\x00\x09\x01??":                                       api.ErrExtra,
		"\x03\x05\x00\x00\x09\x01?":                                        api.ErrArg,
		"\x03\x00\x00\x00\x09\x00":                                         api.ErrArg,
		"\x03\x05\x00\x00" + long + "\x00":                                 api.ErrArg,
		"\x03\x05\x00\x00\xa1\x8d\x06\x00":                                 api.ErrArg,
		"\x03\x05\x02\x01b\x01a\x00\x09\x00":                               api.ErrArg,
		"\x03\x05\x00\x01\x01A\x09\x00":                                    api.ErrArg,
		"\x03\x05\x00\x01\xff\x01" + strings.Repeat("a", 255) + "\x09\x00": api.ErrArg,
		"\x03\x00\x00\x00\x09\x00x":                                        api.ErrExtra,
	} {
		if got, e := txn.Decode([]byte(b)); !same(got, api.Txn{}) || e != want {
			t.Errorf("Decode(%.60q) = %v, %d, want error %d", b, got, e, want)
		}
	}
	if got, e := txn.Decode([]byte("\x03\x05\x00\x00\xa0\x8d\x06\x00")); e != api.OK || got.Gas != 100000 {
		t.Errorf("Decode with the most gas = %v, %d", got, e)
	}
}

// room returns a store with these quotas, at version 1, with b 2.
func room(t *testing.T, bytes, keys int) api.Store {
	t.Helper()
	s, _ := store.New(bytes, keys)
	s, e, _ := store.Take(s, []api.Edit{{Key: "b", Val: num(2)}})
	if e != api.OK {
		t.Fatal(e)
	}
	return s
}

// applies fails unless a transaction has this result and these edits; of the store want is what it has become.
func applies(t *testing.T, s api.Store, x api.Txn, want api.Store, r api.Result, edits ...api.Edit) {
	t.Helper()
	r.Ver = want.Ver
	got, result, e := txn.Apply(s, x)
	if !store.Same(got, want) || result != r || e != api.OK {
		t.Errorf("Apply of %q = %v, %v, %d, want %v, %v", x.Source, got, result, e, want, r)
	}
	r.Ver = s.Ver
	l, result, e := txn.Edits(s, x)
	if !slices.Equal(l, edits) || result != r || e != api.OK {
		t.Errorf("Edits of %q = %v, %v, %d, want %v, %v", x.Source, l, result, e, edits, r)
	}
}

// P22.3
func TestApply(t *testing.T) {
	s := room(t, 99, 9)
	after := func(l ...api.Edit) api.Store {
		out, _, _ := store.Take(s, l)
		return out
	}
	a, b := api.Edit{Key: "a", Val: num(1)}, api.Edit{Key: "b"}
	applies(t, s, source(`put "a", 1;`), after(a), api.Result{}, a)
	applies(t, s, source(`put "a", 1; delete "b"; return get("a");`), after(a, b), api.Result{Val: num(1)}, a, b)
	applies(t, s, source(`delete "none";`), after(api.Edit{Key: "none"}), api.Result{}, api.Edit{Key: "none"})
	applies(t, s, source(`return get("b");`), s, api.Result{Val: num(2)})
	applies(t, s, source(""), s, api.Result{})
	applies(t, s, source(`put "a", 1; abort 7;`), s, api.Result{Code: api.ErrAbort, Val: num(7)})
	applies(t, s, source(`put "a", 1; return 1 / 0;`), s, api.Result{Code: api.ErrZero})
	applies(t, s, change(source(`put "a", 1;`), func(t *api.Txn) { t.Gas = 2 }), s, api.Result{Code: api.ErrGas})
	applies(t, s, change(source(`put "a", 1;`), func(t *api.Txn) { t.W = api.Want{} }), s, api.Result{Code: api.ErrDeny})
}

// P22.3
func TestApplyRefused(t *testing.T) {
	a := api.Edit{Key: "a", Val: num(1)}
	applies(t, room(t, 99, 1), source(`put "a", 1; return 5;`), room(t, 99, 1), api.Result{Code: api.ErrQuota}, a)
	applies(t, room(t, 5, 9), source(`put "a", 1;`), room(t, 5, 9), api.Result{Code: api.ErrQuota}, a)
	last := room(t, 99, 9)
	last.Ver = api.MaxVer
	applies(t, last, source(`put "a", 1;`), last, api.Result{Code: api.ErrArg}, a)
	applies(t, last, source(`return 3;`), last, api.Result{Val: num(3)})
	full := room(t, 9999, 999)
	var l []api.Edit
	for i := range 64 {
		l = append(l, api.Edit{Key: "q" + string(rune('a'+i%8)) + string(rune('a'+i/8)), Val: num(1)})
	}
	full, e, _ := store.Take(full, l)
	if e != api.OK {
		t.Fatal(e)
	}
	applies(t, full, source(`put "a", 1; return 5;`), full, api.Result{Code: api.ErrFull}, a)
}

// P22.3
func TestApplyWrong(t *testing.T) {
	s := room(t, 99, 9)
	wrong := s
	wrong.Keys = 0
	refused := func(s api.Store, x api.Txn) {
		t.Helper()
		if got, r, e := txn.Apply(s, x); !store.Same(got, api.Store{}) || r != (api.Result{}) || e != api.ErrArg {
			t.Errorf("Apply = %v, %v, %d", got, r, e)
		}
		if l, r, e := txn.Edits(s, x); len(l) != 0 || r != (api.Result{}) || e != api.ErrArg {
			t.Errorf("Edits = %v, %v, %d", l, r, e)
		}
	}
	refused(wrong, good())
	for _, x := range faulty() {
		refused(s, x.t)
		refused(wrong, x.t)
	}
}

// P22.4
func TestResult(t *testing.T) {
	for _, x := range []struct {
		r api.Result
		b string
	}{
		{api.Result{}, "\x00\x00\x00"},
		{api.Result{Code: 23, Val: num(-1), Ver: 300}, "\x17\x02\x01\xac\x02"},
		{api.Result{Val: api.Value{Kind: 3, S: "ab"}, Ver: api.MaxVer}, "\x00\x03\x02ab\xff\xff\xff\xff\x07"},
		{api.Result{Code: 12, Val: api.Value{Kind: 1, I: 1}, Ver: 1}, "\x0c\x01\x01\x01"},
	} {
		if b := txn.EncodeResult(x.r); string(b) != x.b {
			t.Errorf("EncodeResult(%v) = %q", x.r, b)
		}
		if r, e := txn.DecodeResult([]byte(x.b)); r != x.r || e != api.OK {
			t.Errorf("DecodeResult(%q) = %v, %d", x.b, r, e)
		}
		for i := range x.b {
			if r, e := txn.DecodeResult([]byte(x.b[:i])); r != (api.Result{}) || e != api.ErrShort {
				t.Errorf("DecodeResult(%q) = %v, %d", x.b[:i], r, e)
			}
		}
	}
	for _, r := range []api.Result{{Code: -1}, {Code: 24}, {Code: math.MaxInt}, {Code: 256}, {Val: api.Value{Kind: 4}}, {Val: api.Value{I: 1}}, {Ver: -1}, {Ver: 1 << 31}, {Ver: math.MaxInt}, {Ver: math.MinInt}} {
		if b := txn.EncodeResult(r); len(b) != 0 {
			t.Errorf("EncodeResult(%v) = %q", r, b)
		}
	}
	for b, want := range map[string]api.Errno{
		"": api.ErrShort, "\x00\x04": api.ErrForm, "\x00\x01\x02": api.ErrForm, "\xff\x04": api.ErrForm, "\x00\x03\x41" + strings.Repeat("x", 65) + "\x00": api.ErrFull,
		"\xff": api.ErrShort, "\x18\x00": api.ErrShort, "\x18\x00\x80\x00": api.ErrForm, "\x00\x00" + strings.Repeat("\xff", 10): api.ErrOver,
		"\x00\x00\x80\x80\x80\x80\x08": api.ErrOver, "\x18\x00\x80\x80\x80\x80\x08": api.ErrOver, "\x18\x00\x80\x80\x80\x80\x08x": api.ErrOver,
		"\x18\x00\x00": api.ErrForm, "\xff\x00\x00": api.ErrForm, "\x18\x00\x00x": api.ErrForm, "\x17\x00\x00x": api.ErrExtra,
	} {
		if r, e := txn.DecodeResult([]byte(b)); r != (api.Result{}) || e != want {
			t.Errorf("DecodeResult(%q) = %v, %d, want error %d", b, r, e, want)
		}
	}
}

// P22.5
func TestConfined(t *testing.T) {
	s := room(t, 99, 9)
	for _, text := range []string{`put "a", 1;`, `put "b", 1;`, `put "a", 1; put "c", 1;`, `delete "b";`, `return 1;`, `abort 1;`, `put "a", get("b");`, `for k, v in scan("", 9) { put k, 0; }`, `for k, v in scan("b", 9) { put k, 0; }`, `put "a", 1 + nil;`} {
		for _, w := range []api.Want{{}, {Writes: []string{"a"}}, {Reads: []string{""}}, {Reads: []string{""}, Writes: []string{"a"}}, {Writes: []string{"a", "b"}}} {
			x := change(source(text), func(t *api.Txn) { t.W = w })
			got, r, e := txn.Apply(s, x)
			undo, _ := store.Undo(s, got)
			switch {
			case e != api.OK:
				t.Errorf("Apply of %q: %d", text, e)
			case r.Code != api.OK && !store.Same(got, s):
				t.Errorf("%q ended with %d and has changed the store", text, r.Code)
			case got.Ver != r.Ver || got.Ver != s.Ver && got.Ver != s.Ver+1 || got.Ver == s.Ver && !store.Same(got, s):
				t.Errorf("%q: version %d and %d after %d", text, got.Ver, r.Ver, s.Ver)
			}
			for _, x := range undo {
				if !slices.Contains(w.Writes, x.Key) {
					t.Errorf("%q with %v has changed %s", text, w, x.Key)
				}
			}
		}
	}
}
