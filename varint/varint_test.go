package varint_test

import (
	"bytes"
	"math"
	"slices"
	"strings"
	"testing"

	"plenum/api"
	"plenum/varint"
)

// encoded has integers and their encodings, at both ends of each length.
var encoded = []struct {
	v uint64
	b []byte
}{
	{0, []byte{0}},
	{1, []byte{1}},
	{127, []byte{127}},
	{128, []byte{128, 1}},
	{300, []byte{172, 2}},
	{16383, []byte{255, 127}},
	{16384, []byte{128, 128, 1}},
	{1<<21 - 1, []byte{255, 255, 127}},
	{1 << 21, []byte{128, 128, 128, 1}},
	{1 << 28, []byte{128, 128, 128, 128, 1}},
	{1 << 35, []byte{128, 128, 128, 128, 128, 1}},
	{1 << 42, []byte{128, 128, 128, 128, 128, 128, 1}},
	{1 << 49, []byte{128, 128, 128, 128, 128, 128, 128, 1}},
	{1 << 56, []byte{128, 128, 128, 128, 128, 128, 128, 128, 1}},
	{1<<63 - 1, []byte{255, 255, 255, 255, 255, 255, 255, 255, 127}},
	{1 << 63, []byte{128, 128, 128, 128, 128, 128, 128, 128, 128, 1}},
	{math.MaxUint64, []byte{255, 255, 255, 255, 255, 255, 255, 255, 255, 1}},
}

var signed = []struct {
	v int64
	b []byte
}{
	{0, []byte{0}},
	{-1, []byte{1}},
	{1, []byte{2}},
	{-2, []byte{3}},
	{63, []byte{126}},
	{-64, []byte{127}},
	{64, []byte{128, 1}},
	{150, []byte{172, 2}},
	{math.MaxInt64, []byte{254, 255, 255, 255, 255, 255, 255, 255, 255, 1}},
	{math.MinInt64, []byte{255, 255, 255, 255, 255, 255, 255, 255, 255, 1}},
}

// P1.1
func TestPut(t *testing.T) {
	for _, x := range encoded {
		if b := varint.Put(x.v); !bytes.Equal(b, x.b) {
			t.Errorf("Put(%d) = %v, want %v", x.v, b, x.b)
		}
		if n := varint.Size(x.v); n != len(x.b) {
			t.Errorf("Size(%d) = %d, want %d", x.v, n, len(x.b))
		}
	}
	for _, x := range signed {
		if b := varint.PutInt(x.v); !bytes.Equal(b, x.b) {
			t.Errorf("PutInt(%d) = %v, want %v", x.v, b, x.b)
		}
	}
}

// P1.1
func TestPutText(t *testing.T) {
	if b := varint.PutText("ab"); !bytes.Equal(b, []byte{2, 97, 98}) {
		t.Errorf("PutText(ab) = %v", b)
	}
	if b := varint.PutText(""); !bytes.Equal(b, []byte{0}) {
		t.Errorf("PutText of nothing = %v", b)
	}
	long := strings.Repeat("x", 255)
	if b := varint.PutText(long); string(b) != "\xff\x01"+long {
		t.Errorf("PutText of 255 bytes = %v", b)
	}
	if b := varint.PutText(long + "x"); len(b) != 0 {
		t.Errorf("PutText of 256 bytes = %v", b)
	}
}

// P1.1
func TestPutList(t *testing.T) {
	if b := varint.PutList([]string{"", "x", "ab"}); string(b) != "\x03\x00\x01x\x02ab" {
		t.Errorf("PutList = %v", b)
	}
	if b := varint.PutList(nil); !bytes.Equal(b, []byte{0}) {
		t.Errorf("PutList of nothing = %v", b)
	}
	long := strings.Repeat("x", 255)
	if b := varint.PutList([]string{"a", long}); string(b) != "\x02\x01a\xff\x01"+long {
		t.Errorf("PutList with 255 bytes = %v", b)
	}
	if b := varint.PutList([]string{"a", long + "x"}); len(b) != 0 {
		t.Errorf("PutList with 256 bytes = %v", b)
	}
	if b := varint.PutList(make([]string, 255)); string(b) != "\xff\x01"+strings.Repeat("\x00", 255) {
		t.Errorf("PutList of 255 = %v", b)
	}
	if b := varint.PutList(make([]string, 256)); len(b) != 0 {
		t.Errorf("PutList of 256 = %v", b)
	}
}

// P1.2
func TestCut(t *testing.T) {
	for _, x := range encoded {
		for _, rest := range []string{"", "\x00", "\xff\xff"} {
			v, n, e := varint.Cut(append(bytes.Clone(x.b), rest...))
			if v != x.v || n != len(x.b) || e != api.OK {
				t.Errorf("Cut(%v + %q) = %d, %d, %d", x.b, rest, v, n, e)
			}
		}
	}
	for _, x := range signed {
		v, n, e := varint.CutInt(append(bytes.Clone(x.b), 7))
		if v != x.v || n != len(x.b) || e != api.OK {
			t.Errorf("CutInt(%v) = %d, %d, %d", x.b, v, n, e)
		}
	}
}

// wrong has bytes with which no integer begins.
var wrong = []struct {
	b []byte
	e api.Errno
}{
	{nil, api.ErrShort},
	{[]byte{128}, api.ErrShort},
	{[]byte{255, 128}, api.ErrShort},
	{bytes.Repeat([]byte{128}, 9), api.ErrShort},
	{bytes.Repeat([]byte{255}, 9), api.ErrShort},
	{bytes.Repeat([]byte{255}, 10), api.ErrOver},
	{append(bytes.Repeat([]byte{128}, 9), 2), api.ErrOver},
	{append(bytes.Repeat([]byte{128}, 9), 128, 0), api.ErrOver},
	{append(bytes.Repeat([]byte{128}, 9), 129, 1, 5), api.ErrOver},
	{append(bytes.Repeat([]byte{255}, 9), 3), api.ErrOver},
	{append(bytes.Repeat([]byte{128}, 9), 0), api.ErrForm},
	{append(bytes.Repeat([]byte{255}, 9), 0), api.ErrForm},
	{[]byte{128, 0}, api.ErrForm},
	{[]byte{128, 0, 1}, api.ErrForm},
	{[]byte{129, 128, 0}, api.ErrForm},
}

// P1.2
func TestCutWrong(t *testing.T) {
	for _, x := range wrong {
		if v, n, e := varint.Cut(x.b); v != 0 || n != 0 || e != x.e {
			t.Errorf("Cut(%v) = %d, %d, %d, want error %d", x.b, v, n, e, x.e)
		}
		if v, n, e := varint.CutInt(x.b); v != 0 || n != 0 || e != x.e {
			t.Errorf("CutInt(%v) = %d, %d, %d, want error %d", x.b, v, n, e, x.e)
		}
		if s, n, e := varint.CutText(x.b); s != "" || n != 0 || e != x.e {
			t.Errorf("CutText(%v) = %q, %d, %d, want error %d", x.b, s, n, e, x.e)
		}
		if l, n, e := varint.CutList(x.b, 9); len(l) != 0 || n != 0 || e != x.e {
			t.Errorf("CutList(%v) = %q, %d, %d, want error %d", x.b, l, n, e, x.e)
		}
		inside := append([]byte{2, 1, 'a'}, x.b...)
		if l, n, e := varint.CutList(inside, 9); len(l) != 0 || n != 0 || e != x.e {
			t.Errorf("CutList(%v) = %q, %d, %d, want error %d", inside, l, n, e, x.e)
		}
	}
}

// P1.3
func TestCutText(t *testing.T) {
	long := strings.Repeat("x", 255)
	good := []struct {
		b, s string
		n    int
	}{
		{"\x00", "", 1},
		{"\x00ab", "", 1},
		{"\x02ab", "ab", 3},
		{"\x02abc", "ab", 3},
		{"\xff\x01" + long, long, 257},
		{"\xff\x01" + long + "y", long, 257},
	}
	for _, x := range good {
		if s, n, e := varint.CutText([]byte(x.b)); s != x.s || n != x.n || e != api.OK {
			t.Errorf("CutText(%q) = %q, %d, %d", x.b, s, n, e)
		}
	}
	bad := []struct {
		b string
		e api.Errno
	}{
		{"\x01", api.ErrShort},
		{"\x03ab", api.ErrShort},
		{"\xff\x01" + long[1:], api.ErrShort},
		{"\x80\x02", api.ErrOver},
		{"\x80\x02" + long + "xx", api.ErrOver},
		{"\xff\xff\xff\xff\xff\xff\xff\xff\xff\x01", api.ErrOver},
	}
	for _, x := range bad {
		if s, n, e := varint.CutText([]byte(x.b)); s != "" || n != 0 || e != x.e {
			t.Errorf("CutText(%q) = %q, %d, %d, want error %d", x.b, s, n, e, x.e)
		}
	}
}

// P1.3
func TestCutList(t *testing.T) {
	many := "\xff\x01" + strings.Repeat("\x00", 255)
	good := []struct {
		b    string
		most int
		l    []string
		n    int
	}{
		{"\x00", 0, nil, 1},
		{"\x00x", 5, nil, 1},
		{"\x02\x00\x01xy", 2, []string{"", "x"}, 4},
		{"\x02\x00\x01x", -1, []string{"", "x"}, 4},
		{"\x02\x00\x01x", 255, []string{"", "x"}, 4},
		{many, 255, make([]string, 255), 257},
		{many, 256, make([]string, 255), 257},
		{many, math.MaxInt, make([]string, 255), 257},
		{many, math.MinInt, make([]string, 255), 257},
	}
	for _, x := range good {
		if l, n, e := varint.CutList([]byte(x.b), x.most); !slices.Equal(l, x.l) || n != x.n || e != api.OK {
			t.Errorf("CutList(%q, %d) = %q, %d, %d", x.b, x.most, l, n, e)
		}
	}
	bad := []struct {
		b    string
		most int
		e    api.Errno
	}{
		{"\x01\x00", 0, api.ErrOver},
		{"\x02\x00\x01x", 1, api.ErrOver},
		{many, 254, api.ErrOver},
		{"\x80\x02" + strings.Repeat("\x00", 256), -1, api.ErrOver},
		{"\x80\x02" + strings.Repeat("\x00", 256), 300, api.ErrOver},
		{"\x02", 1, api.ErrOver},
		{"\x02", 2, api.ErrShort},
		{"\x02\x00\x02x", 2, api.ErrShort},
		{"\x02\x00\x80\x02x", 2, api.ErrOver},
		{"\x02\x05x", 2, api.ErrShort},
	}
	for _, x := range bad {
		if l, n, e := varint.CutList([]byte(x.b), x.most); len(l) != 0 || n != 0 || e != x.e {
			t.Errorf("CutList(%q, %d) = %q, %d, %d, want error %d", x.b, x.most, l, n, e, x.e)
		}
	}
}

// P1.5
func TestRoundTrip(t *testing.T) {
	var codes [][]byte
	for shift := range 64 {
		for d := range 5 {
			v := uint64(1)<<shift + uint64(d) - 2
			b := varint.Put(v)
			if len(b) != varint.Size(v) {
				t.Fatalf("Size(%d) = %d, but Put gives %v", v, varint.Size(v), b)
			}
			if got, n, e := varint.Cut(append(bytes.Clone(b), 0x85)); got != v || n != len(b) || e != api.OK {
				t.Fatalf("Cut(Put(%d)) = %d, %d, %d", v, got, n, e)
			}
			s := int64(v)
			c := varint.PutInt(s)
			if got, n, e := varint.CutInt(append(bytes.Clone(c), 0)); got != s || n != len(c) || e != api.OK {
				t.Fatalf("CutInt(PutInt(%d)) = %d, %d, %d", s, got, n, e)
			}
			codes = append(codes, b)
		}
	}
	for _, a := range codes {
		for _, b := range codes {
			if !bytes.Equal(a, b) && bytes.HasPrefix(b, a) {
				t.Fatalf("%v is a prefix of %v", a, b)
			}
		}
	}
}

// P1.5: whatever two bytes are decoded are the encoding of what they are decoded as.
func TestCanonical(t *testing.T) {
	for i := range 1 << 16 {
		b := []byte{byte(i), byte(i >> 8)}
		if v, n, e := varint.Cut(b); e == api.OK && !bytes.Equal(varint.Put(v), b[:n]) {
			t.Fatalf("Cut(%v) = %d of %d bytes", b, v, n)
		}
		if s, n, e := varint.CutText(b); e == api.OK && !bytes.Equal(varint.PutText(s), b[:n]) {
			t.Fatalf("CutText(%v) = %q of %d bytes", b, s, n)
		}
	}
}
