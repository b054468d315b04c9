package varint_test

import (
	"math"
	"strings"
	"testing"

	"plenum/api"
	"plenum/varint"
)

// stands fails unless r has this error at this offset, by Err and by End.
func stands(t *testing.T, what string, r *varint.Reader, want api.Errno, at int) {
	t.Helper()
	if e, n := r.Err(); e != want || n != at {
		t.Errorf("%s: Err = %d, %d, want %d, %d", what, e, n, want, at)
	}
	if e, n := r.End(); e != want || n != at {
		t.Errorf("%s: End = %d, %d, want %d, %d", what, e, n, want, at)
	}
}

// P1.4
func TestReader(t *testing.T) {
	r := varint.Read([]byte("\xac\x02\x01\x02ab\x01\x00\x09"))
	if v := r.Num(300); v != 300 || r.At() != 2 {
		t.Errorf("Num = %d, at %d", v, r.At())
	}
	if v := r.Int(); v != -1 || r.At() != 3 {
		t.Errorf("Int = %d, at %d", v, r.At())
	}
	if s := r.Text(); s != "ab" || r.At() != 6 {
		t.Errorf("Text = %q, at %d", s, r.At())
	}
	if is := r.Flag(); !is || r.At() != 7 {
		t.Errorf("Flag = %v, at %d", is, r.At())
	}
	if is := r.Flag(); is || r.At() != 8 {
		t.Errorf("Flag = %v, at %d", is, r.At())
	}
	if e, at := r.Err(); e != api.OK || at != 0 {
		t.Errorf("Err = %d, %d", e, at)
	}
	if e, at := r.End(); e != api.ErrExtra || at != 8 {
		t.Errorf("End = %d, %d", e, at)
	}
	if e, at := r.Err(); e != api.OK || at != 0 {
		t.Errorf("End recorded its error: %d, %d", e, at)
	}
	if c := r.Byte(); c != 9 || r.At() != 9 {
		t.Errorf("Byte = %d, at %d", c, r.At())
	}
	stands(t, "all read", r, api.OK, 0)
}

// P1.4
func TestReaderEmpty(t *testing.T) {
	stands(t, "nothing", varint.Read(nil), api.OK, 0)
	r := varint.Read([]byte{3})
	if e, at := r.End(); e != api.ErrExtra || at != 0 {
		t.Errorf("End of an unread byte = %d, %d", e, at)
	}
	if v := r.Num(math.MaxUint64); v != 3 {
		t.Errorf("Num = %d", v)
	}
}

// readers are the operations of a Reader; each tells whether it returned its zero value.
var readers = []struct {
	name string
	read func(*varint.Reader) bool
}{
	{"Num", func(r *varint.Reader) bool { return r.Num(math.MaxUint64) == 0 }},
	{"Int", func(r *varint.Reader) bool { return r.Int() == 0 }},
	{"Text", func(r *varint.Reader) bool { return r.Text() == "" }},
	{"Byte", func(r *varint.Reader) bool { return r.Byte() == 0 }},
	{"Flag", func(r *varint.Reader) bool { return !r.Flag() }},
}

// P1.4
func TestReaderErrors(t *testing.T) {
	const num, sig, text, byt, flag = 0, 1, 2, 3, 4
	tests := []struct {
		which int
		b     string
		e     api.Errno
	}{
		{num, "", api.ErrShort}, {num, "\x80", api.ErrShort}, {num, "\x80\x00", api.ErrForm}, {num, strings.Repeat("\xff", 10), api.ErrOver},
		{sig, "", api.ErrShort}, {sig, "\x80", api.ErrShort}, {sig, "\x80\x00", api.ErrForm}, {sig, strings.Repeat("\xff", 10), api.ErrOver},
		{text, "", api.ErrShort}, {text, "\x03ab", api.ErrShort}, {text, "\x80\x00", api.ErrForm}, {text, "\x80\x02" + strings.Repeat("x", 256), api.ErrOver},
		{byt, "", api.ErrShort},
		{flag, "", api.ErrShort}, {flag, "\x02", api.ErrForm}, {flag, "\xff", api.ErrForm},
	}
	for _, x := range tests {
		op := readers[x.which]
		r := varint.Read([]byte("\x01\x07" + x.b))
		if r.Num(1) != 1 || r.Byte() != 7 {
			t.Fatalf("%s %q: the first two bytes", op.name, x.b)
		}
		if !op.read(r) || r.At() != 2 {
			t.Errorf("%s %q: not zero, or at %d", op.name, x.b, r.At())
		}
		stands(t, op.name, r, x.e, 2)
		for _, o := range readers {
			if !o.read(r) || r.At() != 2 {
				t.Errorf("%s after the error of %s: not zero, or at %d", o.name, op.name, r.At())
			}
		}
		r.Fail(api.ErrName)
		stands(t, "what comes after the first error", r, x.e, 2)
	}
}

// P1.4: a reader that has failed reads nothing, though there is something good to read.
func TestReaderStays(t *testing.T) {
	for _, o := range readers {
		r := varint.Read([]byte("\x01\x01\x01\x01"))
		r.Num(1)
		r.Fail(api.ErrDeep)
		if !o.read(r) || r.At() != 1 {
			t.Errorf("%s after Fail: not zero, or at %d", o.name, r.At())
		}
		stands(t, o.name+" after Fail", r, api.ErrDeep, 1)
	}
}

// P1.4
func TestReaderMost(t *testing.T) {
	r := varint.Read([]byte("\x05\xac\x02"))
	if r.Num(5) != 5 {
		t.Error("Num of the most")
	}
	if v := r.Num(299); v != 0 || r.At() != 1 {
		t.Errorf("Num above the most = %d, at %d", v, r.At())
	}
	stands(t, "above the most", r, api.ErrOver, 1)
	r = varint.Read([]byte("\x00\x01"))
	if r.Num(0) != 0 || r.At() != 1 {
		t.Error("Num(0) of 0")
	}
	r.Num(0)
	stands(t, "above 0", r, api.ErrOver, 1)
	r = varint.Read(varint.Put(math.MaxUint64))
	if r.Num(math.MaxUint64) != math.MaxUint64 {
		t.Error("the greatest Num")
	}
	r = varint.Read(varint.Put(math.MaxUint64))
	r.Num(math.MaxUint64 - 1)
	stands(t, "the greatest above the most", r, api.ErrOver, 0)
}

// P1.4
func TestFail(t *testing.T) {
	r := varint.Read([]byte("\x01\x02"))
	r.Fail(api.OK)
	if r.Num(9) != 1 {
		t.Error("Fail(OK) stopped the reader")
	}
	r.Fail(api.ErrTwice)
	r.Fail(api.ErrOld)
	r.Fail(api.OK)
	stands(t, "the first of three", r, api.ErrTwice, 1)
	if r.At() != 1 {
		t.Errorf("At = %d", r.At())
	}
}

// R3: the reader keeps what it was given, whatever happens to the argument.
func TestReaderCopies(t *testing.T) {
	b := []byte{1, 2}
	r := varint.Read(b)
	b[0], b[1] = 8, 9
	if r.Byte() != 1 || r.Byte() != 2 {
		t.Error("the reader shares its argument")
	}
}
