package leaf_test

import (
	"bytes"
	"slices"
	"strings"
	"testing"

	"plenum/api"
	"plenum/leaf"
)

// P9.4
func TestChunks(t *testing.T) {
	if got := leaf.Chunks(nil); len(got) != 0 {
		t.Errorf("Chunks of nothing = %v", got)
	}
	if got := leaf.Chunks([]api.Item{item("a", 1, 5)}); len(got) != 1 || !bytes.Equal(got[0], []byte{1, 1, 97, 2, 2, 5}) {
		t.Errorf("Chunks = %v", got)
	}
	l := []api.Item{{Key: "ab", Val: api.Value{Kind: 3, S: "xyz"}, Ver: 300}, {Key: "b", Val: api.Value{Kind: 1, I: 1}}}
	if got := leaf.Chunks(l); len(got) != 1 || string(got[0]) != "\x02\x02ab\x03\x03xyz\xac\x02\x01b\x01\x01\x00" {
		t.Errorf("Chunks = %q", got)
	}
	for n := range 65 {
		l := many(n)
		chunks := leaf.Chunks(l)
		if len(chunks) != (n+7)/8 {
			t.Fatalf("%d items have %d chunks", n, len(chunks))
		}
		for i, b := range chunks {
			want := l[8*i : min(8*i+8, n)]
			if int(b[0]) != len(want) {
				t.Errorf("chunk %d of %d items says %d", i, n, b[0])
			}
			if got, e := leaf.Cut(b); !slices.Equal(got, want) || e != api.OK {
				t.Errorf("Cut of chunk %d of %d items = %v, %d", i, n, got, e)
			}
		}
		if got, e, at := leaf.Of(chunks); !slices.Equal(got, l) || e != api.OK || at != 0 {
			t.Errorf("Of of the chunks of %d items = %v, %d, %d", n, got, e, at)
		}
	}
}

const (
	a  = "\x01a\x02\x02\x05" // the item a 1 5
	b  = "\x01b\x02\x02\x05"
	no = "\x01k\x00\x05" // the item k nil 5
)

// P9.4
func TestCutWrong(t *testing.T) {
	nine := "\x09"
	for _, c := range "abcdefghi" {
		nine += "\x01" + string(c) + "\x02\x02\x05"
	}
	for _, x := range []struct {
		b string
		e api.Errno
	}{
		{"", api.ErrShort},
		{"\x01", api.ErrShort},
		{"\x01\x80\x00", api.ErrForm},
		{"\x01\x80\x02" + strings.Repeat("k", 256), api.ErrOver},
		{"\x01\x02a", api.ErrShort},
		{"\x01\x01a", api.ErrShort},
		{"\x01\x01a\x04", api.ErrForm},
		{"\x01\x01a\x01\x02", api.ErrForm},
		{"\x01\x01a\x03\x41" + strings.Repeat("x", 65) + "\x05", api.ErrFull},
		{"\x01\x01a\x02\x02", api.ErrShort},
		{"\x01\x01a\x02\x02\x80\x00", api.ErrForm},
		{"\x01\x01a\x02\x02" + strings.Repeat("\xff", 10), api.ErrOver},
		{"\x01\x01a\x02\x02\x80\x80\x80\x80\x08", api.ErrArg},
		{"\x01\x01a\x02\x02" + strings.Repeat("\xff", 9) + "\x01", api.ErrArg},
		{"\x01" + no, api.ErrArg},
		{"\x01\x00\x02\x02\x05", api.ErrArg},
		{"\x01\x01A\x02\x02\x05", api.ErrArg},
		{"\x02" + b + a, api.ErrForm},
		{"\x02" + a + a, api.ErrForm},
		{"\x03" + b + a + no, api.ErrArg},
		{"\x03" + no + b + a, api.ErrArg},
		{"\x03" + no + b + "\x01a", api.ErrShort},
		{"\x02" + b + a + "x", api.ErrForm},
		{"\x00", api.ErrRange},
		{"\x00x", api.ErrRange},
		{nine, api.ErrRange},
		{nine + "x", api.ErrRange},
		{"\x09" + nine[1:41] + a, api.ErrForm},
		{"\xff" + nine[1:], api.ErrShort},
		{"\x01" + a + "x", api.ErrExtra},
		{"\x01" + a + b, api.ErrExtra},
	} {
		if l, e := leaf.Cut([]byte(x.b)); len(l) != 0 || e != x.e {
			t.Errorf("Cut(%q) = %v, %d, want error %d", x.b, l, e, x.e)
		}
	}
	if l, e := leaf.Cut([]byte("\x01\x01a\x02\x02\xff\xff\xff\xff\x07")); e != api.OK || len(l) != 1 || l[0] != item("a", 1, api.MaxVer) {
		t.Errorf("Cut with the greatest version = %v, %d", l, e)
	}
}

// P9.4
func TestOfWrong(t *testing.T) {
	full := leaf.Chunks(many(64))
	short := leaf.Chunks(many(3))[0]
	bad := []byte("\x01")
	for _, x := range []struct {
		chunks [][]byte
		e      api.Errno
		at     int
	}{
		{[][]byte{{}}, api.ErrShort, 0},
		{[][]byte{full[0], bad}, api.ErrShort, 1},
		{[][]byte{full[0], bad, {0}}, api.ErrShort, 1},
		{[][]byte{full[0], []byte("\x00")}, api.ErrRange, 1},
		{[][]byte{short, full[1], bad}, api.ErrShort, 2},
		{[][]byte{full[0], append(slices.Clone(full[1]), 0)}, api.ErrExtra, 1},
		{[][]byte{short, full[1]}, api.ErrForm, 0},
		{[][]byte{short, full[1], short}, api.ErrForm, 0},
		{[][]byte{full[1], short, short}, api.ErrForm, 1},
		{[][]byte{full[1], full[0]}, api.ErrForm, 2},
		{[][]byte{full[0], full[1], full[1], full[2]}, api.ErrForm, 4},
		{[][]byte{full[1], short}, api.ErrForm, 2},
		{append(slices.Clone(full), []byte("\x01\x01z\x02\x02\x05")), api.ErrFull, 9},
		{append(slices.Clone(full), short), api.ErrFull, 9},
	} {
		if l, e, at := leaf.Of(x.chunks); len(l) != 0 || e != x.e || at != x.at {
			t.Errorf("Of(%q) = %v, %d, %d, want %d, %d", x.chunks, l, e, at, x.e, x.at)
		}
	}
	if l, e, at := leaf.Of(nil); len(l) != 0 || e != api.OK || at != 0 {
		t.Errorf("Of of no chunks = %v, %d, %d", l, e, at)
	}
}
