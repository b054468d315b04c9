package wire_test

import (
	"bytes"
	"math"
	"slices"
	"strings"
	"testing"

	"plenum/api"
	"plenum/wire"
)

const last = 1<<31 - 1

// full returns a message that has everything.
func full() api.Msg {
	s := func(from, n int) api.Stmt {
		return api.Stmt{From: from, Kind: n + 1, View: n + 2, Seq: n + 3, Term: n + 4}
	}
	return api.Msg{
		Kind: 6, From: 1, View: 2, Seq: 300, Term: 4, Body: "body",
		Voices: []api.Stmt{s(0, 10), s(63, 20)},
		Changes: []api.Change{
			{From: 2, View: 3, Stable: 4, Root: 5, Proof: []api.Stmt{s(1, 30)}, Certs: []api.Cert{
				{Seq: 6, View: 7, Term: 8, Body: "cert", Voices: []api.Stmt{s(2, 40), s(3, 50)}},
				{Seq: 9},
			}},
			{From: 63, View: last},
		},
	}
}

// fields returns pointers to all numbers of m that are no parties, and to all parties.
func fields(m *api.Msg) (nums, parties []*int) {
	stmts := func(l []api.Stmt) {
		for i := range l {
			parties = append(parties, &l[i].From)
			nums = append(nums, &l[i].Kind, &l[i].View, &l[i].Seq, &l[i].Term)
		}
	}
	parties = append(parties, &m.From)
	nums = append(nums, &m.View, &m.Seq, &m.Term)
	stmts(m.Voices)
	for i := range m.Changes {
		c := &m.Changes[i]
		parties = append(parties, &c.From)
		nums = append(nums, &c.View, &c.Stable, &c.Root)
		stmts(c.Proof)
		for j := range c.Certs {
			x := &c.Certs[j]
			nums = append(nums, &x.Seq, &x.View, &x.Term)
			stmts(x.Voices)
		}
	}
	return nums, parties
}

// changed returns full() after f.
func changed(f func(*api.Msg)) api.Msg {
	m := full()
	f(&m)
	return m
}

type named struct {
	what string
	m    api.Msg
}

// wrong are messages that are not valid, each for one reason.
func wrong() []named {
	var l []named
	add := func(what string, f func(*api.Msg)) { l = append(l, named{what, changed(f)}) }
	for _, k := range []int{0, -1, 11, math.MaxInt, math.MinInt} {
		add("a kind", func(m *api.Msg) { m.Kind = k })
	}
	m := full()
	nums, parties := fields(&m)
	for i := range nums {
		for _, n := range []int{-1, last + 1, math.MaxInt, math.MinInt} {
			add("a number", func(m *api.Msg) { f, _ := fields(m); *f[i] = n })
		}
	}
	for i := range parties {
		for _, n := range []int{-1, 64, math.MaxInt, math.MinInt} {
			add("a party", func(m *api.Msg) { _, f := fields(m); *f[i] = n })
		}
	}
	long := strings.Repeat("x", 65537)
	add("a body", func(m *api.Msg) { m.Body = long })
	add("a body of a certificate", func(m *api.Msg) { m.Changes[0].Certs[1].Body = long })
	add("voices", func(m *api.Msg) { m.Voices = make([]api.Stmt, 65) })
	add("changes", func(m *api.Msg) { m.Changes = make([]api.Change, 65) })
	add("a proof", func(m *api.Msg) { m.Changes[1].Proof = make([]api.Stmt, 65) })
	add("certificates", func(m *api.Msg) { m.Changes[1].Certs = make([]api.Cert, 65) })
	add("voices of a certificate", func(m *api.Msg) { m.Changes[0].Certs[1].Voices = make([]api.Stmt, 65) })
	return l
}

// right are valid messages at the limits.
func right() []api.Msg {
	long := strings.Repeat("x", 65536)
	l := []api.Msg{full(), {Kind: 1}, {Kind: 10, From: 63, View: last, Seq: last, Term: last, Body: long}}
	l = append(l,
		changed(func(m *api.Msg) { m.Voices = make([]api.Stmt, 64) }),
		changed(func(m *api.Msg) { m.Changes = make([]api.Change, 64) }),
		changed(func(m *api.Msg) { m.Changes[1].Proof = make([]api.Stmt, 64) }),
		changed(func(m *api.Msg) { m.Changes[1].Certs = make([]api.Cert, 64) }),
		changed(func(m *api.Msg) { m.Changes[0].Certs[1].Voices = make([]api.Stmt, 64) }),
		changed(func(m *api.Msg) { m.Changes[0].Certs[1].Body = long }),
	)
	m := full()
	nums, parties := fields(&m)
	for i := range nums {
		l = append(l, changed(func(m *api.Msg) { f, _ := fields(m); *f[i] = last }), changed(func(m *api.Msg) { f, _ := fields(m); *f[i] = 0 }))
	}
	for i := range parties {
		l = append(l, changed(func(m *api.Msg) { _, f := fields(m); *f[i] = 63 }), changed(func(m *api.Msg) { _, f := fields(m); *f[i] = 0 }))
	}
	return l
}

// P28.1
func TestMay(t *testing.T) {
	for i, m := range right() {
		if !wire.May(m) || len(wire.Encode(m)) == 0 {
			t.Errorf("message %d is not valid: %.300v", i, m)
		}
	}
	for kind := 1; kind <= 10; kind++ {
		if !wire.May(api.Msg{Kind: kind}) {
			t.Errorf("kind %d is not valid", kind)
		}
	}
	for _, w := range wrong() {
		if wire.May(w.m) {
			t.Errorf("with %s out of range a message is valid: %.300v", w.what, w.m)
		}
		if b := wire.Encode(w.m); len(b) != 0 {
			t.Errorf("with %s out of range: Encode = %.80v", w.what, b)
		}
		if got := slices.ContainsFunc(w.m.Changes, func(c api.Change) bool { return len(wire.EncodeChange(c)) == 0 }); got != !wire.May(api.Msg{Kind: 1, Changes: w.m.Changes}) && len(w.m.Changes) <= 64 {
			t.Errorf("with %s out of range: EncodeChange", w.what)
		}
	}
}

// P28.1
func TestEncode(t *testing.T) {
	if b := wire.Encode(api.Msg{Kind: 3, From: 1, View: 2, Seq: 3, Term: 4}); !bytes.Equal(b, []byte{3, 1, 2, 3, 4, 0, 0, 0}) {
		t.Errorf("Encode = %v", b)
	}
	change := []byte("\x02\x03\x04\x05" + "\x01\x01\x1f\x20\x21\x22" + "\x02" + "\x06\x07\x08\x04cert\x02\x02\x29\x2a\x2b\x2c\x03\x33\x34\x35\x36" + "\x09\x00\x00\x00\x00")
	other := []byte("\x3f\xff\xff\xff\xff\x07\x00\x00\x00\x00")
	want := slices.Concat([]byte("\x06\x01\x02\xac\x02\x04\x04body"), []byte("\x02\x00\x0b\x0c\x0d\x0e\x3f\x15\x16\x17\x18"), []byte("\x02"), change, other)
	m := full()
	if b := wire.Encode(m); !bytes.Equal(b, want) {
		t.Errorf("Encode = %q, want %q", b, want)
	}
	if b := wire.EncodeChange(m.Changes[0]); !bytes.Equal(b, change) {
		t.Errorf("EncodeChange = %q, want %q", b, change)
	}
	if b := wire.EncodeChange(m.Changes[1]); !bytes.Equal(b, other) {
		t.Errorf("EncodeChange = %q, want %q", b, other)
	}
}

// P28.1
func TestSame(t *testing.T) {
	m := full()
	if !wire.Same(m, full()) || !wire.Same(api.Msg{}, api.Msg{Voices: []api.Stmt{}, Changes: []api.Change{}}) {
		t.Error("Same of the same")
	}
	var others []api.Msg
	nums, parties := fields(&m)
	for i := range nums {
		others = append(others, changed(func(m *api.Msg) { f, _ := fields(m); *f[i]++ }))
	}
	for i := range parties {
		others = append(others, changed(func(m *api.Msg) { _, f := fields(m); *f[i]-- }))
	}
	others = append(others,
		changed(func(m *api.Msg) { m.Kind = -5 }),
		changed(func(m *api.Msg) { m.Body += "x" }),
		changed(func(m *api.Msg) { m.Voices = m.Voices[:1] }),
		changed(func(m *api.Msg) { m.Voices[0], m.Voices[1] = m.Voices[1], m.Voices[0] }),
		changed(func(m *api.Msg) { m.Changes = m.Changes[:1] }),
		changed(func(m *api.Msg) { m.Changes[0].Proof = nil }),
		changed(func(m *api.Msg) { m.Changes[0].Certs = m.Changes[0].Certs[:1] }),
		changed(func(m *api.Msg) { m.Changes[0].Certs[0].Body = "" }),
		changed(func(m *api.Msg) { m.Changes[0].Certs[0].Voices = nil }),
		changed(func(m *api.Msg) { m.Changes[1].Certs = make([]api.Cert, 1) }),
	)
	for i, o := range others {
		if wire.Same(m, o) || wire.Same(o, m) || !wire.Same(o, o) {
			t.Errorf("Same with message %d", i)
		}
	}
}

// P28.2, P28.3
func TestDecode(t *testing.T) {
	for i, m := range right() {
		b := wire.Encode(m)
		if got, e, at := wire.Decode(b); !wire.Same(got, m) || e != api.OK || at != 0 {
			t.Errorf("Decode of message %d: %d, %d", i, e, at)
		}
		if got, e, at := wire.Decode(append(b, 0)); !wire.Same(got, api.Msg{}) || e != api.ErrExtra || at != len(b) {
			t.Errorf("Decode of message %d with one byte more: %d, %d", i, e, at)
		}
	}
	b := wire.Encode(full())
	for i := range b {
		if got, e, at := wire.Decode(b[:i]); !wire.Same(got, api.Msg{}) || e != api.ErrShort || at > i {
			t.Errorf("Decode of %d bytes = %v, %d, %d", i, got, e, at)
		}
	}
}

// P28.2
func TestDecodeWrong(t *testing.T) {
	over := strings.Repeat("\xff", 10)
	const big = "\x80\x80\x80\x80\x08" // 2^31
	for _, x := range []struct {
		b  string
		e  api.Errno
		at int
	}{
		{"", api.ErrShort, 0},
		{"\x03\x01\x02\x03\x04\x00\x00", api.ErrShort, 7},
		{"\x03\x01\x02\x03\x04\x00\x00\x00\x00", api.ErrExtra, 8},
		{"\x00\x01\x02\x03\x04\x00\x00\x00", api.ErrForm, 0},
		{"\x00\x01\x02\x03\x04\x00\x00\x00\x00", api.ErrForm, 0},
		{"\x00\x01\x02\x03\x04\x00\x00", api.ErrShort, 7},
		{"\x0b", api.ErrOver, 0},
		{"\x80\x00", api.ErrForm, 0},
		{over, api.ErrOver, 0},
		{"\x03\x40", api.ErrOver, 1},
		{"\x03\x80\x00", api.ErrForm, 1},
		{"\x03\x80", api.ErrShort, 1},
		{"\x03\x01" + big, api.ErrOver, 2},
		{"\x03\x01\x02" + big, api.ErrOver, 3},
		{"\x03\x01\x02\x03" + big, api.ErrOver, 4},
		{"\x03\x01\x02\x03\x04\x81\x80\x04", api.ErrOver, 5},
		{"\x03\x01\x02\x03\x04\x80\x80\x04", api.ErrShort, 8},
		{"\x03\x01\x02\x03\x04\x03ab", api.ErrShort, 6},
		{"\x03\x01\x02\x03\x04\x03", api.ErrShort, 6},
		{"\x03\x01\x02\x03\x04\x02ab", api.ErrShort, 8},
		{"\x03\x01\x02\x03\x04\x00\x41", api.ErrOver, 6},
		{"\x03\x01\x02\x03\x04\x00\x40", api.ErrShort, 7},
		{"\x03\x01\x02\x03\x04\x00\x01\x40", api.ErrOver, 7},
		{"\x03\x01\x02\x03\x04\x00\x01\x3f" + big, api.ErrOver, 8},
		{"\x03\x01\x02\x03\x04\x00\x01\x3f\x00" + big, api.ErrOver, 9},
		{"\x03\x01\x02\x03\x04\x00\x01\x3f\x00\x00" + big, api.ErrOver, 10},
		{"\x03\x01\x02\x03\x04\x00\x01\x3f\x00\x00\x00" + big, api.ErrOver, 11},
		{"\x03\x01\x02\x03\x04\x00\x00\x41", api.ErrOver, 7},
		{"\x03\x01\x02\x03\x04\x00\x00\x01\x40", api.ErrOver, 8},
		{"\x03\x01\x02\x03\x04\x00\x00\x01\x01" + big, api.ErrOver, 9},
		{"\x03\x01\x02\x03\x04\x00\x00\x01\x01\x01" + big, api.ErrOver, 10},
		{"\x03\x01\x02\x03\x04\x00\x00\x01\x01\x01\x01" + big, api.ErrOver, 11},
		{"\x03\x01\x02\x03\x04\x00\x00\x01\x01\x01\x01\x01\x41", api.ErrOver, 12},
		{"\x03\x01\x02\x03\x04\x00\x00\x01\x01\x01\x01\x01\x00\x41", api.ErrOver, 13},
		{"\x03\x01\x02\x03\x04\x00\x00\x01\x01\x01\x01\x01\x00\x01" + big, api.ErrOver, 14},
		{"\x03\x01\x02\x03\x04\x00\x00\x01\x01\x01\x01\x01\x00\x01\x00" + big, api.ErrOver, 15},
		{"\x03\x01\x02\x03\x04\x00\x00\x01\x01\x01\x01\x01\x00\x01\x00\x00" + big, api.ErrOver, 16},
		{"\x03\x01\x02\x03\x04\x00\x00\x01\x01\x01\x01\x01\x00\x01\x00\x00\x00\x81\x80\x04", api.ErrOver, 17},
		{"\x03\x01\x02\x03\x04\x00\x00\x01\x01\x01\x01\x01\x00\x01\x00\x00\x00\x05abcd", api.ErrShort, 18},
		{"\x03\x01\x02\x03\x04\x00\x00\x01\x01\x01\x01\x01\x00\x01\x00\x00\x00\x00\x41", api.ErrOver, 18},
		{"\x03\x01\x02\x03\x04\x00\x00\x01\x01\x01\x01\x01\x00\x01\x00\x00\x00\x00\x01\x40", api.ErrOver, 19},
	} {
		if m, e, at := wire.Decode([]byte(x.b)); !wire.Same(m, api.Msg{}) || e != x.e || at != x.at {
			t.Errorf("Decode(%q) = %v, %d, %d, want %d, %d", x.b, m, e, at, x.e, x.at)
		}
	}
}

// P28.3: whatever is decoded has exactly that encoding.
func TestCanonical(t *testing.T) {
	b := wire.Encode(full())
	for i := range b {
		for _, d := range []byte{1, 2, 128, 255} {
			c := slices.Clone(b)
			c[i] += d
			if m, e, _ := wire.Decode(c); e == api.OK && (!bytes.Equal(wire.Encode(m), c) || !wire.May(m)) {
				t.Errorf("%q is decoded as %v", c, m)
			}
		}
	}
}
