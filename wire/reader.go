package wire

import (
	"plenum/api"
	"plenum/varint"
)

// fault is what a panic of this package carries: an error, and its offset.
type fault struct {
	e  api.Errno
	at int
}

// reader is bytes, and how far they are read.
type reader struct {
	b  []byte
	at int
}

// Decode returns the message of bytes.
func Decode(b []byte) (m api.Msg, e api.Errno, at int) {
	defer func() {
		if f, ok := recover().(fault); ok {
			m, e, at = api.Msg{}, f.e, f.at
		}
	}()
	r := &reader{b: b}
	m = r.msg()
	switch {
	case m.Kind == 0:
		panic(fault{api.ErrForm, 0})
	case r.at < len(b):
		panic(fault{api.ErrExtra, r.at})
	}
	return m, api.OK, 0
}

func (r *reader) msg() api.Msg {
	return api.Msg{
		Kind:    r.num(lastKind),
		From:    r.num(lastParty),
		View:    r.num(lastNum),
		Seq:     r.num(lastNum),
		Term:    r.num(lastNum),
		Body:    r.text(),
		Voices:  list(r, r.stmt),
		Changes: list(r, r.change),
	}
}

func (r *reader) stmt() api.Stmt {
	return api.Stmt{
		From: r.num(lastParty),
		Kind: r.num(lastNum),
		View: r.num(lastNum),
		Seq:  r.num(lastNum),
		Term: r.num(lastNum),
	}
}

func (r *reader) cert() api.Cert {
	return api.Cert{
		Seq:    r.num(lastNum),
		View:   r.num(lastNum),
		Term:   r.num(lastNum),
		Body:   r.text(),
		Voices: list(r, r.stmt),
	}
}

func (r *reader) change() api.Change {
	return api.Change{
		From:   r.num(lastParty),
		View:   r.num(lastNum),
		Stable: r.num(lastNum),
		Root:   r.num(lastNum),
		Proof:  list(r, r.stmt),
		Certs:  list(r, r.cert),
	}
}

// num reads an integer that is at most most.
func (r *reader) num(most int) int {
	v, n, e := varint.Cut(r.b[r.at:])
	if v > uint64(most) {
		e = api.ErrOver
	}
	if e != api.OK {
		panic(fault{e, r.at})
	}
	r.at += n
	return int(v)
}

func (r *reader) text() string {
	size := r.num(api.MaxBody)
	if size > len(r.b)-r.at {
		panic(fault{api.ErrShort, r.at})
	}
	r.at += size
	return string(r.b[r.at-size : r.at])
}

// list reads a list, of which read reads an element.
func list[T any](r *reader, read func() T) []T {
	var l []T
	for range r.num(api.MaxVoices) {
		l = append(l, read())
	}
	return l
}
