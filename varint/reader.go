package varint

import (
	"slices"

	"plenum/api"
)

// Reader reads bytes one part after the other. It keeps its first error and stays where that happened, so that its caller may ask once, at the end.
type Reader struct {
	b   []byte
	at  int
	err api.Errno
}

// Read returns a reader of b, of which it takes a copy: its caller may change b.
func Read(b []byte) *Reader {
	return &Reader{b: slices.Clone(b)}
}

// Num reads an unsigned integer that is at most most.
func (r *Reader) Num(most uint64) uint64 {
	return step(r, limited{r, most}.cut)
}

// Int reads a signed integer.
func (r *Reader) Int() int64 {
	return step(r, r.cutInt)
}

// Text reads a string.
func (r *Reader) Text() string {
	return step(r, r.cutText)
}

// Byte reads a byte.
func (r *Reader) Byte() byte {
	return step(r, r.cutByte)
}

// Flag reads a byte that says yes (1) or no (0).
func (r *Reader) Flag() bool {
	return step(r, r.cutFlag)
}

// Fail records an error that the caller found, unless there is one already.
func (r *Reader) Fail(e api.Errno) {
	if r.err == api.OK {
		r.err = e
	}
}

// At returns the current offset.
func (r *Reader) At() int {
	return r.at
}

// Err returns the recorded error and its offset.
func (r *Reader) Err() (api.Errno, int) {
	if r.err == api.OK {
		return api.OK, 0
	}
	return r.err, r.at
}

// End returns what Err does, and says it if bytes are left.
func (r *Reader) End() (api.Errno, int) {
	if r.err == api.OK && r.at < len(r.b) {
		return api.ErrExtra, r.at
	}
	return r.Err()
}

// step does one operation at the current offset and moves behind what it read; an error keeps the reader where it is.
func step[T any](r *Reader, cut func() (T, int, api.Errno)) T {
	var none T
	if r.err != api.OK {
		return none
	}
	v, n, e := cut()
	if e != api.OK {
		r.err = e
		return none
	}
	r.at += n
	return v
}

func (r *Reader) rest() []byte {
	return r.b[r.at:]
}

func (r *Reader) cutInt() (int64, int, api.Errno) {
	return CutInt(r.rest())
}

func (r *Reader) cutText() (string, int, api.Errno) {
	return CutText(r.rest())
}

func (r *Reader) cutByte() (byte, int, api.Errno) {
	b := r.rest()
	if len(b) == 0 {
		return 0, 0, api.ErrShort
	}
	return b[0], 1, api.OK
}

func (r *Reader) cutFlag() (bool, int, api.Errno) {
	c, n, e := r.cutByte()
	if c > 1 {
		return false, 0, api.ErrForm
	}
	return c == 1, n, e
}

// limited is a reader that reads no integer above most.
type limited struct {
	r    *Reader
	most uint64
}

func (l limited) cut() (uint64, int, api.Errno) {
	v, n, e := Cut(l.r.rest())
	if v > l.most {
		return 0, 0, api.ErrOver
	}
	return v, n, e
}
