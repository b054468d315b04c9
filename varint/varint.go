// Package varint is layer 1: integers, strings and lists of strings as bytes, each value in exactly one way. See shared/doc/01-varint.md.
package varint

import (
	"math/bits"

	"plenum/api"
)

const (
	more    = 0x80 // the continuation bit
	group   = 7    // bits per byte
	lastTop = 1    // the tenth byte has one bit of 64 left
)

// Put returns the encoding of v.
func Put(v uint64) []byte {
	b := make([]byte, 0, api.MaxVar)
	for v >= more {
		b = append(b, byte(v)|more)
		v >>= group
	}
	return append(b, byte(v))
}

// Size returns the length of Put(v).
func Size(v uint64) int {
	return (bits.Len64(v|1) + group - 1) / group
}

// Cut decodes the integer with which b begins, and tells how many bytes it takes.
func Cut(b []byte) (uint64, int, api.Errno) {
	var v uint64
	n := 0
read:
	for {
		switch {
		case n == len(b):
			return 0, 0, api.ErrShort
		case n == api.MaxVar-1 && b[n] > lastTop:
			return 0, 0, api.ErrOver
		case b[n] < more:
			break read
		}
		v |= uint64(b[n]-more) << (group * n)
		n++
	}
	if b[n] == 0 && n > 0 {
		return 0, 0, api.ErrForm
	}
	return v | uint64(b[n])<<(group*n), n + 1, api.OK
}

// PutInt returns the encoding of a signed integer.
func PutInt(v int64) []byte {
	return Put(uint64(v)<<1 ^ uint64(v>>63))
}

// CutInt decodes the signed integer with which b begins.
func CutInt(b []byte) (int64, int, api.Errno) {
	u, n, e := Cut(b)
	return int64(u>>1) ^ -int64(u&1), n, e
}

// PutText returns the encoding of s, or no bytes if s is too long.
func PutText(s string) []byte {
	if len(s) > api.MaxText {
		return nil
	}
	return append(Put(uint64(len(s))), s...)
}

// CutText decodes the string with which b begins.
func CutText(b []byte) (string, int, api.Errno) {
	size, n, e := Cut(b)
	switch {
	case e != api.OK:
		return "", 0, e
	case size > api.MaxText:
		return "", 0, api.ErrOver
	case int(size) > len(b)-n:
		return "", 0, api.ErrShort
	}
	end := n + int(size)
	return string(b[n:end]), end, api.OK
}

// PutList returns the encoding of l, or no bytes if it or a string of it is too long.
func PutList(l []string) []byte {
	if len(l) > api.MaxText {
		return nil
	}
	b := Put(uint64(len(l)))
	for _, s := range l {
		if len(s) > api.MaxText {
			return nil
		}
		b = append(b, PutText(s)...)
	}
	return b
}

// CutList decodes the list with which b begins, if it has at most most strings.
func CutList(b []byte, most int) ([]string, int, api.Errno) {
	if most < 0 || most > api.MaxText {
		most = api.MaxText
	}
	count, at, e := Cut(b)
	switch {
	case e != api.OK:
		return nil, 0, e
	case count > uint64(most):
		return nil, 0, api.ErrOver
	}
	l := make([]string, 0, count)
	for range count {
		s, n, e := CutText(b[at:])
		if e != api.OK {
			return nil, 0, e
		}
		l = append(l, s)
		at += n
	}
	return l, at, api.OK
}
