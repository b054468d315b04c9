package value

import (
	"plenum/api"
	"plenum/varint"
)

// Encode returns the encoding of a.
func Encode(a api.Value) []byte {
	if !May(a) {
		return nil
	}
	b := []byte{byte(a.Kind)}
	switch a.Kind {
	case api.KindBool:
		b = append(b, byte(a.I))
	case api.KindInt:
		b = append(b, varint.PutInt(a.I)...)
	case api.KindText:
		b = append(b, varint.PutText(a.S)...)
	}
	return b
}

// Cut decodes the value with which b begins, and tells how many bytes it takes.
func Cut(b []byte) (api.Value, int, api.Errno) {
	if len(b) == 0 {
		return api.Value{}, 0, api.ErrShort
	}
	v, n, e := api.Value{Kind: int(b[0])}, 0, api.OK
	switch v.Kind {
	case api.KindNil:
	case api.KindBool:
		v.I, n, e = cutBool(b[1:])
	case api.KindInt:
		v.I, n, e = varint.CutInt(b[1:])
	case api.KindText:
		v.S, n, e = cutText(b[1:])
	default:
		e = api.ErrForm
	}
	if e != api.OK {
		return api.Value{}, 0, e
	}
	return v, n + 1, api.OK
}

func cutBool(b []byte) (int64, int, api.Errno) {
	switch {
	case len(b) == 0:
		return 0, 0, api.ErrShort
	case b[0] > 1:
		return 0, 0, api.ErrForm
	}
	return int64(b[0]), 1, api.OK
}

func cutText(b []byte) (string, int, api.Errno) {
	s, n, e := varint.CutText(b)
	if len(s) > api.MaxValue {
		return "", 0, api.ErrFull
	}
	return s, n, e
}
