package leaf

import (
	"slices"

	"plenum/api"
	"plenum/value"
	"plenum/varint"
)

// Chunks returns the encodings of the chunks of l.
func Chunks(l []api.Item) [][]byte {
	if !is(l) {
		return nil
	}
	var out [][]byte
	for c := range slices.Chunk(l, api.Chunk) {
		out = append(out, encode(c))
	}
	return out
}

// Cut returns the items of an encoded chunk.
func Cut(b []byte) ([]api.Item, api.Errno) {
	if len(b) == 0 {
		return nil, api.ErrShort
	}
	var l []api.Item
	at := 1
	for range b[0] {
		x, n, e := cut(b[at:])
		if e != api.OK {
			return nil, e
		}
		l = append(l, x)
		at += n
	}
	switch e := sorted(l); {
	case e != api.OK:
		return nil, e
	case len(l) == 0 || len(l) > api.Chunk:
		return nil, api.ErrRange
	case at < len(b):
		return nil, api.ErrExtra
	}
	return l, api.OK
}

// Of returns the leaf that has these chunks.
func Of(chunks [][]byte) ([]api.Item, api.Errno, int) {
	var all []api.Item
	odd := -1
	for i, b := range chunks {
		l, e := Cut(b)
		if e != api.OK {
			return nil, e, i
		}
		if odd < 0 && len(l) != api.Chunk {
			odd = i
		}
		all = append(all, l...)
	}
	if odd >= 0 && odd < len(chunks)-1 {
		return nil, api.ErrForm, odd
	}
	if e, _ := Check(all); e != api.OK {
		return nil, e, len(chunks)
	}
	return all, api.OK, 0
}

// encode returns the encoding of a chunk.
func encode(l []api.Item) []byte {
	b := []byte{byte(len(l))}
	for _, x := range l {
		b = append(b, varint.PutText(x.Key)...)
		b = append(b, value.Encode(x.Val)...)
		b = append(b, varint.Put(uint64(x.Ver))...)
	}
	return b
}

// cut decodes the item with which b begins, valid or not, and tells how many bytes it takes.
func cut(b []byte) (api.Item, int, api.Errno) {
	k, n, e := varint.CutText(b)
	if e != api.OK {
		return api.Item{}, 0, e
	}
	v, m, e := value.Cut(b[n:])
	if e != api.OK {
		return api.Item{}, 0, e
	}
	ver, o, e := varint.Cut(b[n+m:])
	if e != api.OK {
		return api.Item{}, 0, e
	}
	return api.Item{Key: k, Val: v, Ver: int(ver)}, n + m + o, api.OK
}

// sorted returns the error of items that are not all valid, with strictly ascending keys; unlike Check it looks at all items before it looks at their order.
func sorted(l []api.Item) api.Errno {
	e := api.OK
	for i, x := range l {
		switch {
		case !may(x):
			return api.ErrArg
		case i > 0 && x.Key <= l[i-1].Key:
			e = api.ErrForm
		}
	}
	return e
}
