package replies

import (
	"plenum/api"
	"plenum/txn"
	"plenum/varint"
)

// Encode returns the encoding of a table.
func Encode(l []api.Last) []byte {
	if !is(l) {
		return nil
	}
	b := varint.Put(uint64(len(l)))
	for _, x := range l {
		b = append(b, varint.Put(uint64(x.Client))...)
		b = append(b, varint.Put(uint64(x.Time))...)
		// a result is short enough for layer 1's strings
		b = append(b, varint.PutText(string(txn.EncodeResult(x.R)))...)
	}
	return b
}

// Decode returns the table of bytes.
func Decode(b []byte) ([]api.Last, api.Errno) {
	r := varint.Read(b)
	var l []api.Last
	for range r.Num(api.MaxClients) {
		x := api.Last{Client: int(r.Num(lastClient)), Time: int(r.Num(lastTime))}
		result, e := txn.DecodeResult([]byte(r.Text()))
		r.Fail(e)
		x.R = result
		l = append(l, x)
	}
	if e, _ := r.End(); e != api.OK {
		return nil, e
	}
	if e, _ := Check(l); e != api.OK {
		return nil, e
	}
	return l, api.OK
}
