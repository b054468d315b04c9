package txn

import (
	"slices"

	"plenum/api"
	"plenum/value"
	"plenum/varint"
)

const lastCode = api.ErrTwice // the greatest error number

// decoder is the bytes that are left, and the first error.
type decoder struct {
	b []byte
	e api.Errno
}

// Encode returns the encoding of a transaction.
func Encode(t api.Txn) []byte {
	if e, _ := Check(t); e != api.OK {
		return nil
	}
	return slices.Concat(
		varint.Put(uint64(t.Client)),
		varint.Put(uint64(t.Time)),
		varint.PutList(t.W.Reads),
		varint.PutList(t.W.Writes),
		varint.Put(uint64(t.Gas)),
		varint.Put(uint64(len(t.Source))),
		[]byte(t.Source),
	)
}

// Decode returns the transaction of bytes.
func Decode(b []byte) (api.Txn, api.Errno) {
	d := &decoder{b: b}
	t := api.Txn{Client: d.num(lastClient), Time: d.num(lastTime)}
	t.W.Reads = d.list()
	t.W.Writes = d.list()
	t.Gas = d.num(lastTime)
	t.Source = d.text(d.num(api.MaxSource))
	if e := d.end(); e != api.OK {
		return api.Txn{}, e
	}
	if e, _ := Check(t); e != api.OK {
		return api.Txn{}, api.ErrArg
	}
	return t, api.OK
}

// EncodeResult returns the encoding of a result.
func EncodeResult(r api.Result) []byte {
	if r.Code < 0 || r.Code > lastCode || !value.May(r.Val) || r.Ver < 0 || r.Ver > api.MaxVer {
		return nil
	}
	return slices.Concat([]byte{byte(r.Code)}, value.Encode(r.Val), varint.Put(uint64(r.Ver)))
}

// DecodeResult returns the result of bytes.
func DecodeResult(b []byte) (api.Result, api.Errno) {
	if len(b) == 0 {
		return api.Result{}, api.ErrShort
	}
	d := &decoder{b: b[1:]}
	r := api.Result{Code: api.Errno(b[0]), Val: d.value(), Ver: d.num(api.MaxVer)}
	if r.Code > lastCode {
		d.fail(api.ErrForm)
	}
	if e := d.end(); e != api.OK {
		return api.Result{}, e
	}
	return r, api.OK
}

// num reads an integer that is at most most.
func (d *decoder) num(most uint64) int {
	v, n, e := varint.Cut(d.b)
	if v > most {
		v, e = 0, api.ErrOver
	}
	d.skip(n, e)
	return int(v)
}

func (d *decoder) list() []string {
	l, n, e := varint.CutList(d.b, api.MaxWants)
	d.skip(n, e)
	return l
}

func (d *decoder) value() api.Value {
	v, n, e := value.Cut(d.b)
	d.skip(n, e)
	return v
}

// text reads a string of a known size.
func (d *decoder) text(size int) string {
	if size > len(d.b) {
		d.fail(api.ErrShort)
		return ""
	}
	s := string(d.b[:size])
	d.skip(size, api.OK)
	return s
}

// skip goes past the n bytes that were read, with their error.
func (d *decoder) skip(n int, e api.Errno) {
	d.fail(e)
	d.b = d.b[n:]
}

// fail keeps the first error.
func (d *decoder) fail(e api.Errno) {
	if d.e == api.OK {
		d.e = e
	}
}

// end returns the first error; bytes that are left are the last one.
func (d *decoder) end() api.Errno {
	if len(d.b) > 0 {
		d.fail(api.ErrExtra)
	}
	return d.e
}
