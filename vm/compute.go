package vm

import (
	"plenum/api"
	"plenum/code"
	"plenum/value"
)

// compute does an instruction that makes one value of one or two others.
func (m *machine) compute(in api.Ins) api.Errno {
	switch in.Op {
	case code.OpGet:
		return m.one(m.data.get)
	case code.OpHas:
		return m.one(func(k api.Value) (api.Value, api.Errno) {
			v, e := m.data.get(k)
			return value.Bool(v.Kind != api.KindNil), e
		})
	case code.OpLen:
		return m.one(value.Length)
	case code.OpShow:
		return m.one(value.Show)
	case code.OpNot:
		return m.one(value.Not)
	case code.OpMinus:
		return m.one(value.Minus)
	case code.OpAdd:
		return m.two(value.Add)
	case code.OpSub:
		return m.two(value.Sub)
	case code.OpMul:
		return m.two(value.Mul)
	case code.OpDiv:
		return m.two(value.Div)
	case code.OpMod:
		return m.two(value.Mod)
	case code.OpJoin:
		return m.two(value.Join)
	}
	return m.two(func(a, b api.Value) (api.Value, api.Errno) {
		return value.Compare(in.A, a, b)
	})
}

func (m *machine) one(do func(a api.Value) (api.Value, api.Errno)) api.Errno {
	v, e := do(m.pop())
	m.push(v)
	return e
}

func (m *machine) two(do func(a, b api.Value) (api.Value, api.Errno)) api.Errno {
	b := m.pop()
	v, e := do(m.pop(), b)
	m.push(v)
	return e
}
