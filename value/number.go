package value

import (
	"math"

	"plenum/api"
)

// Add returns a + b.
func Add(a, b api.Value) (api.Value, api.Errno) {
	return compute(a, b, func(x, y int64) (int64, api.Errno) {
		z := x + y
		return z, over((z > x) != (y > 0) && y != 0)
	})
}

// Sub returns a - b.
func Sub(a, b api.Value) (api.Value, api.Errno) {
	return compute(a, b, func(x, y int64) (int64, api.Errno) {
		z := x - y
		return z, over((z < x) != (y > 0) && y != 0)
	})
}

// Mul returns a * b.
func Mul(a, b api.Value) (api.Value, api.Errno) {
	return compute(a, b, func(x, y int64) (int64, api.Errno) {
		if x == 0 || y == 0 {
			return 0, api.OK
		}
		z := x * y
		// the division by -1 is the one that can wrap around itself
		return z, over(z/y != x || y == -1 && x == math.MinInt64)
	})
}

// Div returns a / b, truncated toward 0.
func Div(a, b api.Value) (api.Value, api.Errno) {
	return compute(a, b, func(x, y int64) (int64, api.Errno) {
		if y == 0 {
			return 0, api.ErrZero
		}
		return x / y, over(y == -1 && x == math.MinInt64)
	})
}

// Mod returns what Div leaves over.
func Mod(a, b api.Value) (api.Value, api.Errno) {
	return compute(a, b, func(x, y int64) (int64, api.Errno) {
		if y == 0 {
			return 0, api.ErrZero
		}
		return x % y, api.OK
	})
}

// Minus returns -a.
func Minus(a api.Value) (api.Value, api.Errno) {
	return Sub(Int(0), a)
}

// compute returns what do makes of two Ints.
func compute(a, b api.Value, do func(x, y int64) (int64, api.Errno)) (api.Value, api.Errno) {
	if e := expect(api.KindInt, a, b); e != api.OK {
		return api.Value{}, e
	}
	n, e := do(a.I, b.I)
	if e != api.OK {
		return api.Value{}, e
	}
	return Int(n), api.OK
}

// over is the error of a result that does not fit.
func over(is bool) api.Errno {
	if is {
		return api.ErrOver
	}
	return api.OK
}
