package parse

import (
	"plenum/api"
)

// levels returns what parses an expression: the level that binds least, which passes on to those that bind closer.
func (x *parser) levels() func(depth int) int {
	times := x.left(x.one, api.TokSign, "*", "/", "%")
	sum := x.left(times, api.TokSign, "+", "-")
	join := x.left(sum, api.TokSign, "..")
	is := x.single(join, api.TokSign, "==", "!=", "<", "<=", ">", ">=")
	and := x.left(is, api.TokWord, "and")
	return x.left(and, api.TokWord, "or")
}

// left is a level with any number of operators, of which the left one comes first.
func (x *parser) left(closer func(depth int) int, kind int, ops ...string) func(depth int) int {
	return func(depth int) int {
		a := closer(depth)
		for x.is(kind, ops...) {
			a = x.two(a, closer, depth)
		}
		return a
	}
}

// single is a level with at most one operator.
func (x *parser) single(closer func(depth int) int, kind int, ops ...string) func(depth int) int {
	return func(depth int) int {
		a := closer(depth)
		if x.is(kind, ops...) {
			a = x.two(a, closer, depth)
		}
		return a
	}
}

// two parses an operator and what is right of it.
func (x *parser) two(a int, closer func(depth int) int, depth int) int {
	n := blank(api.NodeTwo)
	n.A, n.S = a, x.l[x.next].S
	x.next++
	n.B = closer(depth)
	return x.add(n)
}

// one parses what has no operator between two operands.
func (x *parser) one(depth int) int {
	t := x.l[x.next]
	n := blank(0)
	switch t.Kind {
	case api.TokNumber:
		n.Kind, n.I = api.NodeInt, t.I
	case api.TokText:
		n.Kind, n.S = api.NodeText, t.S
	case api.TokName:
		n.Kind, n.S = api.NodeName, t.S
	case api.TokWord:
		return x.word(depth)
	default:
		return x.signed(depth)
	}
	x.next++
	return x.add(n)
}

// word parses what begins with a word.
func (x *parser) word(depth int) int {
	n := blank(0)
	switch t := x.take(api.TokWord, "nil", "true", "false", "not", "get", "has", "len", "show"); t.S {
	case "nil":
		n.Kind = api.NodeNil
	case "true":
		n.Kind, n.I = api.NodeBool, 1
	case "false":
		n.Kind = api.NodeBool
	case "not":
		n.Kind, n.A = api.NodeNot, x.operand(depth)
	case "get":
		n.Kind, n.A = api.NodeGet, x.enclosed(depth)
	case "has":
		n.Kind, n.A = api.NodeHas, x.enclosed(depth)
	case "len":
		n.Kind, n.A = api.NodeLen, x.enclosed(depth)
	case "show":
		n.Kind, n.A = api.NodeShow, x.enclosed(depth)
	}
	return x.add(n)
}

// signed parses what begins with a sign; parentheses have no node of their own.
func (x *parser) signed(depth int) int {
	if x.is(api.TokSign, "(") {
		return x.enclosed(depth)
	}
	x.sign("-")
	n := blank(api.NodeMinus)
	n.A = x.operand(depth)
	return x.add(n)
}

// operand parses the operand within an expression of a depth.
func (x *parser) operand(depth int) int {
	x.deep(depth + 1)
	return x.one(depth + 1)
}

// enclosed parses an expression in parentheses within one of a depth.
func (x *parser) enclosed(depth int) int {
	x.sign("(")
	x.deep(depth + 1)
	a := x.expr(depth + 1)
	x.sign(")")
	return a
}
