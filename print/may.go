package print

import (
	"plenum/api"
	"plenum/lex"
)

// checker is nodes, the precedences of their operators, and how often each node is referred to.
type checker struct {
	nodes  []api.Node
	levels map[string]int
	refs   []int
}

// May reports whether p is valid.
func May(p api.Program) bool {
	if len(p.Nodes) > api.MaxNodes {
		return false
	}
	x := &checker{p.Nodes, levels(), make([]int, len(p.Nodes))}
	for i := range p.Nodes {
		if !x.node(i) {
			return false
		}
	}
	if !x.statement(p.First, 0, len(p.Nodes)) {
		return false
	}
	for _, n := range x.refs {
		if n != 1 {
			return false
		}
	}
	return true
}

// node reports whether the node i has what its kind has, and nothing else.
func (x *checker) node(i int) bool {
	n := x.nodes[i]
	only := api.Node{Kind: n.Kind, A: -1, B: -1, C: -1, Next: -1}
	if n.Kind > api.NodeTwo {
		return x.ofStatement(i, n, &only) && n == only
	}
	return x.ofExpr(i, n, &only) && n == only
}

// ofExpr reports whether the fields of an expression are such as they must be, and copies them to only.
func (x *checker) ofExpr(i int, n api.Node, only *api.Node) bool {
	switch n.Kind {
	case api.NodeNil:
		return true
	case api.NodeBool:
		only.I = n.I
		return n.I == 0 || n.I == 1
	case api.NodeInt:
		only.I = n.I
		return n.I >= 0
	case api.NodeText:
		only.S = n.S
		_, e := lex.Quote(n.S)
		return e == api.OK
	case api.NodeName:
		only.S = n.S
		return isName(n.S)
	case api.NodeGet, api.NodeHas, api.NodeLen, api.NodeShow, api.NodeNot, api.NodeMinus:
		only.A = n.A
		return x.expr(n.A, i)
	case api.NodeTwo:
		only.A, only.B, only.S = n.A, n.B, n.S
		return x.expr(n.A, i) && x.expr(n.B, i) && level(n, x.levels) >= 0
	}
	return false
}

// ofStatement does for a statement what ofExpr does for an expression.
func (x *checker) ofStatement(i int, n api.Node, only *api.Node) bool {
	only.Next = n.Next
	if !x.statement(n.Next, i+1, len(x.nodes)) {
		return false
	}
	switch n.Kind {
	case api.NodeLet, api.NodeSet:
		only.A, only.S = n.A, n.S
		return x.expr(n.A, i) && isName(n.S)
	case api.NodePut:
		only.A, only.B = n.A, n.B
		return x.expr(n.A, i) && x.expr(n.B, i)
	case api.NodeDelete, api.NodeAbort, api.NodeReturn:
		only.A = n.A
		return x.expr(n.A, i)
	case api.NodeIf:
		only.A, only.B, only.C, only.I = n.A, n.B, n.C, n.I
		is := n.I == 1 || n.I == 0 && n.C == -1
		return is && x.expr(n.A, i) && x.statement(n.B, 0, i) && x.statement(n.C, 0, i)
	case api.NodeFor:
		only.A, only.B, only.I, only.S, only.T = n.A, n.B, n.I, n.S, n.T
		return x.expr(n.A, i) && x.statement(n.B, 0, i) && isTurns(n.I) && isName(n.S) && isName(n.T)
	case api.NodeRepeat:
		only.B, only.I = n.B, n.I
		return x.statement(n.B, 0, i) && isTurns(n.I)
	}
	return false
}

// expr reports whether i is an expression before the node end, and counts the reference.
func (x *checker) expr(i, end int) bool {
	if i < 0 || i >= end || !isExpr(x.nodes[i]) {
		return false
	}
	x.refs[i]++
	return true
}

// statement reports whether i is none, or a statement from the node from on, before the node end, and counts the reference.
func (x *checker) statement(i, from, end int) bool {
	if i == -1 {
		return true
	}
	if i < from || i >= end || isExpr(x.nodes[i]) {
		return false
	}
	x.refs[i]++
	return true
}

// isName reports whether s is one token that is a name, and nothing else.
func isName(s string) bool {
	l, e, _ := lex.Tokens(s)
	return e == api.OK && l[0] == api.Token{Kind: api.TokName, S: s}
}

func isTurns(n int64) bool {
	return n >= 0 && n <= api.MaxTurns
}
