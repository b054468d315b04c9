package code

import (
	"slices"

	"plenum/api"
)

// builder is a code that grows, the slot of each node, and how high the stack is after the last instruction.
type builder struct {
	*Code
	slots  []int
	height int
}

// emit appends an instruction, after which the stack is higher by rise.
func (b *builder) emit(op, a, rise, node int) {
	b.ins = append(b.ins, api.Ins{Op: op, A: a, B: none, Node: node})
	b.height += rise
	b.high = max(b.high, b.height)
}

// jump appends an instruction whose target is not known yet, and returns what makes the next instruction its target.
func (b *builder) jump(op, rise, node int) func() {
	at := len(b.ins)
	b.emit(op, 0, rise, node)
	return func() { b.ins[at].A = len(b.ins) }
}

func (b *builder) block(first int) {
	for i := first; i != none; i = b.program.Nodes[i].Next {
		b.emit(OpPay, 0, 0, i)
		b.statement(i)
	}
}

// statement appends what a statement does that is paid for.
func (b *builder) statement(i int) {
	n := b.program.Nodes[i]
	if n.A != none {
		b.expr(n.A)
	}
	switch n.Kind {
	case api.NodeLet, api.NodeSet:
		b.emit(OpStore, b.slots[i], -1, i)
	case api.NodePut:
		b.expr(n.B)
		b.emit(OpPut, 0, -2, i)
	case api.NodeDelete:
		b.emit(OpDelete, 0, -1, i)
	case api.NodeIf:
		b.choice(i)
	case api.NodeFor:
		b.emit(OpScan, int(n.I), -1, i)
		b.loop(i)
	case api.NodeRepeat:
		b.emit(OpRepeat, int(n.I), 0, i)
		b.loop(i)
	case api.NodeAbort:
		b.emit(OpAbort, 0, -1, i)
	case api.NodeReturn:
		b.emit(OpReturn, 0, -1, i)
	}
}

func (b *builder) choice(i int) {
	n := b.program.Nodes[i]
	over := b.jump(OpUnless, -1, i)
	b.block(n.B)
	if n.C != none {
		end := b.jump(OpJump, 0, i)
		over()
		b.block(n.C)
		over = end
	}
	over()
}

// loop appends the turns of a loop that has begun.
func (b *builder) loop(i int) {
	again := len(b.ins)
	end := b.jump(OpTurn, 0, i)
	b.ins[again].B = b.slots[i]
	b.block(b.program.Nodes[i].B)
	b.emit(OpJump, again, 0, i)
	end()
}

// expr appends what puts the value of an expression on the stack.
func (b *builder) expr(i int) {
	n := b.program.Nodes[i]
	if n.A != none {
		b.expr(n.A)
	}
	if n.Kind == api.NodeTwo {
		b.two(i)
		return
	}
	b.emit(OpPay, 0, 0, i)
	switch n.Kind {
	case api.NodeNil, api.NodeBool, api.NodeInt, api.NodeText:
		b.emit(OpConst, len(b.values), 1, i)
		b.values = append(b.values, constant(n))
	case api.NodeName:
		b.emit(OpLoad, b.slots[i], 1, i)
	case api.NodeGet:
		b.emit(OpGet, 0, 0, i)
	case api.NodeHas:
		b.emit(OpHas, 0, 0, i)
	case api.NodeLen:
		b.emit(OpLen, 0, 0, i)
	case api.NodeShow:
		b.emit(OpShow, 0, 0, i)
	case api.NodeNot:
		b.emit(OpNot, 0, 0, i)
	case api.NodeMinus:
		b.emit(OpMinus, 0, 0, i)
	}
}

// two appends what is left to do of a Two after its A is evaluated.
func (b *builder) two(i int) {
	n := b.program.Nodes[i]
	switch n.S {
	case "and":
		b.lazy(OpAnd, i)
	case "or":
		b.lazy(OpOr, i)
	default:
		b.expr(n.B)
		b.emit(OpPay, 0, 0, i)
		b.emit(operator(n.S), comparison(n.S), -1, i)
	}
}

// lazy appends an operator that looks at B only if A does not decide.
func (b *builder) lazy(op, i int) {
	b.emit(OpPay, 0, 0, i)
	end := b.jump(op, -1, i)
	b.expr(b.program.Nodes[i].B)
	b.emit(OpBool, 0, 0, i)
	end()
}

// operator returns the instruction of a sign.
func operator(sign string) int {
	switch sign {
	case "+":
		return OpAdd
	case "-":
		return OpSub
	case "*":
		return OpMul
	case "/":
		return OpDiv
	case "%":
		return OpMod
	case "..":
		return OpJoin
	}
	return OpCompare
}

// comparison returns the number that layer 7's Compare has for a sign; -1, if it is no comparison.
func comparison(sign string) int {
	return slices.Index([]string{"==", "!=", "<", "<=", ">", ">="}, sign)
}

// constant returns the value of a node that is its own value.
func constant(n api.Node) api.Value {
	kind := api.KindNil
	switch n.Kind {
	case api.NodeBool:
		kind = api.KindBool
	case api.NodeInt:
		kind = api.KindInt
	case api.NodeText:
		kind = api.KindText
	}
	return api.Value{Kind: kind, I: n.I, S: n.S}
}
