package interp

import (
	"jacquard/api"
	"jacquard/bits"
)

// frame is the execution of a block of a function or of the kernel. One map is enough for all blocks within it: scalars with the same name are never visible at the same time, and each declaration gives its name a new value.
type frame struct {
	*machine
	scalars map[string]uint64
	result  uint64 // the word of the Return, which is the last statement, if there is one
}

// statement executes a statement or a block.
func (f *frame) statement(n *api.Node) {
	if n.Kind == api.NodeBlock {
		for i := range n.Kids {
			f.statement(&n.Kids[i])
		}
		return
	}
	f.pay()
	switch n.Kind {
	case api.NodeVar:
		x := uint64(0)
		if len(n.Kids) > 0 {
			x = f.expr(&n.Kids[0])
		}
		f.scalars[n.Name] = x
	case api.NodeLet, api.NodeAssign:
		f.scalars[n.Name] = f.expr(&n.Kids[0])
	case api.NodeStore:
		f.store(n)
	case api.NodeIf:
		f.branch(n)
	case api.NodeFor:
		f.count(n)
	case api.NodeWhile:
		f.repeat(n)
	case api.NodeSend:
		f.send(n.Name, f.expr(&n.Kids[0]))
	case api.NodeReturn:
		f.result = f.expr(&n.Kids[0])
	}
}

func (f *frame) store(n *api.Node) {
	index := f.expr(&n.Kids[0])
	x := f.expr(&n.Kids[1])
	if place, ok := f.element(n.Name, index); ok {
		*place = x
	}
}

func (f *frame) branch(n *api.Node) {
	switch {
	case f.expr(&n.Kids[0]) == 1:
		f.statement(&n.Kids[1])
	case len(n.Kids) > 2:
		f.statement(&n.Kids[2])
	}
}

// count executes a For.
func (f *frame) count(n *api.Node) {
	lower := f.expr(&n.Kids[0])
	upper := f.expr(&n.Kids[1])
	for i := lower; ; i = Apply(api.SrcAdd, n.Type, i, 1) {
		f.pay()
		if Apply(api.SrcLt, n.Type, i, upper) == 0 {
			return
		}
		f.scalars[n.Name] = i
		f.statement(&n.Kids[2])
	}
}

// repeat executes a While.
func (f *frame) repeat(n *api.Node) {
	for {
		f.pay()
		if f.expr(&n.Kids[0]) == 0 {
			return
		}
		f.statement(&n.Kids[1])
	}
}

// expr returns the value of an expression.
func (f *frame) expr(n *api.Node) uint64 {
	switch n.Kind {
	case api.NodeNumber:
		return n.Num
	case api.NodeName:
		return f.scalars[n.Name]
	case api.NodeRecv:
		return f.receive(n.Name)
	case api.NodeCall:
		return f.call(f.functions[n.Name], f.operands(n))
	case api.NodeIndex:
		if place, ok := f.element(n.Name, f.expr(&n.Kids[0])); ok {
			return *place
		}
	case api.NodeUnary:
		return unary(n, f.expr(&n.Kids[0]))
	case api.NodeBinary:
		a := f.expr(&n.Kids[0])
		b := f.expr(&n.Kids[1])
		return Apply(n.Op, n.Kids[0].Type, a, b)
	case api.NodeCond:
		x := f.operands(n)
		if x[0] == 1 {
			return x[1]
		}
		return x[2]
	case api.NodeCast:
		return Convert(n.Kids[0].Type, n.Type, f.expr(&n.Kids[0]))
	}
	return 0
}

// operands returns the values of all Kids of an expression, which are evaluated from left to right.
func (f *frame) operands(n *api.Node) []uint64 {
	var list []uint64
	for i := range n.Kids {
		list = append(list, f.expr(&n.Kids[i]))
	}
	return list
}

// unary returns the result of a unary operator.
func unary(n *api.Node, x uint64) uint64 {
	switch n.Op {
	case api.SrcNeg:
		return Apply(api.SrcSub, n.Type, 0, x)
	case api.SrcNot:
		return Apply(api.SrcXor, n.Type, x, bits.Mask(n.Type.Width))
	}
	return x ^ 1
}
