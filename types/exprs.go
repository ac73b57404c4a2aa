package types

import "jacquard/api"

// Types that rules name.
var (
	none = api.Type{} // no type is wanted
	u1   = api.Type{Width: 1}
	u32  = api.Type{Width: 32}
)

// isArithmetic reports whether the result of a binary operator has the type of its operands.
func isArithmetic(op int) bool {
	switch op {
	case api.SrcAdd, api.SrcSub, api.SrcMul, api.SrcDiv, api.SrcRem, api.SrcAnd, api.SrcOr, api.SrcXor, api.SrcShl, api.SrcShr:
		return true
	}
	return false
}

// expr types an expression, and returns its type, which is the wanted one unless that is none.
func (c *checker) expr(n *api.Node, wanted api.Type) api.Type {
	require(wanted != none || !Open(*n), n, api.ErrType)
	n.Type = c.own(n, wanted)
	require(wanted == none || n.Type == wanted, n, api.ErrType)
	return n.Type
}

// loose types an expression, with a wanted type only if it is open.
func (c *checker) loose(n *api.Node, wanted api.Type) api.Type {
	if !Open(*n) {
		wanted = none
	}
	return c.expr(n, wanted)
}

// alike types two expressions that must have the same type, and returns that type.
func (c *checker) alike(first, second *api.Node, wanted api.Type) api.Type {
	if wanted == none && Open(*first) {
		first, second = second, first
	}
	wanted = c.expr(first, wanted)
	return c.expr(second, wanted)
}

// own types the Kids of an expression, and returns its own type.
func (c *checker) own(n *api.Node, wanted api.Type) api.Type {
	switch n.Kind {
	case api.NodeNumber:
		return number(n, wanted)
	case api.NodeName:
		return c.lookUp(n, scalar, variable)
	case api.NodeRecv:
		return c.lookUp(n, input)
	case api.NodeIndex:
		return c.element(n)
	case api.NodeCall:
		return c.call(n)
	case api.NodeUnary:
		if n.Op == api.SrcIsZero {
			wanted = u1
		}
		return c.expr(&n.Kids[0], wanted)
	case api.NodeBinary:
		return c.binary(n, wanted)
	case api.NodeCond:
		c.expr(&n.Kids[0], u1)
		return c.alike(&n.Kids[1], &n.Kids[2], wanted)
	}
	c.loose(&n.Kids[0], n.Type) // of a Cast
	return n.Type
}

func number(n *api.Node, wanted api.Type) api.Type {
	if n.Type == u1 {
		return u1
	}
	require(n.Num>>wanted.Width == 0, n, api.ErrType)
	return wanted
}

// element types the index of an Index or a Store, and returns the type of the array's elements.
func (c *checker) element(n *api.Node) api.Type {
	of := c.lookUp(n, array)
	require(!c.loose(&n.Kids[0], u32).Signed, n, api.ErrType)
	return of
}

func (c *checker) call(n *api.Node) api.Type {
	f := c.functions[n.Name]
	require(f != nil, n, api.ErrName)
	require(len(n.Kids) == len(params(f)), n, api.ErrType)
	for i, p := range params(f) {
		c.expr(&n.Kids[i], p.Type)
	}
	c.calls[c.unit.Name] = append(c.calls[c.unit.Name], n.Name)
	return f.Type
}

func (c *checker) binary(n *api.Node, wanted api.Type) api.Type {
	left, right := &n.Kids[0], &n.Kids[1]
	switch {
	case isArithmetic(n.Op):
		return c.alike(left, right, wanted)
	case n.Op == api.SrcBoth || n.Op == api.SrcEither:
		return c.alike(left, right, u1)
	}
	require(!Open(*left) || !Open(*right), n, api.ErrType)
	c.alike(left, right, none)
	return u1
}
