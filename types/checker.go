package types

import "jacquard/api"

// failure is the panic of a rule that is violated: with the line of the node, and the error.
type failure struct {
	line int
	e    api.Errno
}

// checker types a program. It changes nothing but the types of expressions and of lets.
type checker struct {
	functions map[string]*api.Node
	calls     map[string][]string // the functions that each function calls
	unit      *api.Node           // the function or the kernel whose block is checked
	last      *api.Node           // the statement that may be its Return, or nil
	names     []symbol            // the visible ones, in the order of their declarations
}

// require leaves the check with an error of a node, unless its rule holds.
func require(holds bool, n *api.Node, e api.Errno) {
	if !holds {
		panic(failure{n.Line, e})
	}
}

func (c *checker) program(n *api.Node) {
	c.header(n)
	for i := range n.Kids {
		c.body(&n.Kids[i])
	}
	c.noRecursion(n)
}

// header finds the functions, which may be called ahead of their declarations, and the kernel.
func (c *checker) header(program *api.Node) {
	kernel := ""
	for i := range program.Kids {
		n := &program.Kids[i]
		require(c.functions[n.Name] == nil && kernel != n.Name, n, api.ErrName)
		if n.Kind == api.NodeFunction {
			c.functions[n.Name] = n
			continue
		}
		require(kernel == "", n, api.ErrName)
		kernel = n.Name
	}
	require(kernel != "", program, api.ErrName)
}

// params returns the parameters of a function or a kernel.
func params(unit *api.Node) []api.Node { return unit.Kids[:len(unit.Kids)-1] }

// body checks the parameters and the block of a function or a kernel.
func (c *checker) body(n *api.Node) {
	c.unit, c.last, c.names = n, nil, nil
	c.params(params(n))
	block := &n.Kids[len(n.Kids)-1]
	hasResult := n.Type != none // Without a result there is no place for a Return.
	if size := len(block.Kids); hasResult && size > 0 {
		c.last = &block.Kids[size-1]
	}
	c.block(block)
	require(!hasResult || c.last != nil && c.last.Kind == api.NodeReturn, n, api.ErrType)
}

func (c *checker) params(list []api.Node) {
	arrays, streams := 0, 0
	for i := range list {
		n := &list[i]
		kind := scalar
		switch n.Kind {
		case api.NodeArray:
			kind = array
			arrays++
			require(isDivisible(*n), n, api.ErrLimit)
		case api.NodeIn:
			kind = input
			streams++
		case api.NodeOut:
			kind = output
			streams++
		}
		require(arrays <= api.MaxMems && streams <= api.MaxMems, n, api.ErrLimit)
		c.declare(n, kind)
	}
}

// isDivisible reports whether the length of an array and the number of its banks are within their limits.
func isDivisible(n api.Node) bool {
	if n.Num < 1 || n.Num > api.MaxLen {
		return false
	}
	most := min(int(n.Num), api.MaxBanks)
	switch n.Op {
	case api.Cyclic, api.Blocks:
		return 1 <= n.Factor && n.Factor <= most
	case api.Complete:
		return int(n.Num) <= api.MaxBanks
	}
	return true
}

func (c *checker) block(n *api.Node) {
	visible := len(c.names)
	for i := range n.Kids {
		c.statement(&n.Kids[i])
	}
	c.names = c.names[:visible]
}

func (c *checker) statement(n *api.Node) {
	switch n.Kind {
	case api.NodeBlock: // behind an else
		c.block(n)
	case api.NodeVar:
		if len(n.Kids) > 0 {
			c.expr(&n.Kids[0], n.Type)
		}
		c.declare(n, variable)
	case api.NodeLet:
		n.Type = c.expr(&n.Kids[0], n.Type)
		c.declare(n, scalar)
	case api.NodeAssign:
		c.expr(&n.Kids[0], c.lookUp(n, variable))
	case api.NodeStore:
		c.expr(&n.Kids[1], c.element(n))
	case api.NodeIf:
		c.expr(&n.Kids[0], u1)
		for i := range n.Kids[1:] {
			c.statement(&n.Kids[1+i])
		}
	case api.NodeFor, api.NodeWhile:
		c.loop(n)
	case api.NodeSend:
		c.expr(&n.Kids[0], c.lookUp(n, output))
	case api.NodeReturn:
		require(n == c.last, n, api.ErrType)
		c.expr(&n.Kids[0], c.unit.Type)
	}
}

func (c *checker) loop(n *api.Node) {
	require(n.Pipeline <= api.MaxII && n.Unroll <= api.MaxUnroll, n, api.ErrLimit)
	if n.Kind == api.NodeWhile {
		c.expr(&n.Kids[0], u1)
		c.block(&n.Kids[1])
		return
	}
	c.expr(&n.Kids[0], n.Type)
	c.expr(&n.Kids[1], n.Type)
	visible := len(c.names)
	c.declare(n, scalar)
	c.block(&n.Kids[2])
	c.names = c.names[:visible]
}
