package parser

import (
	"slices"

	"jacquard/api"
	"jacquard/lexer"
)

// Valid reports whether n is the tree of a program.
func Valid(n api.Node) bool { return n.Kind == api.NodeProgram && within(n) && fits(n) }

// fits reports whether each node of a tree has fields and Kids that the grammar permits for its kind.
func fits(n api.Node) bool {
	n.Type = bareType(n)
	own, ok := said(n)
	return ok && own == labelOf(n) && kidsFit(n) && !slices.ContainsFunc(n.Kids, func(kid api.Node) bool { return !fits(kid) })
}

// said returns the fields that tokens give a node of its kind, and whether tokens can give them what they hold.
func said(n api.Node) (label, bool) {
	own := label{kind: n.Kind}
	switch n.Kind {
	case api.NodeProgram, api.NodeBlock, api.NodeIf, api.NodeReturn, api.NodeCond:
		return own, true
	case api.NodeFunction, api.NodeParam, api.NodeIn, api.NodeOut, api.NodeVar:
		own.name, own.ofType = n.Name, n.Type
		return own, isName(n.Name) && isType(n.Type)
	case api.NodeKernel, api.NodeLet:
		own.name, own.ofType = n.Name, n.Type
		return own, isName(n.Name) && (n.Type == api.Type{} || isType(n.Type))
	case api.NodeArray:
		own.name, own.ofType, own.num, own.op, own.factor = n.Name, n.Type, n.Num, n.Op, n.Factor
		return own, isName(n.Name) && isType(n.Type) && n.Num <= greatest && isDivision(n.Op, n.Factor)
	case api.NodeAssign, api.NodeStore, api.NodeSend, api.NodeName, api.NodeIndex, api.NodeCall, api.NodeRecv:
		own.name = n.Name
		return own, isName(n.Name)
	case api.NodeFor:
		own.name, own.ofType, own.pipeline, own.unroll = n.Name, n.Type, n.Pipeline, n.Unroll
		return own, isName(n.Name) && isType(n.Type) && isAmount(n.Pipeline) && isAmount(n.Unroll)
	case api.NodeWhile:
		own.pipeline, own.unroll = n.Pipeline, n.Unroll
		return own, isAmount(n.Pipeline) && isAmount(n.Unroll)
	case api.NodeNumber:
		own.num, own.ofType = n.Num, n.Type
		return own, !isTruth(n) || n.Num <= 1
	case api.NodeUnary:
		own.op = n.Op
		return own, textOf(unaryLevel, n.Op) != ""
	case api.NodeBinary:
		own.op = n.Op
		return own, binaryLevel(n.Op) < castLevel
	case api.NodeCast:
		own.ofType = n.Type
		return own, isType(n.Type)
	}
	return label{}, false
}

func isName(s string) bool {
	list, _, _ := lexer.Lex(s)
	return len(list) == 1 && list[0].Kind == api.TokenName && list[0].Text == s
}

func isType(t api.Type) bool { return lexer.TypeName(t) != "" }

func isDivision(op, factor int) bool {
	switch op {
	case api.Cyclic, api.Blocks:
		return isAmount(factor)
	case api.Whole, api.Complete:
		return factor == 0
	}
	return false
}

// isAmount reports whether n can be a factor of an array, or what a directive, or none, says.
func isAmount(n int) bool { return n >= 0 && n <= greatest }

// group is a range of kinds of nodes.
type group struct{ first, last int }

// Groups of kinds that stand at the same places of the grammar.
var (
	units      = group{api.NodeFunction, api.NodeKernel}
	scalars    = group{api.NodeParam, api.NodeParam}
	params     = group{api.NodeParam, api.NodeOut}
	blocks     = group{api.NodeBlock, api.NodeBlock}
	statements = group{api.NodeVar, api.NodeReturn}
	branches   = group{api.NodeIf, api.NodeIf}
	exprs      = group{api.NodeNumber, api.NodeRecv}
)

func (g group) has(n api.Node) bool { return g.first <= n.Kind && n.Kind <= g.last }

// kidsFit reports whether a node has Kids of kinds that the grammar permits for its kind.
func kidsFit(n api.Node) bool {
	switch n.Kind {
	case api.NodeProgram:
		return every(n.Kids, units)
	case api.NodeFunction:
		return header(n.Kids, scalars)
	case api.NodeKernel:
		return header(n.Kids, params)
	case api.NodeBlock:
		return every(n.Kids, statements)
	case api.NodeCall:
		return every(n.Kids, exprs)
	case api.NodeVar:
		return exactly(n.Kids) || exactly(n.Kids, exprs)
	case api.NodeLet, api.NodeAssign, api.NodeSend, api.NodeReturn, api.NodeIndex, api.NodeUnary, api.NodeCast:
		return exactly(n.Kids, exprs)
	case api.NodeStore, api.NodeBinary:
		return exactly(n.Kids, exprs, exprs)
	case api.NodeCond:
		return exactly(n.Kids, exprs, exprs, exprs)
	case api.NodeIf:
		return exactly(n.Kids, exprs, blocks) || exactly(n.Kids, exprs, blocks, blocks) || exactly(n.Kids, exprs, blocks, branches)
	case api.NodeFor:
		return exactly(n.Kids, exprs, exprs, blocks)
	case api.NodeWhile:
		return exactly(n.Kids, exprs, blocks)
	}
	return exactly(n.Kids)
}

// every reports whether all nodes of a list belong to a group.
func every(list []api.Node, g group) bool {
	return !slices.ContainsFunc(list, func(n api.Node) bool { return !g.has(n) })
}

// header reports whether a list consists of nodes of a group and a block behind them.
func header(list []api.Node, g group) bool {
	last := len(list) - 1
	return last >= 0 && every(list[:last], g) && blocks.has(list[last])
}

// exactly reports whether a list consists of one node of each group, in their order.
func exactly(list []api.Node, groups ...group) bool {
	return slices.EqualFunc(list, groups, func(n api.Node, g group) bool { return g.has(n) })
}
