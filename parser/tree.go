package parser

import (
	"slices"
	"strings"

	"jacquard/api"
)

// Bare returns a tree without lines and without the types that type checking has filled in.
func Bare(n api.Node) api.Node {
	n.Line = 0
	n.Name = strings.Clone(n.Name) // Results share no memory with an argument.
	n.Type = bareType(n)
	kids := make([]api.Node, len(n.Kids))
	for i, kid := range n.Kids {
		kids[i] = Bare(kid)
	}
	n.Kids = kids
	return n
}

// bareType returns the type of a node, unless it is an expression whose type does not stand in the source.
func bareType(n api.Node) api.Type {
	if !exprs.has(n) || n.Kind == api.NodeCast || isTruth(n) {
		return n.Type
	}
	return api.Type{}
}

// isTruth reports whether an expression is true or false.
func isTruth(n api.Node) bool { return n.Kind == api.NodeNumber && n.Type == api.Type{Width: 1} }

// label is a node without its line and its Kids.
type label struct {
	kind             int
	name             string
	num              uint64
	ofType           api.Type
	op, factor       int
	pipeline, unroll int
}

func labelOf(n api.Node) label {
	return label{n.Kind, n.Name, n.Num, n.Type, n.Op, n.Factor, n.Pipeline, n.Unroll}
}

// Same reports whether two trees are equal, but for lines.
func Same(a, b api.Node) bool {
	return labelOf(a) == labelOf(b) && slices.EqualFunc(a.Kids, b.Kids, Same)
}

// Count returns the number of nodes of a tree.
func Count(n api.Node) int {
	count := 1
	for _, kid := range n.Kids {
		count += Count(kid)
	}
	return count
}

// Depth returns the number of levels of a tree.
func Depth(n api.Node) int {
	below := 0
	for _, kid := range n.Kids {
		below = max(below, Depth(kid))
	}
	return 1 + below
}

// within reports whether a tree has at most api.MaxNodes nodes and api.MaxNesting levels. Unlike Count and Depth, it looks at no more nodes than that.
func within(n api.Node) bool {
	left := api.MaxNodes
	var walk func(n api.Node, levels int) bool
	walk = func(n api.Node, levels int) bool {
		if left == 0 || levels == 0 {
			return false
		}
		left--
		return !slices.ContainsFunc(n.Kids, func(kid api.Node) bool { return !walk(kid, levels-1) })
	}
	return walk(n, api.MaxNesting)
}
