package types_test

import (
	"fmt"
	"iter"

	"jacquard/api"
)

// shown writes a tree for messages.
func shown(n api.Node) string { return fmt.Sprintf("%.2000s", fmt.Sprint(n)) }

func isExpr(n api.Node) bool { return n.Kind >= api.NodeNumber && n.Kind <= api.NodeRecv }

// changed returns a copy of a tree, with nil for empty Kids, whose nodes have been changed, each one ahead of its Kids.
func changed(n api.Node, change func(n *api.Node)) api.Node {
	change(&n)
	kids := n.Kids
	n.Kids = nil
	for _, kid := range kids {
		n.Kids = append(n.Kids, changed(kid, change))
	}
	return n
}

// duplicate returns a copy of a tree, with nil for empty Kids.
func duplicate(n api.Node) api.Node { return changed(n, func(*api.Node) {}) }

// plain returns a copy of a tree without what Check fills in.
func plain(n api.Node) api.Node {
	return changed(n, func(n *api.Node) {
		if isExpr(*n) && n.Kind != api.NodeCast || n.Kind == api.NodeLet {
			n.Type = api.Type{}
		}
	})
}

// nodes goes through a tree, each node ahead of its Kids.
func nodes(n *api.Node) iter.Seq[*api.Node] {
	return func(yield func(*api.Node) bool) {
		for list := []*api.Node{n}; len(list) > 0; {
			last := list[len(list)-1]
			list = list[:len(list)-1]
			if !yield(last) {
				return
			}
			for i := len(last.Kids) - 1; i >= 0; i-- {
				list = append(list, &last.Kids[i])
			}
		}
	}
}
