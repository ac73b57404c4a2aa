package graph

import "slices"

// tree is the tree of a depth-first search. A node is known by its number: its place in the order of the search.
type tree struct {
	nodes   []int // the node of each number
	numbers []int // the number of each node, none if the search does not come to it
	parents []int // the number of the parent of each number, none for the root
}

// search returns the tree of the nodes that can be reached from root.
func search(next [][]int, root int) tree {
	t := tree{numbers: slices.Repeat([]int{none}, len(next))}
	var walk func(v, parent int)
	walk = func(v, parent int) {
		number := len(t.nodes)
		t.nodes = append(t.nodes, v)
		t.numbers[v] = number
		t.parents = append(t.parents, parent)
		for _, w := range next[v] {
			if t.numbers[w] == none {
				walk(w, number)
			}
		}
	}
	walk(root, none)
	return t
}

// semidominators returns, for each number, the least number from which a path leads to it whose inner nodes all have greater numbers than it: Lengauer and Tarjan, "A fast algorithm for finding dominators in a flowgraph".
func semidominators(t tree, before [][]int) []int {
	count := len(t.nodes)
	semi := make([]int, count)
	for v := range count {
		semi[v] = v
	}
	// The numbers that have had their turn form a forest: above leads toward a root, and least is the least semidominator of the numbers skipped by it, its own included.
	above := slices.Repeat([]int{none}, count)
	least := slices.Clone(semi)
	var shorten func(v int)
	shorten = func(v int) {
		a := above[v]
		if a == none || above[a] == none {
			return
		}
		shorten(a)
		least[v] = min(least[v], least[a])
		above[v] = above[a]
	}
	for v := count - 1; v > 0; v-- {
		for _, w := range before[t.nodes[v]] {
			if u := t.numbers[w]; u != none {
				shorten(u)
				semi[v] = min(semi[v], least[u])
			}
		}
		above[v] = t.parents[v]
		least[v] = semi[v]
	}
	return semi
}

// Dominators returns the immediate dominator of each node, -1 for the root and for nodes that are not reached.
func Dominators(g Graph, root int) []int {
	next := Next(g)
	result := slices.Repeat([]int{none}, len(next))
	if !isNode(len(next), root) {
		return result
	}
	t := search(next, root)
	semi := semidominators(t, reversed(next))
	// The immediate dominator is the nearest one among the parent and its dominators that does not come after the semidominator.
	dominators := make([]int, len(semi))
	for v := 1; v < len(semi); v++ {
		d := t.parents[v]
		for d > semi[v] {
			d = dominators[d]
		}
		dominators[v] = d
		result[t.nodes[v]] = t.nodes[d]
	}
	return result
}
