package graph

import "slices"

// Reach reports which nodes can be reached from a node.
func Reach(g Graph, from int) []bool {
	next := Next(g)
	reached := make([]bool, len(next))
	var walk func(v int)
	walk = func(v int) {
		reached[v] = true
		for _, w := range next[v] {
			if !reached[w] {
				walk(w)
			}
		}
	}
	if isNode(len(next), from) {
		walk(from)
	}
	return reached
}

// Cycle returns the nodes of a simple cycle in order, or nil if there is none.
func Cycle(g Graph) []int {
	next := Next(g)
	seen := make([]bool, len(next))
	place := slices.Repeat([]int{none}, len(next)) // where a node is on the path
	var path []int
	var walk func(v int) []int
	walk = func(v int) []int {
		seen[v] = true
		place[v] = len(path)
		path = append(path, v)
		for _, w := range next[v] {
			if place[w] != none {
				return path[place[w]:]
			}
			if seen[w] {
				continue
			}
			if cycle := walk(w); cycle != nil {
				return cycle
			}
		}
		place[v] = none
		path = path[:len(path)-1]
		return nil
	}
	for v := range next {
		if seen[v] {
			continue
		}
		if cycle := walk(v); cycle != nil {
			return cycle
		}
	}
	return nil
}

// Components returns, for each node, the least node of its strongly connected component.
func Components(g Graph) []int {
	next := Next(g)
	least := slices.Repeat([]int{none}, len(next))
	number := slices.Repeat([]int{none}, len(next)) // the order in which the nodes are visited
	visited := 0
	var open []int // visited nodes whose component is not complete
	var walk func(v int) int
	// walk returns the least number of an open node that is known to be reached from v: if it is v's own, v's component is complete, and ends the list of open nodes.
	walk = func(v int) int {
		start := len(open)
		open = append(open, v)
		number[v] = visited
		visited++
		low := number[v]
		for _, w := range next[v] {
			switch {
			case number[w] == none:
				low = min(low, walk(w))
			case least[w] == none:
				low = min(low, number[w])
			}
		}
		if low == number[v] {
			first := slices.Min(open[start:])
			for _, w := range open[start:] {
				least[w] = first
			}
			open = open[:start]
		}
		return low
	}
	for v := range next {
		if number[v] == none {
			walk(v)
		}
	}
	return least
}
