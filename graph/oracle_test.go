package graph_test

import (
	"jacquard/api"
	"jacquard/graph"
)

// The functions of the chapter, once more: from the sentences that specify them, on tables of all pairs of nodes, without a search.

// pairs tells, for each pair of nodes, whether something holds.
type pairs [][]bool

func newPairs(n int) pairs {
	p := make(pairs, n)
	for v := range n {
		p[v] = make([]bool, n)
	}
	return p
}

// links tells which links a graph has.
func links(sample Graph) pairs {
	n := min(max(sample.N, 0), api.MaxNodes)
	p := newPairs(n)
	for _, l := range sample.Links {
		if 0 <= l.From && l.From < n && 0 <= l.To && l.To < n {
			p[l.From][l.To] = true
		}
	}
	return p
}

// follow adds to p all pairs that it connects by way of the nodes other than without.
func (p pairs) follow(without int) {
	for m := range p {
		if m == without {
			continue
		}
		for v := range p {
			for w := range p {
				p[v][w] = p[v][w] || p[v][m] && p[m][w]
			}
		}
	}
}

// paths tells between which nodes there is a path of one or more nodes.
func paths(sample Graph) pairs {
	p := links(sample)
	for v := range p {
		p[v][v] = true
	}
	p.follow(-1)
	return p
}

func isCyclic(sample Graph) bool {
	p := links(sample)
	p.follow(-1)
	for v := range p {
		if p[v][v] {
			return true
		}
	}
	return false
}

func expectedNext(sample Graph) [][]int {
	p := links(sample)
	next := make([][]int, len(p))
	for v := range p {
		for w := range p {
			if p[v][w] {
				next[v] = append(next[v], w)
			}
		}
	}
	return next
}

func expectedTurn(sample Graph) Graph {
	p := links(sample)
	turned := Graph{N: len(p)}
	for v := range p {
		for w := range p {
			if p[w][v] {
				turned.Links = append(turned.Links, graph.Link{From: v, To: w})
			}
		}
	}
	return turned
}

func expectedTopo(sample Graph) ([]int, bool) {
	p := links(sample)
	listed := make([]bool, len(p))
	isReady := func(v int) bool {
		for w := range p {
			if p[w][v] && !listed[w] {
				return false
			}
		}
		return !listed[v]
	}
	var order []int
	for range p {
		v := 0
		for v < len(p) && !isReady(v) {
			v++
		}
		if v == len(p) {
			return nil, false
		}
		listed[v] = true
		order = append(order, v)
	}
	return order, true
}

func expectedComponents(sample Graph) []int {
	p := paths(sample)
	least := make([]int, len(p))
	for v := range p {
		for !p[v][least[v]] || !p[least[v]][v] {
			least[v]++
		}
	}
	return least
}

func expectedReach(sample Graph, from int) []bool {
	p := paths(sample)
	if from < 0 || from >= len(p) {
		return make([]bool, len(p))
	}
	return p[from]
}

// dominances tells which nodes dominate which, for a root that is a node: those without which there is no path.
func dominances(sample Graph, root int) pairs {
	dominates := newPairs(len(links(sample)))
	for d := range dominates {
		p := links(sample)
		for v := range p {
			p[v][v] = true
		}
		p.follow(d)
		for v := range p {
			dominates[d][v] = d == v || d == root || !p[root][v]
		}
	}
	return dominates
}

func expectedDominators(sample Graph, root int) []int {
	reached := expectedReach(sample, root)
	result := make([]int, len(reached))
	for v := range reached {
		result[v] = -1
	}
	if root < 0 || root >= len(reached) {
		return result
	}
	dominates := dominances(sample, root)
	for v := range reached {
		for d := range reached {
			if v != root && reached[v] && d != v && dominates[d][v] && allDominate(dominates, d, v) {
				result[v] = d
			}
		}
	}
	return result
}

// allDominate reports whether all nodes that dominate v, v left out, dominate d.
func allDominate(dominates pairs, d, v int) bool {
	for u := range dominates {
		if u != v && dominates[u][v] && !dominates[u][d] {
			return false
		}
	}
	return true
}

func limited(weights []int, v int) int {
	switch {
	case v >= len(weights):
		return 0
	case weights[v] < -1<<30:
		return -1 << 30
	case weights[v] > 1<<30:
		return 1 << 30
	}
	return weights[v]
}

// expectedLongest tries all paths.
func expectedLongest(sample Graph, weights []int) ([]int, bool) {
	if isCyclic(sample) {
		return nil, false
	}
	p := links(sample)
	longest := make([]int, len(p))
	found := make([]bool, len(p))
	var try func(v, sum int)
	try = func(v, sum int) {
		sum += limited(weights, v)
		if !found[v] || sum > longest[v] {
			longest[v] = sum
			found[v] = true
		}
		for w := range p {
			if p[v][w] {
				try(w, sum)
			}
		}
	}
	for v := range p {
		try(v, 0)
	}
	return longest, true
}
