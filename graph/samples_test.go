package graph_test

import (
	"iter"
	"math"
	"math/rand/v2"

	"jacquard/api"
	"jacquard/graph"
)

type Graph = graph.Graph

// list returns the links between the nodes ends[0] and ends[1], ends[2] and ends[3], and so on.
func list(ends ...int) []graph.Link {
	var l []graph.Link
	for i := 0; i+1 < len(ends); i += 2 {
		l = append(l, graph.Link{From: ends[i], To: ends[i+1]})
	}
	return l
}

// named are graphs of the edge cases that the chapter names.
func named() []Graph {
	return []Graph{
		{},
		{N: 1},
		{N: 3},
		{N: -1, Links: list(0, 0, -1, -1)},
		{N: math.MinInt, Links: list(0, 1, math.MinInt, -1)},
		{Links: list(0, 0, 0, 1)},
		{N: 1, Links: list(0, 0)},
		{N: 3, Links: list(1, 1, 1, 1)},
		{N: 3, Links: list(0, 2, 0, 1, 0, 2, 0, 1)},
		{N: 3, Links: list(2, 1, 2, 1, 1, 0, 2, 0, 1, 0)},
		{N: 3, Links: list(0, 3, 3, 0, -1, 1, 1, -1, 1, 2, math.MaxInt, 0, 0, math.MinInt)},
		{N: 3, Links: list(2, 3, 3, 2, 0, 4, 4, 0)},
		{N: 4, Links: list(0, 1, 0, 2, 1, 3, 2, 3)},
		{N: 4, Links: list(0, 1, 0, 2, 1, 3, 2, 3, 3, 1)},
		{N: 5, Links: list(4, 3, 3, 2, 2, 1, 1, 0)},
		{N: 5, Links: list(4, 3, 3, 2, 2, 1, 1, 0, 0, 4)},
		{N: 6, Links: list(5, 2, 5, 0, 4, 0, 4, 1, 2, 3, 3, 1)},
		{N: 6, Links: list(0, 1, 1, 2, 2, 1, 3, 4, 4, 3, 2, 5, 4, 5)},
		// Lengauer and Tarjan's own example: an irreducible graph.
		{N: 13, Links: list(0, 1, 0, 2, 0, 3, 1, 4, 2, 1, 2, 4, 2, 5, 3, 6, 3, 7, 4, 12, 5, 8, 6, 9, 7, 9, 7, 10, 8, 5, 8, 11, 9, 11, 10, 9, 11, 9, 11, 0, 12, 8)},
	}
}

// small goes through all graphs of n nodes.
func small(n int) iter.Seq[Graph] {
	return func(yield func(Graph) bool) {
		for set := range 1 << (n * n) {
			sample := Graph{N: n}
			for i := range n * n {
				if set>>i&1 == 1 {
					sample.Links = append(sample.Links, graph.Link{From: i / n, To: i % n})
				}
			}
			if !yield(sample) {
				return
			}
		}
	}
}

// mixed returns a graph of up to nine nodes, some of whose links name no nodes or come again; half of them have no cycle.
func mixed(r *rand.Rand) Graph {
	sample := Graph{N: r.IntN(10)}
	places := r.Perm(sample.N)
	acyclic := r.IntN(2) == 0
	for range r.IntN(3*sample.N + 4) {
		from, to := r.IntN(sample.N+4)-2, r.IntN(sample.N+4)-2
		inside := min(from, to) >= 0 && max(from, to) < sample.N
		if acyclic && inside && places[from] >= places[to] {
			continue
		}
		for range 1 + r.IntN(2) {
			sample.Links = append(sample.Links, graph.Link{From: from, To: to})
		}
	}
	return sample
}

// samples goes through the named graphs, all graphs of up to three nodes, some of four, and mixed ones.
func samples() iter.Seq[Graph] {
	return func(yield func(Graph) bool) {
		for _, sample := range named() {
			if !yield(sample) {
				return
			}
		}
		for n := range 5 {
			every := 0
			for sample := range small(n) {
				every++
				if n == 4 && every%7 != 0 {
					continue
				}
				if !yield(sample) {
					return
				}
			}
		}
		r := rand.New(rand.NewPCG(2, 2))
		for range 5000 {
			if !yield(mixed(r)) {
				return
			}
		}
	}
}

// roots are the nodes of a graph, and integers that are none.
func roots(sample Graph) []int {
	l := []int{math.MinInt, -2, -1, sample.N, sample.N + 1, api.MaxNodes, math.MaxInt}
	for v := range max(sample.N, 0) {
		l = append(l, v)
	}
	return l
}

// weightings returns lists of weights: none, shorter and longer ones than a graph has nodes, weights at the limits and beyond them.
func weightings(r *rand.Rand, sample Graph) [][]int {
	n := max(sample.N, 0)
	result := [][]int{nil}
	for _, size := range []int{1, n, n, n, max(n-1, 0), n + 3} {
		weights := make([]int, size)
		for i := range weights {
			weights[i] = r.IntN(21) - 10
		}
		result = append(result, weights)
	}
	extremes := []int{math.MinInt, -1<<30 - 1, -1 << 30, -1<<30 + 1, 0, 1, 1<<30 - 1, 1 << 30, 1<<30 + 1, math.MaxInt}
	for range 2 {
		weights := make([]int, r.IntN(n+2))
		for i := range weights {
			weights[i] = extremes[r.IntN(len(extremes))]
		}
		result = append(result, weights)
	}
	return result
}
