package graph_test

import (
	"math"
	"math/rand/v2"
	"reflect"
	"slices"
	"testing"

	"jacquard/api"
	"jacquard/graph"
)

// results calls all functions.
func results(sample Graph, node int, weights []int) []any {
	order, ordered := graph.Topo(sample)
	longest, acyclic := graph.Longest(sample, weights)
	path, weight, ok := graph.Critical(sample, weights)
	return []any{
		graph.Next(sample), graph.Turn(sample), order, ordered, graph.Cycle(sample), graph.Components(sample),
		graph.Reach(sample, node), graph.Dominators(sample, node), longest, acyclic, path, weight, ok,
	}
}

// spoil overwrites every list of a result, up to its capacity.
func spoil(result any) {
	switch list := result.(type) {
	case [][]int:
		for _, l := range list {
			spoil(l)
		}
		clear(list[:cap(list)])
	case []int:
		list = list[:cap(list)]
		for i := range list {
			list[i] = -77
		}
	case []bool:
		list = list[:cap(list)]
		for i := range list {
			list[i] = !list[i]
		}
	case Graph:
		clear(list.Links[:cap(list.Links)])
	}
}

// P2.1, R2 and R3: arguments stay unchanged, with their spare capacity, and no result shares memory with them or is kept.
func TestArgumentsStay(t *testing.T) {
	r := rand.New(rand.NewPCG(2, 5))
	spare := list(0, 1, 1, 0, 0, 0, 1, 2, 2, 1)
	for sample := range samples() {
		all := slices.Concat(sample.Links, spare)
		given := Graph{N: sample.N, Links: all[:len(sample.Links)]}
		weights := []int{math.MaxInt, 5, -3, math.MinInt, 9, 9, 9, 9, 9}
		size := r.IntN(5)
		first := results(given, size, weights[:size])
		for _, result := range first {
			spoil(result)
		}
		if !slices.Equal(all, slices.Concat(sample.Links, spare)) || !slices.Equal(weights, []int{math.MaxInt, 5, -3, math.MinInt, 9, 9, 9, 9, 9}) {
			t.Fatalf("%v: the arguments have become %v and %v", sample, all, weights)
		}
		second, third := results(given, size, weights[:size]), results(sample, size, weights[:size:size])
		if !reflect.DeepEqual(second, third) {
			t.Fatalf("%v: %v, then %v", sample, third, second)
		}
	}
}

// P2.1, R3: no two lists of Next share memory.
func TestListsAreSeparate(t *testing.T) {
	for sample := range samples() {
		want := expectedNext(sample)
		for v := range want {
			got := graph.Next(sample)
			spoil(got[v])
			for w := range want {
				if w != v && !slices.Equal(got[w], want[w]) {
					t.Fatalf("Next(%v): the lists of %d and %d share memory", sample, v, w)
				}
			}
		}
	}
}

// P2.1: an N above api.MaxNodes counts as api.MaxNodes.
func TestTooManyNodes(t *testing.T) {
	last := api.MaxNodes - 1
	l := list(0, last, last, 5, api.MaxNodes, 0, 5, api.MaxNodes, last, api.MaxNodes, api.MaxNodes, api.MaxNodes, api.MaxNodes+1, 1)
	weights := slices.Repeat([]int{1}, api.MaxNodes+2)
	for _, root := range []int{0, last, api.MaxNodes, api.MaxNodes + 1} {
		want := results(Graph{N: api.MaxNodes, Links: l}, root, weights)
		for _, n := range []int{api.MaxNodes + 1, 2 * api.MaxNodes, math.MaxInt} {
			if got := results(Graph{N: n, Links: l}, root, weights); !reflect.DeepEqual(got, want) {
				t.Errorf("the results for N = %d and the node %d are those for another N", n, root)
			}
		}
	}
	sample := Graph{N: math.MaxInt, Links: l}
	if next := graph.Next(sample); len(next) != api.MaxNodes || !slices.Equal(next[0], []int{last}) || !slices.Equal(next[last], []int{5}) || len(next[5]) > 0 {
		t.Errorf("Next: %d lists", len(next))
	}
	if turned := graph.Turn(sample); turned.N != api.MaxNodes || !slices.Equal(turned.Links, list(5, last, last, 0)) {
		t.Errorf("Turn: %v", turned)
	}
	if order, ok := graph.Topo(sample); !ok || len(order) != api.MaxNodes || order[last] != 5 {
		t.Errorf("Topo: %d nodes, %v", len(order), ok)
	}
	if path, weight, ok := graph.Critical(sample, weights); !ok || weight != 3 || !slices.Equal(path, []int{0, last, 5}) {
		t.Errorf("Critical: %v, %d, %v", path, weight, ok)
	}
}

// chain returns all nodes in a row, each with a link to the next one, and the last one with a link to node back.
func chain(back int) Graph {
	sample := Graph{N: api.MaxNodes}
	for v := range api.MaxNodes - 1 {
		sample.Links = append(sample.Links, graph.Link{From: v, To: v + 1})
	}
	sample.Links = append(sample.Links, graph.Link{From: api.MaxNodes - 1, To: back})
	return sample
}

// P2.1, R1: the deepest walks.
func TestLongChain(t *testing.T) {
	sample := chain(api.MaxNodes)
	order, ok := graph.Topo(sample)
	reached := graph.Reach(sample, 0)
	dominators := graph.Dominators(sample, 0)
	longest, acyclic := graph.Longest(sample, slices.Repeat([]int{math.MaxInt}, api.MaxNodes))
	if !ok || !acyclic || graph.Cycle(sample) != nil {
		t.Fatal("a chain has a cycle")
	}
	for v := range api.MaxNodes {
		if order[v] != v || !reached[v] || dominators[v] != v-1 || longest[v] != (v+1)<<30 {
			t.Fatalf("node %d: place %d, reached %v, dominator %d, longest %d", v, order[v], reached[v], dominators[v], longest[v])
		}
	}
	if path, weight, ok := graph.Critical(sample, []int{0, -5, 7}); !ok || weight != 7 || path[len(path)-1] < 2 {
		t.Errorf("Critical: %d nodes, %d, %v", len(path), weight, ok)
	}
	if least := graph.Components(sample); least[api.MaxNodes-1] != api.MaxNodes-1 {
		t.Errorf("Components: %d", least[api.MaxNodes-1])
	}
}

// P2.1, R1: the longest cycles.
func TestLongCycle(t *testing.T) {
	sample := chain(1)
	if cycle := graph.Cycle(sample); len(cycle) != api.MaxNodes-1 {
		t.Errorf("Cycle: %d nodes", len(cycle))
	}
	if order, ok := graph.Topo(sample); ok || order != nil {
		t.Errorf("Topo: %d nodes, %v", len(order), ok)
	}
	if longest, ok := graph.Longest(sample, nil); ok || longest != nil {
		t.Errorf("Longest: %d nodes, %v", len(longest), ok)
	}
	if path, weight, ok := graph.Critical(sample, []int{3}); ok || path != nil || weight != 0 {
		t.Errorf("Critical: %d nodes, %d, %v", len(path), weight, ok)
	}
	for v, least := range graph.Components(sample) {
		if least != min(v, 1) {
			t.Fatalf("Components: %d for %d", least, v)
		}
	}
	if d := graph.Dominators(sample, api.MaxNodes-1); d[0] != -1 || d[1] != api.MaxNodes-1 || d[2] != 1 || d[api.MaxNodes-1] != -1 {
		t.Errorf("Dominators: %d, %d, %d, %d", d[0], d[1], d[2], d[api.MaxNodes-1])
	}
}

// P2.1, R1: graphs on which simple searches for dominators take many rounds: two rows whose nodes have links to each other and back.
func TestTwoRows(t *testing.T) {
	half := api.MaxNodes/2 - 1
	sample := Graph{N: 2*half + 1, Links: list(0, 1, 0, half+1)}
	for i := 1; i <= half; i++ {
		sample.Links = append(sample.Links, list(i, half+i, half+i, i)...)
		if i < half {
			sample.Links = append(sample.Links, list(i, i+1, i+1, i, half+i, half+i+1, half+i+1, half+i)...)
		}
	}
	for v, d := range graph.Dominators(sample, 0) {
		if d != min(v, 1)-1 {
			t.Fatalf("Dominators: %d for %d", d, v)
		}
	}
}
