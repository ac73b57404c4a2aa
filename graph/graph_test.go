package graph_test

import (
	"math/rand/v2"
	"slices"
	"testing"

	"jacquard/graph"
)

// equal reports whether two lists of lists are equal; an empty list may be nil.
func equal(a, b [][]int) bool { return slices.EqualFunc(a, b, slices.Equal[[]int]) }

// P2.1
func TestNext(t *testing.T) {
	for sample := range samples() {
		if got, want := graph.Next(sample), expectedNext(sample); !equal(got, want) {
			t.Fatalf("Next(%v) = %v, not %v", sample, got, want)
		}
	}
}

// P2.1
func TestTurn(t *testing.T) {
	for sample := range samples() {
		got, want := graph.Turn(sample), expectedTurn(sample)
		if got.N != want.N || !slices.Equal(got.Links, want.Links) {
			t.Fatalf("Turn(%v) = %v, not %v", sample, got, want)
		}
	}
}

// P2.1
func TestTopo(t *testing.T) {
	for sample := range samples() {
		got, ok := graph.Topo(sample)
		if want, possible := expectedTopo(sample); ok != possible || !slices.Equal(got, want) || !ok && got != nil {
			t.Fatalf("Topo(%v) = %v, %v, not %v", sample, got, ok, want)
		}
	}
}

// isCycle reports whether the nodes form a cycle without repetition.
func isCycle(sample Graph, cycle []int) bool {
	next := expectedNext(sample)
	seen := make([]bool, len(next))
	for i, v := range cycle {
		if v < 0 || v >= len(next) || seen[v] || !slices.Contains(next[v], cycle[(i+1)%len(cycle)]) {
			return false
		}
		seen[v] = true
	}
	return len(cycle) > 0
}

// P2.1
func TestCycle(t *testing.T) {
	for sample := range samples() {
		got := graph.Cycle(sample)
		if isCyclic(sample) != (got != nil) {
			t.Fatalf("Cycle(%v) = %v", sample, got)
		}
		if got != nil && !isCycle(sample, got) {
			t.Fatalf("Cycle(%v) = %v, which is none", sample, got)
		}
	}
}

// P2.1
func TestComponents(t *testing.T) {
	for sample := range samples() {
		if got, want := graph.Components(sample), expectedComponents(sample); !slices.Equal(got, want) {
			t.Fatalf("Components(%v) = %v, not %v", sample, got, want)
		}
	}
}

// P2.1
func TestReach(t *testing.T) {
	for sample := range samples() {
		for _, from := range roots(sample) {
			if got, want := graph.Reach(sample, from), expectedReach(sample, from); !slices.Equal(got, want) {
				t.Fatalf("Reach(%v, %d) = %v, not %v", sample, from, got, want)
			}
		}
	}
}

// P2.1
func TestDominators(t *testing.T) {
	for sample := range samples() {
		for _, root := range roots(sample) {
			if got, want := graph.Dominators(sample, root), expectedDominators(sample, root); !slices.Equal(got, want) {
				t.Fatalf("Dominators(%v, %d) = %v, not %v", sample, root, got, want)
			}
		}
	}
}

// P2.1: graphs whose searches go deep.
func TestDominatorsOfDeepGraphs(t *testing.T) {
	r := rand.New(rand.NewPCG(2, 6))
	for range 300 {
		sample := Graph{N: 10 + r.IntN(25)}
		for v := range sample.N {
			// Most links go a short way ahead, some anywhere.
			sample.Links = append(sample.Links, list(v, v+1+r.IntN(3))...)
			if r.IntN(3) == 0 {
				sample.Links = append(sample.Links, list(r.IntN(sample.N), r.IntN(sample.N))...)
			}
		}
		root := r.IntN(3)
		if got, want := graph.Dominators(sample, root), expectedDominators(sample, root); !slices.Equal(got, want) {
			t.Fatalf("Dominators(%v, %d) = %v, not %v", sample, root, got, want)
		}
	}
}

// P2.1
func TestLongest(t *testing.T) {
	r := rand.New(rand.NewPCG(2, 3))
	for sample := range samples() {
		for _, weights := range weightings(r, sample) {
			got, ok := graph.Longest(sample, weights)
			if want, possible := expectedLongest(sample, weights); ok != possible || !slices.Equal(got, want) || !ok && got != nil {
				t.Fatalf("Longest(%v, %v) = %v, %v, not %v", sample, weights, got, ok, want)
			}
		}
	}
}

// weigh returns the weight of a list of nodes, and whether it is a path.
func weigh(sample Graph, weights, path []int) (int, bool) {
	next := expectedNext(sample)
	sum := 0
	for i, v := range path {
		if v < 0 || v >= len(next) || i > 0 && !slices.Contains(next[path[i-1]], v) {
			return 0, false
		}
		sum += limited(weights, v)
	}
	return sum, len(path) > 0
}

// P2.1
func TestCritical(t *testing.T) {
	r := rand.New(rand.NewPCG(2, 4))
	for sample := range samples() {
		for _, weights := range weightings(r, sample) {
			path, weight, ok := graph.Critical(sample, weights)
			longest, possible := expectedLongest(sample, weights)
			if ok != possible {
				t.Fatalf("Critical(%v, %v) = %v, %d, %v", sample, weights, path, weight, ok)
			}
			if len(longest) == 0 {
				if path != nil || weight != 0 {
					t.Fatalf("Critical(%v, %v) = %v, %d, %v", sample, weights, path, weight, ok)
				}
				continue
			}
			if sum, isPath := weigh(sample, weights, path); !isPath || sum != weight || weight != slices.Max(longest) {
				t.Fatalf("Critical(%v, %v) = %v, %d, not a path of the weight %d", sample, weights, path, weight, slices.Max(longest))
			}
		}
	}
}

// The chapter's examples.
func TestExamples(t *testing.T) {
	sample := Graph{N: 4, Links: list(0, 1, 0, 2, 1, 3, 2, 3)}
	weights := []int{1, 5, 2, 1}
	if order, ok := graph.Topo(sample); !ok || !slices.Equal(order, []int{0, 1, 2, 3}) {
		t.Error("Topo", order, ok)
	}
	if d := graph.Dominators(sample, 0); !slices.Equal(d, []int{-1, 0, 0, 0}) {
		t.Error("Dominators", d)
	}
	if longest, ok := graph.Longest(sample, weights); !ok || !slices.Equal(longest, []int{1, 6, 3, 7}) {
		t.Error("Longest", longest, ok)
	}
	if path, weight, ok := graph.Critical(sample, weights); !ok || weight != 7 || !slices.Equal(path, []int{0, 1, 3}) {
		t.Error("Critical", path, weight, ok)
	}
	sample.Links = append(sample.Links, graph.Link{From: 3, To: 1})
	if order, ok := graph.Topo(sample); ok || order != nil {
		t.Error("Topo", order, ok)
	}
	if least := graph.Components(sample); !slices.Equal(least, []int{0, 1, 2, 1}) {
		t.Error("Components", least)
	}
}

// P2.2
func TestCyclesAgree(t *testing.T) {
	for sample := range samples() {
		_, ordered := graph.Topo(sample)
		alone := true
		next := graph.Next(sample)
		for v, least := range graph.Components(sample) {
			alone = alone && v == least && !slices.Contains(next[v], v)
		}
		if cycle := graph.Cycle(sample); ordered != (cycle == nil) || ordered != alone {
			t.Fatalf("%v: Topo %v, Cycle %v, components of their own %v", sample, ordered, cycle, alone)
		}
	}
}

// P2.3
func TestDirectionsAgree(t *testing.T) {
	for sample := range samples() {
		turned := graph.Turn(sample)
		if again := graph.Turn(turned); !equal(graph.Next(again), graph.Next(sample)) {
			t.Fatalf("%v: turned twice %v", sample, again)
		}
		if a, b := graph.Components(sample), graph.Components(turned); !slices.Equal(a, b) {
			t.Fatalf("%v: components %v, turned %v", sample, a, b)
		}
	}
}
