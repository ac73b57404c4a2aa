package graph

import (
	"container/heap"
	"slices"
)

// maxWeight limits the weight of a node, upwards and downwards.
const maxWeight = 1 << 30

// queue is a heap of nodes: its first element is the least one.
type queue []int

func (q queue) Len() int           { return len(q) }
func (q queue) Less(i, j int) bool { return q[i] < q[j] }
func (q queue) Swap(i, j int)      { q[i], q[j] = q[j], q[i] }

// Push is for package heap only.
func (q *queue) Push(v any) { *q = append(*q, v.(int)) }

// Pop is for package heap only.
func (q *queue) Pop() any {
	last := len(*q) - 1
	v := (*q)[last]
	*q = (*q)[:last]
	return v
}

// Topo returns the topological order in which the least node that is possible always comes next; false if the graph has a cycle.
func Topo(g Graph) ([]int, bool) { return sorted(Next(g)) }

func sorted(next [][]int) ([]int, bool) {
	missing := make([]int, len(next)) // how many predecessors are not listed yet
	for _, list := range next {
		for _, w := range list {
			missing[w]++
		}
	}
	ready := &queue{}
	for v, count := range missing {
		if count == 0 {
			heap.Push(ready, v)
		}
	}
	var order []int
	for ready.Len() > 0 {
		v := heap.Pop(ready).(int)
		order = append(order, v)
		for _, w := range next[v] {
			missing[w]--
			if missing[w] == 0 {
				heap.Push(ready, w)
			}
		}
	}
	// The nodes of a cycle, and all behind it, are never ready.
	if len(order) < len(next) {
		return nil, false
	}
	return order, true
}

// weightOf returns the weight of a node, within the limits.
func weightOf(weights []int, v int) int {
	if v >= len(weights) {
		return 0
	}
	return max(-maxWeight, min(weights[v], maxWeight))
}

// farthest returns, for each node, the greatest weight of a path that ends there, and the node before the end of such a path, or none; false if the graph has a cycle.
func farthest(g Graph, weights []int) (longest, before []int, ok bool) {
	next := Next(g)
	order, ok := sorted(next)
	if !ok {
		return nil, nil, false
	}
	// Until a node's turn comes, its element is the greatest weight that can come before it: 0 if the path begins there.
	longest = make([]int, len(next))
	before = slices.Repeat([]int{none}, len(next))
	for _, v := range order {
		longest[v] += weightOf(weights, v)
		for _, w := range next[v] {
			if longest[v] > longest[w] {
				longest[w] = longest[v]
				before[w] = v
			}
		}
	}
	return longest, before, true
}

// Longest returns the greatest weight of a path that ends at each node; false if the graph has a cycle.
func Longest(g Graph, weights []int) ([]int, bool) {
	longest, _, ok := farthest(g, weights)
	return longest, ok
}

// Critical returns a path of the greatest weight, and its weight; false if the graph has a cycle.
func Critical(g Graph, weights []int) (path []int, weight int, ok bool) {
	longest, before, ok := farthest(g, weights)
	if len(longest) == 0 {
		return nil, 0, ok
	}
	weight = slices.Max(longest)
	for v := slices.Index(longest, weight); v != none; v = before[v] {
		path = append(path, v)
	}
	slices.Reverse(path)
	return path, weight, true
}
