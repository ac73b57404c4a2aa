package ir

import (
	"slices"

	"jacquard/api"
)

// isBlock reports whether f has a block b.
func isBlock(f api.Func, b int) bool { return b >= 0 && b < len(f.Blocks) }

// Succs returns the successors of a block, each once, in ascending order.
func Succs(f api.Func, b int) []int {
	if !isBlock(f, b) {
		return nil
	}
	var list []int
	for _, e := range f.Blocks[b].Term.To {
		if isBlock(f, e.Block) {
			list = append(list, e.Block)
		}
	}
	slices.Sort(list)
	return slices.Compact(list)
}

// Preds returns the predecessors of each block, each once, in ascending order.
func Preds(f api.Func) [][]int {
	lists := make([][]int, len(f.Blocks))
	for b := range f.Blocks {
		for _, s := range Succs(f, b) {
			lists[s] = append(lists[s], b)
		}
	}
	return lists
}

// search returns the blocks that can be reached from block 0, in the order in which a depth-first search comes to them.
func search(f api.Func) []int {
	var order []int
	// A function with more blocks is not well formed; without the bound, the search of a very large one could go too deep.
	seen := make([]bool, min(len(f.Blocks), api.MaxBlocks))
	var visit func(b int)
	visit = func(b int) {
		if b < 0 || b >= len(seen) || seen[b] {
			return
		}
		seen[b] = true
		order = append(order, b)
		for _, e := range f.Blocks[b].Term.To {
			visit(e.Block)
		}
	}
	visit(0)
	return order
}

// Reachable reports for each block whether a path from block 0 leads to it.
func Reachable(f api.Func) []bool {
	reached := make([]bool, len(f.Blocks))
	for _, b := range search(f) {
		reached[b] = true
	}
	return reached
}

// SelfLoop returns the index of the only edge of a branch that leads to its own block, and true.
func SelfLoop(f api.Func, b int) (int, bool) {
	if !isBlock(f, b) || f.Blocks[b].Term.Kind != api.Branch {
		return 0, false
	}
	index, count := 0, 0
	for i, e := range f.Blocks[b].Term.To {
		if e.Block == b {
			index = i
			count++
		}
	}
	if count != 1 {
		return 0, false
	}
	return index, true
}
