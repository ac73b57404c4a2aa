package inline

import (
	"jacquard/api"
	"jacquard/types"
)

// heaviest is what all greater weights count as.
const heaviest = 1000000

// Weight returns the size that the kernel of a typed program has if each call is replaced by the function.
func Weight(n api.Node) int {
	if !types.Typed(n) {
		return 0
	}
	kernel, _ := types.Kernel(n)
	functions := functionsOf(n)
	blocks := map[string]int{}
	for _, name := range order(n) {
		_, block := divided(functions[name])
		blocks[name] = weight(block, blocks)
	}
	return weight(kernel, blocks)
}

// weight returns the weight of a node, given those of the blocks of all functions that it calls.
func weight(n api.Node, blocks map[string]int) int {
	sum := 1
	switch n.Kind {
	case api.NodeCall:
		sum = 2 + blocks[n.Name]
	case api.NodeWhile:
		sum = 2 + weight(n.Kids[0], blocks) // once more than below
	}
	for _, kid := range n.Kids {
		sum += weight(kid, blocks)
	}
	return min(sum, heaviest)
}
