package ir

import "jacquard/api"

// Renumber returns the function without unreachable blocks, with blocks and values in canonical order.
func Renumber(f api.Func) api.Func {
	if !Valid(f) {
		return api.Func{}
	}
	blocks := make([]int, len(f.Blocks)) // the new number of each block
	values := make([]int, len(f.Widths)) // the new number of each value
	canonical := api.Func{Name: f.Name, Arrays: f.Arrays, Streams: f.Streams, Rets: f.Rets}
	define := func(v int) {
		values[v] = len(canonical.Widths)
		canonical.Widths = append(canonical.Widths, f.Widths[v])
	}
	for number, b := range search(f) {
		blocks[b] = number
		canonical.Blocks = append(canonical.Blocks, f.Blocks[b])
		for _, v := range f.Blocks[b].Params {
			define(v)
		}
		for _, in := range f.Blocks[b].Insts {
			if in.Dest != none {
				define(in.Dest)
			}
		}
	}
	value := func(v int) int {
		if v == none {
			return none
		}
		return values[v]
	}
	block := func(b int) int { return blocks[b] }
	return copier{value: value, block: block}.function(canonical)
}
