package ir

import (
	"strings"

	"jacquard/api"
)

// copier copies functions to new memory. Its functions return the new number of each value and of each block.
type copier struct{ value, block func(n int) int }

// changed returns a new list of what change makes of the elements of a list.
func changed[E any](list []E, change func(e E) E) []E {
	var result []E
	for _, e := range list {
		result = append(result, change(e))
	}
	return result
}

func keep(n int) int { return n }

// Clone returns a copy in new memory.
func Clone(f api.Func) api.Func { return copier{value: keep, block: keep}.function(f) }

// function copies a function. The order of its Widths and Blocks stays: whoever gives new numbers has to put them in their new order first.
func (c copier) function(f api.Func) api.Func {
	return api.Func{
		Name:    strings.Clone(f.Name),
		Widths:  changed(f.Widths, keep),
		Arrays:  changed(f.Arrays, copyArray),
		Streams: changed(f.Streams, copyStream),
		Rets:    changed(f.Rets, keep),
		Blocks:  changed(f.Blocks, c.copyBlock),
	}
}

func copyArray(a api.Array) api.Array {
	a.Name = strings.Clone(a.Name)
	return a
}

func copyStream(s api.Stream) api.Stream {
	s.Name = strings.Clone(s.Name)
	return s
}

func (c copier) copyBlock(b api.Block) api.Block {
	b.Params = changed(b.Params, c.value)
	b.Insts = changed(b.Insts, c.copyInst)
	b.Term = c.copyTerm(b.Term)
	return b
}

func (c copier) copyInst(in api.Inst) api.Inst {
	in.Dest = c.value(in.Dest)
	in.Args = changed(in.Args, c.value)
	return in
}

func (c copier) copyTerm(t api.Term) api.Term {
	t.Cond = c.value(t.Cond)
	t.To = changed(t.To, c.copyEdge)
	t.Rets = changed(t.Rets, c.value)
	return t
}

func (c copier) copyEdge(e api.Edge) api.Edge {
	return api.Edge{Block: c.block(e.Block), Args: changed(e.Args, c.value)}
}
