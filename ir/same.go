package ir

import (
	"slices"

	"jacquard/api"
)

// Same reports whether two functions are equal.
func Same(f, g api.Func) bool {
	return f.Name == g.Name &&
		slices.Equal(f.Widths, g.Widths) &&
		slices.Equal(f.Arrays, g.Arrays) &&
		slices.Equal(f.Streams, g.Streams) &&
		slices.Equal(f.Rets, g.Rets) &&
		slices.EqualFunc(f.Blocks, g.Blocks, sameBlock)
}

func sameBlock(a, b api.Block) bool {
	return a.Pipeline == b.Pipeline && a.Unroll == b.Unroll && a.Line == b.Line &&
		slices.Equal(a.Params, b.Params) &&
		slices.EqualFunc(a.Insts, b.Insts, sameInst) &&
		sameTerm(a.Term, b.Term)
}

func sameInst(a, b api.Inst) bool {
	return a.Op == b.Op && a.Dest == b.Dest && a.Num == b.Num && a.Mem == b.Mem && slices.Equal(a.Args, b.Args)
}

func sameTerm(a, b api.Term) bool {
	return a.Kind == b.Kind && a.Cond == b.Cond &&
		slices.EqualFunc(a.To, b.To, sameEdge) &&
		slices.Equal(a.Rets, b.Rets)
}

func sameEdge(a, b api.Edge) bool { return a.Block == b.Block && slices.Equal(a.Args, b.Args) }
