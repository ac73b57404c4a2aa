package ir

import (
	"slices"

	"jacquard/api"
	"jacquard/bits"
)

// greatestLine is the greatest line of a loop.
const greatestLine = 1<<31 - 1

// Valid reports whether a function is well formed.
func Valid(f api.Func) bool {
	if !countsFit(f) || !namesFit(f) || !widthsFit(f) || !every(f.Arrays, isDivided) {
		return false
	}
	c := checker{Func: f, homes: slices.Repeat([]int{none}, len(f.Widths))}
	for b := range f.Blocks {
		c.block = b
		if !c.blockFits(f.Blocks[b]) {
			return false
		}
	}
	return true
}

func every[E any](list []E, fits func(e E) bool) bool {
	return !slices.ContainsFunc(list, func(e E) bool { return !fits(e) })
}

func within(n, least, greatest int) bool { return least <= n && n <= greatest }

func countsFit(f api.Func) bool {
	return len(f.Widths) <= api.MaxValues && len(f.Arrays) <= api.MaxMems && len(f.Streams) <= api.MaxMems && len(f.Rets) <= api.MaxMems &&
		within(len(f.Blocks), 1, api.MaxBlocks) &&
		every(f.Blocks, func(b api.Block) bool { return len(b.Insts) <= api.MaxInsts })
}

func namesFit(f api.Func) bool {
	seen := map[string]bool{}
	isNew := func(name string) bool {
		known := seen[name]
		seen[name] = true
		return !known && isIdentifier(name)
	}
	// An array or a stream may have the name of the function, but not that of another one.
	return isIdentifier(f.Name) &&
		every(f.Arrays, func(a api.Array) bool { return isNew(a.Name) }) &&
		every(f.Streams, func(s api.Stream) bool { return isNew(s.Name) })
}

func isIdentifier(name string) bool {
	if !within(len(name), 1, api.MaxName) || isDigit(name[0]) {
		return false
	}
	for i := range len(name) {
		if !isLetter(name[i]) && !isDigit(name[i]) && name[i] != '_' {
			return false
		}
	}
	return true
}

func isLetter(c byte) bool { return c >= 'A' && c <= 'Z' || c >= 'a' && c <= 'z' }

func isDigit(c byte) bool { return c >= '0' && c <= '9' }

func isWidth(w int) bool { return within(w, 1, api.MaxWidth) }

func widthsFit(f api.Func) bool {
	return every(f.Widths, isWidth) && every(f.Rets, isWidth) &&
		every(f.Arrays, func(a api.Array) bool { return isWidth(a.Width) }) &&
		every(f.Streams, func(s api.Stream) bool { return isWidth(s.Width) })
}

// isDivided reports whether an array has a length, and a partition that fits it.
func isDivided(a api.Array) bool {
	if !within(a.Len, 1, api.MaxLen) {
		return false
	}
	switch a.Kind {
	case api.Whole:
		return a.Factor == 0
	case api.Cyclic, api.Blocks:
		return within(a.Factor, 1, min(a.Len, api.MaxBanks))
	case api.Complete:
		return a.Factor == 0 && a.Len <= api.MaxBanks
	}
	return false
}

// checker goes through the blocks of a function whose lists other than Blocks are as they should be.
type checker struct {
	api.Func
	block int   // the block that is being read
	homes []int // for each value the block that defines it, none if no definition has been read
}

func (c *checker) blockFits(b api.Block) bool {
	return within(b.Pipeline, 0, api.MaxII) && within(b.Unroll, 0, api.MaxUnroll) && within(b.Line, 0, greatestLine) &&
		every(b.Params, c.define) && every(b.Insts, c.instFits) && c.termFits(b.Term)
}

func (c *checker) isValue(v int) bool { return within(v, 0, len(c.homes)-1) }

// define notes that the block defines a value. It returns false if there is no such value, or it has a definition already.
func (c *checker) define(v int) bool {
	if !c.isValue(v) || c.homes[v] != none {
		return false
	}
	c.homes[v] = c.block
	return true
}

// width returns the width of a value that can be used at this place of the block, 0 for all other numbers.
func (c *checker) width(v int) int {
	if !c.isValue(v) || c.homes[v] != c.block {
		return 0
	}
	return c.Widths[v]
}

func (c *checker) instFits(in api.Inst) bool {
	// Other operators have the arity -1.
	if len(in.Args) != Arity(in.Op) {
		return false
	}
	var args [3]int
	for i, v := range in.Args {
		args[i] = c.width(v)
		if args[i] == 0 {
			return false
		}
	}
	if in.Num != 0 && in.Op != api.OpConst || in.Mem != 0 && Pure(in.Op) {
		return false
	}
	if !hasResult(in.Op) {
		return in.Dest == none && c.effectFits(in, args)
	}
	// The result is defined behind its operands, so that it is none of them.
	return c.define(in.Dest) && c.resultFits(in, args, c.Widths[in.Dest])
}

// resultFits reports whether an instruction with operands of some widths can have a result of the width w.
func (c *checker) resultFits(in api.Inst, args [3]int, w int) bool {
	switch in.Op {
	case api.OpConst:
		return bits.Fit(w, in.Num) == in.Num
	case api.OpSelect:
		return args == [3]int{1, w, w}
	case api.OpZExt, api.OpSExt:
		return args[0] < w
	case api.OpTrunc:
		return args[0] > w
	case api.OpLoad:
		return c.arrayWidth(in.Mem) == w && args[1] == 1
	case api.OpRecv:
		return c.streamWidth(in.Mem, false) == w && args[0] == 1
	}
	if bits.IsCompare(in.Op) {
		return args[0] == args[1] && w == 1
	}
	return args[0] == w && args[1] == w
}

// effectFits reports whether a store or a send with operands of some widths fits its array or stream.
func (c *checker) effectFits(in api.Inst, args [3]int) bool {
	if in.Op == api.OpStore {
		return c.arrayWidth(in.Mem) == args[1] && args[2] == 1
	}
	return c.streamWidth(in.Mem, true) == args[0] && args[1] == 1
}

// arrayWidth returns the width of an array, 0 if it does not exist.
func (c *checker) arrayWidth(mem int) int {
	if !within(mem, 0, len(c.Arrays)-1) {
		return 0
	}
	return c.Arrays[mem].Width
}

// streamWidth returns the width of a stream, 0 if it does not exist or has the other direction.
func (c *checker) streamWidth(mem int, out bool) int {
	if !within(mem, 0, len(c.Streams)-1) || c.Streams[mem].Out != out {
		return 0
	}
	return c.Streams[mem].Width
}

func (c *checker) termFits(t api.Term) bool {
	switch t.Kind {
	case api.Jump:
		return t.Cond == none && len(t.To) == 1 && len(t.Rets) == 0 && every(t.To, c.edgeFits)
	case api.Branch:
		return c.width(t.Cond) == 1 && len(t.To) == 2 && len(t.Rets) == 0 && every(t.To, c.edgeFits)
	case api.Return:
		return t.Cond == none && len(t.To) == 0 && slices.EqualFunc(t.Rets, c.Rets, c.hasWidth)
	}
	return false
}

// hasWidth reports whether a value can be used here, and has a width.
func (c *checker) hasWidth(v, width int) bool { return c.width(v) == width }

// passes reports whether a value can be used here, and has the width of a parameter, which may not have been read.
func (c *checker) passes(v, param int) bool {
	return c.isValue(param) && c.hasWidth(v, c.Widths[param])
}

func (c *checker) edgeFits(e api.Edge) bool {
	return within(e.Block, 1, len(c.Blocks)-1) && slices.EqualFunc(e.Args, c.Blocks[e.Block].Params, c.passes)
}
