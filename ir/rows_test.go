package ir_test

import (
	"fmt"
	"strings"
	"testing"

	"jacquard/api"
	"jacquard/ir"
)

// few are widths of operands and results.
var few = []int{1, 2, 8, 64}

// with returns a function with one block whose parameters have some widths, and an instruction of which they are the operands; its result has the value behind them if it has a width.
func with(in api.Inst, params []int, width int) api.Func {
	m := &maker{f: api.Func{Name: "f"}}
	in.Args = m.block(params...)
	m.add(width, in)
	m.last().Term = ret()
	for i, w := range few {
		m.f.Arrays = append(m.f.Arrays, api.Array{Name: fmt.Sprint("a", i), Width: w, Len: 1})
		m.f.Streams = append(m.f.Streams, api.Stream{Name: fmt.Sprint("p", i), Width: w}, api.Stream{Name: fmt.Sprint("q", i), Width: w, Out: true})
	}
	return m.f
}

// choices calls a function for all lists of a length of few widths.
func choices(length int, visit func(list []int)) {
	var fill func(list []int)
	fill = func(list []int) {
		if len(list) == length {
			visit(list)
			return
		}
		for _, w := range few {
			fill(append(list[:len(list):len(list)], w))
		}
	}
	fill(nil)
}

// mems are indices of arrays and streams that tell the operators that need one from the others.
func mems(op int) []int {
	if op < api.OpLoad {
		return []int{-1, 0, 1}
	}
	return []int{-1, 0, 1, 2, 3, 4, 5, 6, 7, 8, 9}
}

// P8.1, condition 5: all operators with up to four operands of all widths, results of all widths, and without one.
func TestValidOperators(t *testing.T) {
	valid := map[int]int{}
	for _, op := range operators() {
		for count := range 5 {
			choices(count, func(list []int) {
				for _, w := range append([]int{0}, few...) {
					for _, mem := range mems(op) {
						f := with(api.Inst{Op: op, Mem: mem}, list, w)
						got, want := ir.Valid(f), wellFormed(f)
						if got != want {
							t.Fatalf("operator %d, operands %v, result %d, mem %d: %v", op, list, w, mem, got)
						}
						if want {
							valid[op]++
						}
					}
				}
			})
		}
	}
	// As many as the chapter's table has for four widths.
	for op := api.OpConst; op <= api.OpSend; op++ {
		want := 4
		switch op {
		case api.OpZExt, api.OpSExt, api.OpTrunc:
			want = 3 + 2 + 1
		case api.OpLoad, api.OpStore:
			want = 4 * 4
		}
		if valid[op] != want {
			t.Errorf("operator %d: %d valid functions, not %d", op, valid[op], want)
		}
	}
	if len(valid) != 28 {
		t.Errorf("%v", valid)
	}
}

// P8.1, condition 5: Num and Mem.
func TestValidNumAndMem(t *testing.T) {
	params := map[string][]int{"w w": {8, 8}, "a a": {8, 8}, "1 w w": {1, 8, 8}, "<": {7}, ">": {9}, "* 1": {3, 1}, "* m 1": {3, 8, 1}, "1": {1}, "m 1": {8, 1}, "": nil}
	for op, row := range rows {
		operands := params[strings.Join(row.args, " ")]
		width := map[string]int{"w": 8, "1": 1, "m": 8, "-": 0}[row.result]
		mem := map[int]int{api.OpLoad: 2, api.OpStore: 2, api.OpRecv: 4, api.OpSend: 5}[op]
		in := api.Inst{Op: op, Mem: mem}
		checkValid(t, with(in, operands, width), true, in)
		for _, num := range []uint64{1, 255, 256, 1 << 63, 1<<64 - 1} {
			in.Num = num
			checkValid(t, with(in, operands, width), op == api.OpConst && num <= 255, in)
		}
		in.Num = 0
		for other := -2; other < 13; other++ {
			in.Mem = other
			checkValid(t, with(in, operands, width), other == mem, in)
		}
	}
}

// P8.1, condition 5: constants of all widths.
func TestValidConstants(t *testing.T) {
	for w := 1; w <= 64; w++ {
		greatest := ^uint64(0) >> (64 - w)
		for _, num := range []uint64{0, 1, greatest, greatest / 2} {
			checkValid(t, with(api.Inst{Op: api.OpConst, Num: num}, nil, w), true, num)
		}
		if w < 64 {
			for _, num := range []uint64{greatest + 1, greatest + 2, 1 << 63, 1<<64 - 1} {
				checkValid(t, with(api.Inst{Op: api.OpConst, Num: num}, nil, w), false, num)
			}
		}
	}
}

// P8.1, condition 5: results.
func TestValidResults(t *testing.T) {
	for i, c := range []struct {
		in     api.Inst
		params []int
		width  int
	}{
		{api.Inst{Op: api.OpConst}, nil, 8},
		{api.Inst{Op: api.OpSub}, []int{8, 8}, 8},
		{api.Inst{Op: api.OpLoad, Mem: 2}, []int{8, 1}, 8},
		{api.Inst{Op: api.OpStore, Mem: 2}, []int{8, 8, 1}, 0},
		{api.Inst{Op: api.OpRecv, Mem: 4}, []int{1}, 8},
		{api.Inst{Op: api.OpSend, Mem: 5}, []int{8, 1}, 0},
	} {
		for dest := -3; dest < 9; dest++ {
			f := with(c.in, c.params, c.width)
			f.Widths = append(f.Widths, 8)
			f.Blocks[0].Insts[0].Dest = dest
			// The value behind the result is free, too.
			want := dest == len(c.params) || dest == len(c.params)+1
			if c.width == 0 {
				want = dest == -1
			} else if dest == len(f.Widths) {
				want = false
			}
			checkValid(t, f, want, fmt.Sprint("case ", i, ", Dest ", dest))
		}
	}
}
