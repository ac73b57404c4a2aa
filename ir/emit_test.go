package ir_test

import (
	"math"
	"reflect"
	"testing"

	"jacquard/api"
	"jacquard/ir"
)

// given is an instruction whose fields are all something, and whose Args have spare capacity.
func given(op int) api.Inst {
	return roomy(api.Inst{Op: op, Dest: 5, Args: []int{7, -3, 7, 1 << 40}, Num: 300, Mem: -9})
}

// checkEmit appends an instruction to a copy of a function, and reports what is not right.
func checkEmit(t *testing.T, f api.Func, b, op, width int) {
	t.Helper()
	g, in := tidy(f), given(op)
	got := ir.Emit(&g, b, in, width)
	want := tidy(f)
	dest := -1
	if b >= 0 && b < len(f.Blocks) {
		if op != api.OpStore && op != api.OpSend {
			dest = len(want.Widths)
			want.Widths = append(want.Widths, width)
		}
		next := given(op)
		next.Dest = dest
		want.Blocks[b].Insts = append(want.Blocks[b].Insts, next)
	}
	if got != dest || !equal(g, want) {
		t.Fatalf("Emit(%s, %d, %v, %d) = %d, and the function is %s", shown(f), b, in, width, got, shown(g))
	}
	if !reflect.DeepEqual(whole(in), whole(given(op))) {
		t.Fatalf("the instruction has become %v", in)
	}
	checkNew(t, g, in)
}

// P8.1: all operators, and other numbers, in all blocks, and where there is none.
func TestEmit(t *testing.T) {
	f := every()
	for _, op := range operators() {
		for _, b := range []int{math.MinInt, -2, -1, 0, 1, 2, 3, 4, 5, 6, 1 << 32, math.MaxInt} {
			for _, width := range []int{1, 8, 64} {
				checkEmit(t, f, b, op, width)
			}
		}
	}
}

// P8.1: nothing else is checked.
func TestEmitAnything(t *testing.T) {
	for _, width := range []int{math.MinInt, -1, 0, 65, math.MaxInt} {
		checkEmit(t, every(), 1, api.OpAdd, width)
		checkEmit(t, every(), 1, api.OpStore, width)
	}
	for r := range samples(11, 200) {
		f := nonsense(r)
		for b := -1; b <= len(f.Blocks); b++ {
			checkEmit(t, f, b, api.OpConst+r.IntN(30), r.IntN(70))
		}
	}
	checkEmit(t, api.Func{}, 0, api.OpAdd, 8)
	if got := ir.Emit(nil, 0, given(api.OpAdd), 8); got != -1 {
		t.Errorf("Emit(nil) = %d", got)
	}
}

// P8.1: where there is no such block, nothing changes, also not behind the ends of lists.
func TestEmitNowhere(t *testing.T) {
	for _, b := range []int{-1, 5, math.MaxInt} {
		f := roomy(every())
		before := whole(f)
		if got := ir.Emit(&f, b, given(api.OpAdd), 8); got != -1 || !reflect.DeepEqual(whole(f), before) {
			t.Errorf("Emit to block %d: %d, %s", b, got, shown(f))
		}
	}
}

// P8.1: a function that is made by Emit alone.
func TestEmitBuilds(t *testing.T) {
	f := api.Func{Name: "f", Widths: []int{8, 8}, Rets: []int{8}, Blocks: []api.Block{{Params: []int{0, 1}}}, Arrays: []api.Array{{Name: "a", Width: 8, Len: 9}}}
	args := make([]int, 3)
	x := ir.Emit(&f, 0, api.Inst{Op: api.OpConst, Num: 1}, 1)
	args[0], args[1] = 0, 1
	y := ir.Emit(&f, 0, api.Inst{Op: api.OpAdd, Args: args[:2]}, 8)
	args[0], args[1], args[2] = 0, y, x
	z := ir.Emit(&f, 0, api.Inst{Op: api.OpStore, Args: args}, 8)
	args[0], args[1], args[2] = 1, x, 99
	v := ir.Emit(&f, 0, api.Inst{Op: api.OpLoad, Args: args[:2]}, 8)
	f.Blocks[0].Term = ret(v)
	want := []api.Inst{
		{Op: api.OpConst, Dest: 2, Num: 1}, {Op: api.OpAdd, Dest: 3, Args: []int{0, 1}},
		{Op: api.OpStore, Dest: -1, Args: []int{0, 3, 2}}, {Op: api.OpLoad, Dest: 4, Args: []int{1, 2}},
	}
	if x != 2 || y != 3 || z != -1 || v != 4 || !equal(f.Widths, []int{8, 8, 1, 8, 8}) || !equal(f.Blocks[0].Insts, want) {
		t.Errorf("%d, %d, %d, %d: %s", x, y, z, v, shown(f))
	}
	checkValid(t, f, true, "what Emit has made")
}

// P8.1: functions that grow from clones of the same one have nothing in common.
func TestEmitToClones(t *testing.T) {
	f := roomy(every())
	g, h := ir.Clone(f), ir.Clone(f)
	for b := range f.Blocks {
		for range 5 {
			ir.Emit(&g, b, given(api.OpAdd), 3)
			ir.Emit(&h, b, given(api.OpXor), 5)
		}
	}
	if !equal(f, every()) {
		t.Errorf("the original is %s", shown(f))
	}
	for b := range f.Blocks {
		n := len(f.Blocks[b].Insts)
		for i := range 5 {
			x, y := g.Blocks[b].Insts[n+i], h.Blocks[b].Insts[n+i]
			if x.Op != api.OpAdd || y.Op != api.OpXor || g.Widths[x.Dest] != 3 || h.Widths[y.Dest] != 5 {
				t.Fatalf("instruction %d of block %d: %v and %v", n+i, b, x, y)
			}
		}
	}
	checkNew(t, g, h, f)
}
