package ir_test

import (
	"slices"
	"testing"

	"jacquard/api"
	"jacquard/ir"
)

// reached returns the blocks in the order of a depth-first search, with a list of the blocks that wait for their turn.
func reached(f api.Func) []int {
	var order []int
	waiting := []int{0}
	for len(waiting) > 0 {
		b := waiting[len(waiting)-1]
		waiting = waiting[:len(waiting)-1]
		if slices.Contains(order, b) {
			continue
		}
		order = append(order, b)
		for _, e := range slices.Backward(f.Blocks[b].Term.To) {
			waiting = append(waiting, e.Block)
		}
	}
	return order
}

// canonical returns what Renumber has to return for a well-formed function.
func canonical(f api.Func) api.Func {
	g := tidy(f)
	g.Widths, g.Blocks = nil, nil
	order := reached(f)
	values := map[int]int{-1: -1}
	define := func(v int) {
		if v != -1 {
			values[v] = len(g.Widths)
			g.Widths = append(g.Widths, f.Widths[v])
		}
	}
	for _, b := range order {
		g.Blocks = append(g.Blocks, tidy(f.Blocks[b]))
		for _, v := range f.Blocks[b].Params {
			define(v)
		}
		for _, in := range f.Blocks[b].Insts {
			define(in.Dest)
		}
	}
	for b := range g.Blocks {
		g.Blocks[b] = renamed(g.Blocks[b], func(b int) int { return slices.Index(order, b) }, func(v int) int { return values[v] })
	}
	return g
}

// checkRenumber reports a well-formed function for which Renumber does not return what it has to.
func checkRenumber(t *testing.T, f api.Func) api.Func {
	t.Helper()
	g := ir.Renumber(f)
	if want := canonical(f); !equal(g, want) {
		t.Fatalf("Renumber of %s is\n%s, not\n%s", shown(f), shown(g), shown(want))
	}
	if !ir.Valid(g) || !wellFormed(g) {
		t.Fatalf("Renumber of %s is %s, which is not well formed", shown(f), shown(g))
	}
	if again := ir.Renumber(g); !equal(again, g) || !ir.Same(again, g) {
		t.Fatalf("Renumber of Renumber of %s is %s, not %s", shown(f), shown(again), shown(g))
	}
	return g
}

// P8.1 and P8.2: all graphs of up to four blocks.
func TestRenumberGraphs(t *testing.T) {
	for f := range graphs() {
		checkRenumber(t, f)
	}
}

// P8.1 and P8.2: functions with other numbers have the same form.
func TestRenumberSamples(t *testing.T) {
	smaller, fewer := 0, 0
	for r, f := range samples(12, 1500) {
		g := checkRenumber(t, f)
		for range 3 {
			other := shuffled(r, f)
			if !wellFormed(other) {
				t.Fatalf("%s is not well formed", shown(other))
			}
			if got := checkRenumber(t, other); !ir.Same(got, g) {
				t.Fatalf("Renumber of %s is %s, but of %s it is %s", shown(f), shown(g), shown(other), shown(got))
			}
		}
		if len(g.Blocks) < len(f.Blocks) {
			smaller++
		}
		if len(g.Widths) < len(f.Widths) {
			fewer++
		}
	}
	if smaller < 200 || fewer < 500 {
		t.Errorf("only %d functions with unreachable blocks, %d with undefined values", smaller, fewer)
	}
}

// P8.2: nothing of a renumbered function is undefined or unreachable, and nothing else is lost.
func TestRenumberKeeps(t *testing.T) {
	for _, f := range samples(13, 300) {
		g := ir.Renumber(f)
		if slices.Contains(ir.Reachable(g), false) {
			t.Fatalf("a block of %s is not reached", shown(g))
		}
		for v := range g.Widths {
			if _, _, ok := ir.Def(g, v); !ok {
				t.Fatalf("value %d of %s is not defined", v, shown(g))
			}
		}
		if g.Name != f.Name || !equal(g.Arrays, f.Arrays) || !equal(g.Streams, f.Streams) || !equal(g.Rets, f.Rets) {
			t.Fatalf("%s has become %s", shown(f), shown(g))
		}
		for i, b := range reached(f) {
			x, y := f.Blocks[b], g.Blocks[i]
			if x.Pipeline != y.Pipeline || x.Unroll != y.Unroll || x.Line != y.Line || x.Term.Kind != y.Term.Kind || len(x.Insts) != len(y.Insts) {
				t.Fatalf("block %d of %s has become %+v", b, shown(f), y)
			}
		}
	}
}

// P8.1: by hand.
func TestRenumberExample(t *testing.T) {
	f := api.Func{
		Name:    "f",
		Widths:  []int{8, 8, 7, 1, 8, 1, 8, 8, 1, 3, 8},
		Streams: []api.Stream{{Name: "q", Width: 8, Out: true}},
		Rets:    []int{8},
		Blocks: []api.Block{
			{
				Params: []int{4, 8},
				Insts:  []api.Inst{{Op: api.OpConst, Dest: 3, Num: 1}, {Op: api.OpSend, Dest: -1, Args: []int{4, 3}}, {Op: api.OpMul, Dest: 1, Args: []int{4, 4}}},
				Term:   branch(8, edge(4, 1), edge(2)),
			},
			{Params: []int{10}, Term: jump(edge(3, 10)), Line: 5},
			{Insts: []api.Inst{{Op: api.OpConst, Dest: 6, Num: 200}}, Term: ret(6), Line: 6},
			{Params: []int{7}, Insts: []api.Inst{{Op: api.OpEq, Dest: 5, Args: []int{7, 7}}}, Term: branch(5, edge(3, 7), edge(2)), Pipeline: 2, Line: 7},
			{Params: []int{0}, Term: jump(edge(2)), Line: 8},
		},
	}
	want := api.Func{
		Name:    "f",
		Widths:  []int{8, 1, 1, 8, 8, 8},
		Streams: []api.Stream{{Name: "q", Width: 8, Out: true}},
		Rets:    []int{8},
		Blocks: []api.Block{
			{
				Params: []int{0, 1},
				Insts:  []api.Inst{{Op: api.OpConst, Dest: 2, Num: 1}, {Op: api.OpSend, Dest: -1, Args: []int{0, 2}}, {Op: api.OpMul, Dest: 3, Args: []int{0, 0}}},
				Term:   branch(1, edge(1, 3), edge(2)),
			},
			{Params: []int{4}, Term: jump(edge(2)), Line: 8},
			{Insts: []api.Inst{{Op: api.OpConst, Dest: 5, Num: 200}}, Term: ret(5), Line: 6},
		},
	}
	checkValid(t, f, true, "the example")
	if got := ir.Renumber(f); !equal(got, want) {
		t.Errorf("%s, not %s", shown(got), shown(want))
	}
	if got := ir.Renumber(want); !equal(got, want) {
		t.Errorf("%s, not %s", shown(got), shown(want))
	}
}
