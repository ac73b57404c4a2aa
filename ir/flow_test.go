package ir_test

import (
	"math"
	"slices"
	"testing"

	"jacquard/api"
	"jacquard/ir"
)

// pairs returns a table that says from which block an edge leads to which one.
func pairs(f api.Func) [][]bool {
	table := make([][]bool, len(f.Blocks))
	for b, block := range f.Blocks {
		table[b] = make([]bool, len(f.Blocks))
		for _, e := range block.Term.To {
			table[b][e.Block] = true
		}
	}
	return table
}

// closed returns whether a block can be reached from another one, or is it.
func closed(f api.Func) [][]bool {
	table := pairs(f)
	for b := range table {
		table[b][b] = true
	}
	for k := range table {
		for i := range table {
			for j := range table {
				table[i][j] = table[i][j] || table[i][k] && table[k][j]
			}
		}
	}
	return table
}

// checkFlow reports a well-formed function for which Succs, Preds, Reachable or SelfLoop is not right.
func checkFlow(t *testing.T, f api.Func) {
	t.Helper()
	table := pairs(f)
	preds, reached := ir.Preds(f), ir.Reachable(f)
	if len(preds) != len(f.Blocks) || !slices.Equal(reached, closed(f)[0]) {
		t.Fatalf("Preds, Reachable of %s: %v, %v", shown(f), preds, reached)
	}
	for b := range f.Blocks {
		var after, before []int
		for other := range f.Blocks {
			if table[b][other] {
				after = append(after, other)
			}
			if table[other][b] {
				before = append(before, other)
			}
		}
		if got := ir.Succs(f, b); !slices.Equal(got, after) || !slices.Equal(preds[b], before) {
			t.Fatalf("block %d of %s: Succs %v, Preds %v, not %v, %v", b, shown(f), got, preds[b], after, before)
		}
		checkSelfLoop(t, f, b)
	}
	for _, b := range []int{math.MinInt, -2, -1, len(f.Blocks), len(f.Blocks) + 1, 1 << 32, math.MaxInt} {
		index, ok := ir.SelfLoop(f, b)
		if list := ir.Succs(f, b); len(list) > 0 || index != 0 || ok {
			t.Fatalf("block %d of %s: Succs %v, SelfLoop %d, %v", b, shown(f), list, index, ok)
		}
	}
}

func checkSelfLoop(t *testing.T, f api.Func, b int) {
	t.Helper()
	var indices []int
	for i, e := range f.Blocks[b].Term.To {
		if e.Block == b {
			indices = append(indices, i)
		}
	}
	want, loops := 0, f.Blocks[b].Term.Kind == api.Branch && len(indices) == 1
	if loops {
		want = indices[0]
	}
	if got, ok := ir.SelfLoop(f, b); got != want || ok != loops {
		t.Fatalf("SelfLoop(%s, %d) = %d, %v", shown(f), b, got, ok)
	}
}

// P8.1: all graphs of up to four blocks.
func TestFlowOfGraphs(t *testing.T) {
	count := 0
	for f := range graphs() {
		if count%100 == 0 && !ir.Valid(f) {
			t.Fatalf("%s is not valid", shown(f))
		}
		checkFlow(t, f)
		count++
	}
	if count != 1+3*3+7*7*7+13*13*13*13 {
		t.Errorf("%d graphs", count)
	}
}

// P8.1
func TestFlowOfSamples(t *testing.T) {
	for _, f := range samples(8, 500) {
		checkFlow(t, f)
	}
}

// P8.1: by hand.
func TestFlowExamples(t *testing.T) {
	f := every()
	for b, want := range [][]int{{1, 2}, {2}, {2, 3}, nil, {3}} {
		if got := ir.Succs(f, b); !slices.Equal(got, want) {
			t.Errorf("Succs(%d) = %v", b, got)
		}
	}
	want := [][]int{nil, {0}, {0, 1, 2}, {2, 4}, nil}
	if got := ir.Preds(f); !slices.EqualFunc(got, want, slices.Equal) {
		t.Errorf("Preds = %v", got)
	}
	if got := ir.Reachable(f); !slices.Equal(got, []bool{true, true, true, true, false}) {
		t.Errorf("Reachable = %v", got)
	}
	if i, ok := ir.SelfLoop(f, 2); i != 1 || !ok {
		t.Errorf("SelfLoop = %d, %v", i, ok)
	}
	term := &f.Blocks[2].Term
	term.To[0], term.To[1] = term.To[1], term.To[0]
	if i, ok := ir.SelfLoop(f, 2); i != 0 || !ok {
		t.Errorf("SelfLoop = %d, %v with the edges exchanged", i, ok)
	}
	term.To[1] = term.To[0]
	if i, ok := ir.SelfLoop(f, 2); i != 0 || ok {
		t.Errorf("SelfLoop = %d, %v with both edges", i, ok)
	}
	*term = jump(term.To[0])
	if i, ok := ir.SelfLoop(f, 2); i != 0 || ok {
		t.Errorf("SelfLoop = %d, %v of a jump", i, ok)
	}
}

// chain returns a function whose blocks stand in a row: block 0 leads to the last block, and each other one to the one ahead of it, but for block 1, which returns.
func chain(count int) api.Func {
	m := &maker{f: api.Func{Name: "chain"}}
	for b := range count {
		m.block()
		m.last().Term = jump(edge((b - 1 + count) % count))
	}
	m.f.Blocks[1].Term = ret()
	return m.f
}

// P8.1, R1: the deepest searches.
func TestFlowOfChains(t *testing.T) {
	f := chain(api.MaxBlocks)
	if !ir.Valid(f) {
		t.Fatal("a chain is not valid")
	}
	if list := ir.Reachable(f); len(list) != api.MaxBlocks || slices.Contains(list, false) {
		t.Error("a block of a chain is not reached")
	}
	for b, list := range ir.Preds(f) {
		want := []int{(b + 1) % api.MaxBlocks}
		if b == 0 {
			want = nil
		}
		if !slices.Equal(list, want) {
			t.Fatalf("Preds of block %d of a chain: %v", b, list)
		}
	}
	for b, block := range ir.Renumber(f).Blocks {
		if b < api.MaxBlocks-1 && block.Term.To[0].Block != b+1 || b == api.MaxBlocks-1 && block.Term.Kind != api.Return {
			t.Fatalf("block %d: %v", b, block.Term)
		}
	}
}
