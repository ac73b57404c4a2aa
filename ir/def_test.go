package ir_test

import (
	"math"
	"testing"

	"jacquard/api"
	"jacquard/ir"
)

// checkDef reports a value for which Def does not return where the oracle has found its definition.
func checkDef(t *testing.T, f api.Func, v int, defs map[int][]place) {
	t.Helper()
	b, i, ok := ir.Def(f, v)
	switch {
	case len(defs[v]) == 0:
		if b != 0 || i != 0 || ok {
			t.Fatalf("Def(%s, %d) = %d, %d, %v", shown(f), v, b, i, ok)
		}
	case !ok || b != defs[v][0].block:
		t.Fatalf("Def(%s, %d) = %d, %d, %v, not %v", shown(f), v, b, i, ok, defs[v])
	case i < 0:
		params := f.Blocks[b].Params
		if -1-i >= len(params) || params[-1-i] != v {
			t.Fatalf("Def(%s, %d) = %d, %d", shown(f), v, b, i)
		}
	case i != defs[v][0].index:
		t.Fatalf("Def(%s, %d) = %d, %d, not %v", shown(f), v, b, i, defs[v])
	}
}

// P8.1: values that are defined, values that are not, and numbers that are no values.
func TestDef(t *testing.T) {
	undefined := 0
	for _, f := range samples(9, 300) {
		x := reader{f: f, defs: map[int][]place{}}
		x.definitions()
		for _, v := range []int{math.MinInt, -1000, -3, -2, -1, len(f.Widths), len(f.Widths) + 1, 1 << 32, math.MaxInt} {
			checkDef(t, f, v, nil)
		}
		for v := range f.Widths {
			checkDef(t, f, v, x.defs)
			if len(x.defs[v]) == 0 {
				undefined++
			}
		}
	}
	if undefined < 100 {
		t.Errorf("only %d undefined values", undefined)
	}
}

// P8.1: by hand.
func TestDefExamples(t *testing.T) {
	f := three().f
	for _, c := range []struct {
		v, b, i int
		ok      bool
	}{
		{0, 0, -1, true}, {1, 0, -2, true}, {2, 0, 0, true}, {3, 0, 1, true}, {4, 0, 0, false}, {5, 0, 0, false},
		{6, 1, -1, true}, {7, 1, -2, true}, {8, 1, 0, true}, {9, 1, 1, true}, {13, 2, -2, true}, {15, 2, 1, true}, {17, 0, 0, false}, {18, 0, 0, false}, {-1, 0, 0, false},
	} {
		if b, i, ok := ir.Def(f, c.v); b != c.b || i != c.i || ok != c.ok {
			t.Errorf("Def(%d) = %d, %d, %v", c.v, b, i, ok)
		}
	}
	// A store and a send have the Dest -1, and define nothing.
	f = every()
	for _, v := range []int{-1, -2} {
		if b, i, ok := ir.Def(f, v); b != 0 || i != 0 || ok {
			t.Errorf("Def(%d) = %d, %d, %v", v, b, i, ok)
		}
	}
}

// P8.1
func TestSize(t *testing.T) {
	for _, f := range samples(10, 300) {
		want := 0
		for _, b := range f.Blocks {
			for range b.Insts {
				want++
			}
		}
		if got := ir.Size(f); got != want {
			t.Fatalf("Size(%s) = %d", shown(f), got)
		}
	}
	if a, b, c := ir.Size(api.Func{}), ir.Size(simple()), ir.Size(three().f); a != 0 || b != 1 || c != 6 {
		t.Errorf("%d, %d, %d instructions", a, b, c)
	}
}
