package ir_test

import (
	"math"
	"math/rand/v2"
	"reflect"
	"testing"

	"jacquard/api"
	"jacquard/ir"
)

// results calls all functions but Emit.
func results(f, g api.Func, n int) []any {
	index, loops := ir.SelfLoop(f, n)
	b, i, defined := ir.Def(f, n)
	return []any{
		ir.Clone(f), ir.Renumber(f), ir.Succs(f, n), ir.Preds(f), ir.Reachable(f), ir.Valid(f), ir.Same(f, g), index, loops, b, i, defined, ir.Size(f), ir.Arity(n), ir.Pure(n),
	}
}

// P8.3, R2 and R3: arguments stay as they are, with their spare capacity, results are new, and calls leave nothing behind.
func TestArgumentsStay(t *testing.T) {
	for r, sample := range samples(14, 300) {
		for _, f := range []api.Func{roomy(sample), roomy(nonsense(r))} {
			g := roomy(sample)
			before, other := whole(f), whole(g)
			n := r.IntN(8) - 1
			first := results(f, g, n)
			second := results(f, g, n)
			if !reflect.DeepEqual(first, second) {
				t.Fatalf("%s, %d: %v, then %v", shown(f), n, first, second)
			}
			for i, result := range first {
				checkNew(t, result, f, g, second[i])
				value := reflect.New(reflect.TypeOf(result)).Elem()
				value.Set(reflect.ValueOf(result))
				spoil(value)
			}
			if !reflect.DeepEqual(whole(f), before) || !reflect.DeepEqual(whole(g), other) {
				t.Fatalf("%s has become %s, or %s has become %s", shown(before), shown(f), shown(other), shown(g))
			}
			if third := results(f, g, n); !reflect.DeepEqual(second, third) {
				t.Fatalf("%s, %d: %v, then %v", shown(f), n, second, third)
			}
		}
	}
}

// R1: functions that are not well formed.
func TestNoPanic(t *testing.T) {
	r := rand.New(rand.NewPCG(8, 15))
	list := []api.Func{
		{}, {Blocks: []api.Block{{}}}, {Name: "f", Blocks: []api.Block{{Term: jump(edge(0))}}},
		{Name: "f", Blocks: []api.Block{{Params: []int{-1, 5, math.MaxInt, math.MinInt}, Term: branch(0, edge(-1), edge(7, 3))}, {}}},
		{Name: "f", Widths: []int{1}, Blocks: []api.Block{{Term: api.Term{Kind: api.Branch, To: []api.Edge{{}, {}, {}, {Block: 0}}}}}},
		{Name: "f", Widths: []int{8}, Blocks: []api.Block{{Term: jump(edge(1, 0))}, {Params: []int{math.MinInt}, Term: ret()}}},
		{Name: "f", Widths: []int{8}, Blocks: []api.Block{{Params: []int{0}, Term: jump(edge(1, 0))}, {Params: []int{1}, Term: ret()}}},
		{Name: "f", Widths: []int{8}, Blocks: []api.Block{{Params: []int{0}, Term: jump(edge(1, 0))}, {Params: []int{-1}, Term: ret()}}},
	}
	for op := -2; op <= api.OpSend+2; op++ {
		for count := range 5 {
			list = append(list, api.Func{Name: "f", Widths: []int{1}, Blocks: []api.Block{{Params: []int{0}, Insts: []api.Inst{{Op: op, Dest: 1 - count, Args: make([]int, count)}}}}})
		}
	}
	for range 5000 {
		list = append(list, nonsense(r))
	}
	for _, f := range list {
		for _, n := range []int{math.MinInt, -1, 0, 1, 2, len(f.Blocks), math.MaxInt} {
			results(f, list[r.IntN(len(list))], n)
		}
		g := ir.Clone(f)
		ir.Emit(&g, r.IntN(9)-2, api.Inst{Op: r.IntN(40) - 3}, r.IntN(80)-5)
	}
	// Many more blocks than a function may have, in a row.
	results(chain(1<<18), api.Func{}, 1<<18-1)
}
