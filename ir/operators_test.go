package ir_test

import (
	"math"
	"testing"

	"jacquard/api"
	"jacquard/bits"
	"jacquard/ir"
)

// operators are all operators, and other numbers.
func operators() []int {
	list := []int{math.MinInt, math.MaxInt, 1 << 32, 1<<32 + api.OpAdd, -api.OpAdd, 100}
	for op := -3; op <= api.OpSend+3; op++ {
		list = append(list, op)
	}
	return list
}

// P8.1
func TestArity(t *testing.T) {
	known := 0
	for _, op := range operators() {
		want := -1
		if row, ok := rows[op]; ok {
			known++
			want = len(row.args)
		}
		if got := ir.Arity(op); got != want {
			t.Errorf("Arity(%d) = %d, not %d", op, got, want)
		}
	}
	if known != 28 {
		t.Errorf("%d operators", known)
	}
	for op, want := range map[int]int{api.OpConst: 0, api.OpAdd: 2, api.OpSLe: 2, api.OpSelect: 3, api.OpTrunc: 1, api.OpLoad: 2, api.OpStore: 3, api.OpRecv: 1, api.OpSend: 2, 0: -1, 29: -1, -1: -1} {
		if got := ir.Arity(op); got != want {
			t.Errorf("Arity(%d) = %d, not %d", op, got, want)
		}
	}
}

// P8.1
func TestPure(t *testing.T) {
	pure := 0
	for _, op := range operators() {
		name := bits.Name(op)
		want := name != "" && name != "load" && name != "store" && name != "recv" && name != "send"
		if got := ir.Pure(op); got != want {
			t.Errorf("Pure(%d) = %v", op, got)
		}
		if want {
			pure++
		}
	}
	if pure != 24 {
		t.Errorf("%d pure operators", pure)
	}
}
