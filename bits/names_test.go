package bits_test

import (
	"math"
	"strings"
	"testing"

	"jacquard/api"
	"jacquard/bits"
)

const names = "const add sub mul udiv urem sdiv srem and or xor shl lshr ashr eq ne ult ule slt sle select zext sext trunc load store recv send"

// P1.1
func TestNames(t *testing.T) {
	list := strings.Fields(names)
	if len(list) != api.OpSend {
		t.Fatalf("%d names", len(list))
	}
	for i, name := range list {
		op := api.OpConst + i
		if got := bits.Name(op); got != name {
			t.Errorf("Name(%d) = %q, not %q", op, got, name)
		}
		if got := bits.Find(name); got != op {
			t.Errorf("Find(%q) = %d, not %d", name, got, op)
		}
	}
}

// P1.1
func TestNoNames(t *testing.T) {
	for _, op := range []int{math.MinInt, -api.OpAdd, -1, 0, api.OpSend + 1, 256 + api.OpAdd, math.MaxInt} {
		if got := bits.Name(op); got != "" {
			t.Errorf("Name(%d) = %q", op, got)
		}
	}
	for _, name := range []string{"", " ", "Add", "ADD", "add ", " add", "ad", "addd", "add\x00", "frob", "\xff", names} {
		if got := bits.Find(name); got != 0 {
			t.Errorf("Find(%q) = %d", name, got)
		}
	}
}
