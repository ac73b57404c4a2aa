package inline_test

import (
	"fmt"
	"math/big"
	"strings"
	"testing"

	"jacquard/api"
	"jacquard/inline"
)

// scale weighs trees of a program without a limit: one for each node, one more for each Call and each While, and all that counts again.
type scale struct {
	program api.Node
	blocks  map[string]*big.Int
}

func (s scale) weigh(n api.Node) *big.Int {
	sum := new(big.Int)
	one := big.NewInt(1)
	each(n, func(n api.Node) {
		sum.Add(sum, one)
		switch n.Kind {
		case api.NodeCall:
			sum.Add(sum, one).Add(sum, s.block(n.Name))
		case api.NodeWhile:
			sum.Add(sum, one).Add(sum, s.weigh(n.Kids[0]))
		}
	})
	return sum
}

// block returns the weight of a function's block.
func (s scale) block(name string) *big.Int {
	for _, n := range s.program.Kids {
		if n.Kind == api.NodeFunction && n.Name == name && s.blocks[name] == nil {
			s.blocks[name] = s.weigh(n.Kids[len(n.Kids)-1])
		}
	}
	return s.blocks[name]
}

// weighed returns what Weight has to return for a typed program.
func weighed(program api.Node) int {
	_, kernel := kernelOf(program)
	exact := scale{program, map[string]*big.Int{}}.weigh(kernel)
	if most := big.NewInt(1000000); exact.Cmp(most) > 0 {
		exact = most
	}
	return int(exact.Int64())
}

// doubling returns a chain of functions from d0 on, each of which calls the next one twice.
func doubling(count int, arg string) string {
	var s strings.Builder
	for i := range count {
		fmt.Fprintf(&s, "fn d%d(%s: u8) -> u8 { return d%d(d%d(%s)); }\n", i, arg, i+1, i+1, arg)
	}
	fmt.Fprintf(&s, "fn d%d(%s: u8) -> u8 { return %s + 1; }\n", count, arg, arg)
	return s.String()
}

// P7.1: weights that are counted by hand.
func TestWeight(t *testing.T) {
	const f = "fn f(x: u8) -> u8 { return x + 1; }\n" // a block of 5
	const g = "fn g(x: u8) -> u1 { while f(x) < x { } return f(f(x)) == 1; }\n"
	// In g the condition is 1 + (2 + 1 + 5) + 1, the While 2 + 2 * 10 + 1, the Return 1 + 1 + (2 + (2 + 1 + 5) + 5) + 1.
	for _, c := range []struct {
		source string
		want   int
	}{
		{"kernel k() { }", 2},
		{"kernel k(a: u8, b: in u8, c: out u8, d: u8[4]) { }", 6},
		{"kernel k() -> u8 { return 1; }", 4},
		{f + g + "kernel k() { }", 2},
		{f + "kernel k() -> u8 { return f(1); }", 1 + 1 + 1 + 8},
		{f + "kernel k() -> u8 { return f(f(1) + f(2)); }", 1 + 1 + 1 + 2 + (1 + 8 + 8) + 5},
		{f + "kernel k() { for i: u8 in f(1) .. f(2) { } }", 1 + 1 + 1 + 8 + 8 + 1},
		{f + "kernel k() { while true { let x = f(1); } }", 1 + 1 + 2 + 2*1 + 1 + 1 + 8},
		{f + "kernel k() { while f(1) == f(2) { var x: u8; } }", 1 + 1 + 2 + 2*(1+8+8) + 1 + 1},
		{f + g + "kernel k() { if g(1) { } else if g(2) { } }", 1 + 1 + 1 + (2 + 1 + 1 + 23 + 18) + 1 + 1 + (2 + 1 + 1 + 23 + 18) + 1},
		{f + g + "kernel k(x: u1) { while g(1) && x { } }", 1 + 1 + 1 + 2 + 2*(1+2+1+1+23+18+1) + 1},
	} {
		n := mustType(c.source)
		if got := inline.Weight(n); got != c.want || weighed(n) != c.want {
			t.Errorf("Weight(%s) = %d, not %d, %d", c.source, got, c.want, weighed(n))
		}
	}
	for place, table := range statements() {
		for _, s := range table {
			if n := program(s); inline.Weight(n) != weighed(n) {
				t.Errorf("%s: Weight(%s) = %d, not %d", place, s, inline.Weight(n), weighed(n))
			}
		}
	}
}

// P7.1: weights that grow like 2^n, and those of a chain of conditions.
func TestWeightOfChains(t *testing.T) {
	for count := range 70 {
		n := mustType(doubling(count, "x") + "kernel k() -> u8 { return d0(0); }")
		if got, want := inline.Weight(n), weighed(n); got != want || count > 20 && got != 1000000 {
			t.Errorf("%d functions: %d, not %d", count, got, want)
		}
		var s strings.Builder
		for i := range count {
			fmt.Fprintf(&s, "fn f%d() -> u1 { while f%d() { } return 1; }\n", i, i+1)
		}
		fmt.Fprintf(&s, "fn f%d() -> u1 { return 0; }\nkernel k() { while f0() { } }", count)
		n = mustType(s.String())
		if got, want := inline.Weight(n), weighed(n); got != want || count > 20 && got != 1000000 {
			t.Errorf("%d conditions: %d, not %d", count, got, want)
		}
	}
}

// P7.1: weights at 1000000, and above.
func TestGreatestWeights(t *testing.T) {
	f := "fn f() -> u8 { var x: u8; " + strings.Repeat("x = 1; ", 498) + " return 0; }\n" // a block of 1000
	for more, want := range map[string]int{
		"": 999994, "x = x;": 999996, "x = x; x = -x;": 999999, "x = x; x = x; x = x;": 1000000, "x = x; x = x; x = -x;": 1000000, "x = x; x = f();": 1000000,
	} {
		n := mustType(f + "kernel k() { var x: u8; " + strings.Repeat("x = f(); ", 997) + more + " }")
		if got := inline.Weight(n); got != want || weighed(n) != got {
			t.Errorf("with %q: %d, not %d, %d", more, got, want, weighed(n))
		}
	}
	// A function that is called once, and many times, and weighs more than is counted.
	for _, s := range []string{"return g();", "return g() + g() + g();", "while g() == 1 { } return 1;"} {
		g := "fn g() -> u8 { var x: u8; " + strings.Repeat("x = f(); ", 1100) + " return 0; }\n"
		if got := inline.Weight(mustType(f + g + "kernel k() -> u8 { " + s + " }")); got != 1000000 {
			t.Errorf("%s: %d", s, got)
		}
	}
}
