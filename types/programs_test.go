package types_test

import (
	"fmt"
	"math/rand/v2"
	"slices"
	"strings"
	"testing"

	"jacquard/api"
	"jacquard/parser"
	"jacquard/types"
)

// programs are sources with the line of the first error, and the error.
var programs = []struct {
	source string
	line   int
	e      api.Errno
}{
	// Functions and kernels: their names, and how many kernels there are.
	{"kernel k() { }", 0, api.OK}, {"", 1, api.ErrName}, {"// nothing\n", 1, api.ErrName}, {"\n\nfn f() -> u8 { }", 3, api.ErrName}, {"\nfn f() -> u8 { return nope; }\nfn g() -> u8 { return f(1); }", 2, api.ErrName},
	{"fn f() -> u8 { return 1; }\nkernel k() { }\nfn g() -> u8 { return f(); }", 0, api.OK}, {"kernel k() { nope = 1; }\nkernel l() { }", 2, api.ErrName}, {"kernel k() { }\nkernel k() { }\nkernel k() { }", 2, api.ErrName}, {"kernel k() { }\nfn f() -> u8 { return nope; }\nkernel l() { }", 3, api.ErrName},
	{"fn f() -> u8 { }\nfn f() -> s8 { return 1; }\nkernel k() { }", 2, api.ErrName}, {"fn f() -> u8 { }\nfn g() -> u8 { }\nfn f() -> u8 { }", 3, api.ErrName}, {"fn f() -> u8 { }\nkernel f() { }", 2, api.ErrName}, {"kernel f() { }\nfn g() -> u8 { return nope; }\nfn f() -> u8 { return 1; }", 3, api.ErrName},
	{"fn f() -> u8 { }\nkernel k() { }\nfn f() -> u8 { }\nkernel l() { }", 3, api.ErrName}, {"fn f() -> u8 { }\nkernel k() { }\nkernel l() { }\nfn f() -> u8 { }", 3, api.ErrName}, {"fn f() -> u8 { }\nkernel k() { }\nkernel f() { }\nfn f() -> u8 { }", 3, api.ErrName},
	// Names of functions and of kernels are not those of scalars, arrays and streams.
	{"fn f(f: u8, k: u8) -> u8 { let g = f; return f + g + k; }\nfn g(g: s8) -> s8 { return g; }\nkernel k(k: u8, f: u8[4], g: in s8) { var v: u8 = f(k, f[k]); let n = g(recv(g)); f[0] = f(v, 1); }", 0, api.OK},
	{"fn f() -> u8 { return f; }\nkernel k() { }", 1, api.ErrName}, {"fn f(g: u8) -> u8 { return g(); }\nkernel k() { }", 1, api.ErrName}, {"kernel k() { let v = k(); }", 1, api.ErrName}, {"kernel k() -> u8 { return\nk; }", 2, api.ErrName},
	// Parameters are visible in their own block only, and functions see no arrays and no streams.
	{"fn f(p: u8) -> u8 { return p; }\nfn g() -> u8 { return p; }\nkernel k() { }", 2, api.ErrName}, {"fn f(p: u8) -> u8 { return p; }\nkernel k() { let v = p; }", 2, api.ErrName}, {"kernel k(p: u8) { }\nfn f() -> u8 { return p; }", 2, api.ErrName},
	{"kernel k(a: u8[4]) { }\nfn f() -> u8 { return a[0]; }", 2, api.ErrName}, {"kernel k(q: in u8) { }\nfn f() -> u8 { return recv(q); }", 2, api.ErrName}, {"kernel k(o: out u8) { }\nfn f() -> u8 { send o(1); return 1; }", 2, api.ErrName}, {"kernel k(a: u8[4]) { }\nfn f() -> u8 { a[0] = 1; return 1; }", 2, api.ErrName},
	{"fn f(p: u8) -> u8 { return p; }\nfn g(p: u8) -> u8 { var v: u8; return p; }\nkernel k(p: u8[1], v: in u8) { }\nfn h(p: s8, v: s8) -> s8 { return p + v; }", 0, api.OK}, {"fn f(p: u8) -> u8 { var v: u8; return 1; }\nfn g() -> u8 { v = 1; return 1; }\nkernel k() { }", 2, api.ErrName},
	{"fn f(p: u8) -> u8 { return p[0]; }\nkernel k() { }", 1, api.ErrName}, {"fn f(p: u8) -> u8 {\np = 1; return p; }\nkernel k() { }", 2, api.ErrName}, {"fn f(p: u8) -> u8 {\nlet p = 1 as u8; return p; }\nkernel k() { }", 2, api.ErrName},
	// Parameters with the name of an earlier one.
	{"fn f(p: u8,\np: u8) -> u8 { }\nkernel k() { }", 2, api.ErrName}, {"kernel k(p: u8, q: u8,\np: u8[1]) { }", 2, api.ErrName}, {"kernel k(p: in u8,\np: out u8) { }", 2, api.ErrName}, {"kernel k(p: u8[2],\nq: u8,\np: u8,\nq: u8) { }", 3, api.ErrName}, {"kernel k(p: u8,\np: u8[0]) { }", 2, api.ErrLimit}, {"kernel k(p: u8,\np: u8,\na: u8[0]) { nope = 1; }", 2, api.ErrName},
	{"kernel k(a: u8[0],\np: u8,\np: u8) { }", 1, api.ErrLimit}, {"kernel k(p: u8,\na: u8[0]) { let p = p; }", 2, api.ErrLimit}, {"kernel k(p: u8) { nope = 1; }\nfn f(q: u8,\nq: u8) -> u8 { }", 1, api.ErrName}, {"fn f(q: u8,\nq: u8) -> u8 { }\nkernel k(p: u8[0]) { }", 2, api.ErrName},
	// Returns: as the last statement of a block with a result, and nowhere else.
	{"fn f() -> u8 { return 1; }\nkernel k() -> s8 { return -1; }", 0, api.OK}, {"\nfn f() -> u8 {\n}\nkernel k() { }", 2, api.ErrType}, {"\nkernel k() -> u8 {\n}", 2, api.ErrType}, {"\nkernel\nk(x: u8) -> u8 {\nlet v = x; }", 2, api.ErrType}, {"fn f(x: u8) -> u8 {\nreturn x;\nlet v = x; }\nkernel k() { }", 2, api.ErrType},
	{"fn f(x: u8) -> u8 {\nreturn nope;\nreturn x; }\nkernel k() { }", 2, api.ErrType}, {"kernel k(b: u1) -> u8 { if b {\nreturn 1; } else {\nreturn 2; } }", 2, api.ErrType}, {"kernel k(b: u1) -> u8 { if b { }\nreturn\nb; }", 3, api.ErrType}, {"kernel k(b: u1) -> u8 { while b {\nreturn 1; } return 1; }", 2, api.ErrType}, {"fn f(b: u1) -> u8 { for i: u8 in 0 .. 1 {\nreturn 1; }\nreturn 1; }\nkernel k() { }", 2, api.ErrType},
	{"kernel k() {\nreturn 1; }", 2, api.ErrType}, {"kernel k(b: u1) { if b {\nreturn nope; } }", 2, api.ErrType}, {"fn f() -> u8 { return\n256; }\nkernel k() { }", 2, api.ErrType}, {"fn f(x: u8) -> s8 { return x + 1; }\nkernel k() { }", 1, api.ErrType}, {"fn f(x: u8) -> s8 {\nlet v: s8 = nope; }\nkernel k() { }", 2, api.ErrName}, {"fn f() -> u8 { }\nkernel k() {\nnope = 1; }", 1, api.ErrType},
	{"fn f(b: u1) -> u8 { if b { }\nelse { return 1; } }\nkernel k() { }", 2, api.ErrType}, {"kernel k(q: in u4) -> u4 { var v: u4; v = recv(q); return v * recv(q) + 1; }", 0, api.OK}, {"kernel k() -> u1 { return 1 == 1 as u8; }", 0, api.OK}, {"kernel k() -> bool { return true; }", 0, api.OK}, {"kernel k() -> u64 { return\ntrue; }", 2, api.ErrType},
	// Calls of functions that come later, and recursion, which comes after everything else.
	{"kernel k() -> u8 { return f(g(1)); }\nfn f(x: u8) -> u8 { return g(x) + g(1); }\nfn g(x: u8) -> u8 { return x; }", 0, api.OK}, {"fn f() -> u8 { return 1; }\n\nfn g() -> u8 { return f() + g(); }\nkernel k() { }", 3, api.ErrRecursion}, {"fn f() -> u8 { return g(); }\nfn g() -> u8 { return h(); }\nfn h() -> u8 { return g(); }\nkernel k() { }", 2, api.ErrRecursion},
	{"fn f() -> u8 { return g(); }\nfn g() -> u8 { return f(); }\nkernel k() { }", 1, api.ErrRecursion}, {"kernel k() { let v = f(); }\nfn f() -> u8 { return 1 + (2 * f()); }", 2, api.ErrRecursion}, {"fn f() -> u8 { return f(); }\nfn g() -> u8 { return nope; }\nkernel k() { }", 2, api.ErrName}, {"fn f() -> u8 { return f(); }\nkernel k(a: u8[0]) { }", 2, api.ErrLimit}, {"fn f() -> u8 { return f(); }\nfn g() -> u8 { return 1; }", 1, api.ErrName},
	{"fn f(b: u1) -> u8 { if b { let v = g(b); } return 1; }\nfn g(b: u1) -> u8 { while b { for i: u8 in h(b) .. 0 { } } return 1; }\nfn h(b: u1) -> u8 { return h(b == 1) as u8 as s8 as u8; }\nkernel k() { let v = f(1); }", 3, api.ErrRecursion},
	{"fn f(x: u8) -> u8 { return g(g(1)); }\nfn g(x: u8) -> u8 { return 1; }\nfn h(x: u8) -> u8 { return f(i(x)); }\nfn i(x: u8) -> u8 { return g(h(x)); }\nkernel k() { }", 3, api.ErrRecursion},
	{"fn f() -> u8 { return f(1); }\nkernel k() { }", 1, api.ErrType}, {"fn f() -> u8 {\nreturn nope(); }\nkernel k() { }", 2, api.ErrName}, {"kernel k() { let v = f(\n2); }\nfn f(x: u1) -> u8 { return 1; }", 2, api.ErrType},
}

// P5.1
func TestPrograms(t *testing.T) {
	for _, c := range programs {
		check(t, c.source, c.line, c.e)
	}
}

// P5.1: a tree that is not valid, whatever else is wrong with it.
func TestNotValid(t *testing.T) {
	kernel := parsed(t, "kernel k() { var v: u8 = nope; }").Kids[0]
	for _, n := range []api.Node{
		{}, {Line: 7}, kernel, {Kind: api.NodeProgram, Line: 5, Name: "p"}, {Kind: api.NodeProgram, Kids: []api.Node{kernel, {Kind: api.NodeBlock, Line: 2}}}, {Kind: api.NodeProgram, Kids: []api.Node{{Kind: api.NodeKernel, Name: "no name", Kids: []api.Node{{Kind: api.NodeBlock}}}}},
		{Kind: api.NodeProgram, Kids: make([]api.Node, api.MaxNodes)}, {Kind: api.NodeFunction, Name: "f", Type: api.Type{Width: 8}, Kids: []api.Node{{Kind: api.NodeBlock}}}, {Kind: -1}, {Kind: api.NodeRecv + 1},
	} {
		if tree, line, e := types.Check(n); e != api.ErrForm || line != 0 || tree.Kind != 0 || types.Typed(n) {
			t.Errorf("%s: line %d, error %d; %s", shown(n), line, e, shown(tree))
		}
	}
}

// P5.1: trees with as many nodes and levels as there may be, and with one more.
func TestLargeTrees(t *testing.T) {
	u8 := api.Type{Width: 8}
	program := func(statements []api.Node) api.Node {
		return api.Node{Kind: api.NodeProgram, Kids: []api.Node{{Kind: api.NodeKernel, Name: "k", Kids: []api.Node{{Kind: api.NodeBlock, Kids: statements}}}}}
	}
	var wide []api.Node
	for i := range api.MaxNodes - 3 {
		wide = append(wide, api.Node{Kind: api.NodeVar, Name: fmt.Sprint("v", i), Type: u8, Line: i})
	}
	deep := api.Node{Kind: api.NodeNumber, Num: 255}
	for range api.MaxNesting - 5 {
		deep = api.Node{Kind: api.NodeBinary, Op: api.SrcAdd, Kids: []api.Node{deep, {Kind: api.NodeNumber, Num: 1}}}
	}
	let := func(value api.Node) []api.Node {
		return []api.Node{{Kind: api.NodeLet, Name: "v", Type: u8, Kids: []api.Node{value}}}
	}
	for _, c := range []struct {
		n    api.Node
		line int
		e    api.Errno
	}{
		{program(wide), 0, api.OK},
		{program(append(wide[:len(wide):len(wide)], wide[0])), 0, api.ErrForm},
		{program(append(wide[:len(wide)-1:len(wide)-1], api.Node{Kind: api.NodeVar, Name: "v7", Type: u8, Line: 77})), 77, api.ErrName},
		{program(let(deep)), 0, api.OK},
		{program(let(api.Node{Kind: api.NodeUnary, Op: api.SrcNeg, Kids: []api.Node{deep}})), 0, api.ErrForm},
		{program([]api.Node{{Kind: api.NodeLet, Name: "v", Kids: []api.Node{deep}}}), 0, api.ErrType},
	} {
		tree, line, e := types.Check(c.n)
		if line != c.line || e != c.e || e == api.OK && (!types.Typed(tree) || !parser.Same(parser.Bare(tree), c.n)) {
			t.Errorf("%.300s: line %d, error %d, not line %d, error %d", shown(c.n), line, e, c.line, c.e)
		}
	}
}

// division writes how an array is divided.
func division(op, factor int) string {
	switch op {
	case api.Cyclic:
		return fmt.Sprint(" cyclic ", factor)
	case api.Blocks:
		return fmt.Sprint(" blocks ", factor)
	case api.Complete:
		return " complete"
	}
	return ""
}

// P5.1: lengths and factors of arrays at their limits, for each division.
func TestArrays(t *testing.T) {
	const most = 1048576 // that a source can say
	for _, length := range []int{0, 1, 2, 3, 8, 63, 64, 65, 100, 4095, 4096, 4097, 4160, 65536, most} {
		for _, factor := range []int{0, 1, 2, 3, 4, 7, 8, 9, 63, 64, 65, 99, 100, 101, 4096, 4097, 65537, most} {
			for op := api.Whole; op <= api.Complete; op++ {
				good := length >= 1 && length <= 4096
				if op == api.Cyclic || op == api.Blocks {
					good = good && factor >= 1 && factor <= length && factor <= 64
				}
				if op == api.Complete {
					good = good && length <= 64
				}
				source := fmt.Sprintf("kernel k(x: u8,\na: u3[%d]%s) { a[x] = nope; }", length, division(op, factor))
				if good {
					check(t, source, 2, api.ErrName)
					check(t, strings.ReplaceAll(source, "nope", "1"), 0, api.OK)
				} else {
					check(t, source, 2, api.ErrLimit)
				}
			}
		}
	}
}

// P5.1: as many arrays and streams as there may be, in any order, and one more of them.
func TestManyArraysAndStreams(t *testing.T) {
	r := rand.New(rand.NewPCG(5, 1))
	for _, c := range []struct{ arrays, ins, outs, scalars int }{
		{64, 0, 0, 0}, {65, 0, 0, 0}, {0, 64, 0, 0}, {0, 65, 0, 0}, {0, 0, 64, 0}, {0, 0, 65, 0}, {0, 32, 32, 0}, {0, 33, 32, 0}, {0, 32, 33, 0}, {64, 64, 0, 100}, {64, 10, 54, 5}, {64, 11, 54, 0}, {65, 10, 54, 2}, {65, 64, 1, 70}, {70, 1, 70, 3}, {0, 0, 0, 200}, {200, 0, 0, 0},
	} {
		var kinds []string
		for i, count := range []int{c.arrays, c.ins, c.outs, c.scalars} {
			kinds = append(kinds, slices.Repeat([]string{[]string{"u8[2]", "in u8", "out u8", "u8"}[i]}, count)...)
		}
		for range 4 {
			arrays, streams, line := 0, 0, 0
			var list []string
			for i, kind := range kinds {
				list = append(list, fmt.Sprintf("p%d: %s", i, kind))
				if kind == "u8[2]" {
					arrays++
				} else if kind != "u8" {
					streams++
				}
				if line == 0 && max(arrays, streams) > 64 {
					line = i + 1
				}
			}
			e := api.OK
			if line > 0 {
				e = api.ErrLimit
			}
			check(t, "kernel k("+strings.Join(list, ",\n")+") { }", line, e)
			r.Shuffle(len(kinds), func(i, j int) { kinds[i], kinds[j] = kinds[j], kinds[i] })
		}
	}
}

// P5.1: all graphs of calls among three functions, and mixed ones among more.
func TestRecursion(t *testing.T) {
	checkCalls := func(size int, calls func(i, j int) bool) {
		var reach [12][12]bool
		var s strings.Builder
		for i := range size {
			fmt.Fprintf(&s, "fn f%d() -> u8 { return 1", i)
			for j := range size {
				if reach[i][j] = calls(i, j); reach[i][j] {
					fmt.Fprintf(&s, " + f%d()", j)
				}
			}
			s.WriteString("; }\n")
		}
		for via := range size {
			for i := range size {
				for j := range size {
					reach[i][j] = reach[i][j] || reach[i][via] && reach[via][j]
				}
			}
		}
		s.WriteString("kernel k() { let v = f0(); }")
		for i := range size {
			if reach[i][i] {
				check(t, s.String(), i+1, api.ErrRecursion)
				return
			}
		}
		check(t, s.String(), 0, api.OK)
	}
	for bits := range 1 << 9 {
		checkCalls(3, func(i, j int) bool { return bits>>(3*i+j)&1 > 0 })
	}
	r := rand.New(rand.NewPCG(5, 2))
	for range 1000 {
		rank := r.Perm(12) // Calls lead to a greater rank, but for a few.
		size, often := 1+r.IntN(12), r.IntN(12)
		checkCalls(size, func(i, j int) bool { return r.IntN(8) == 0 && (rank[i] < rank[j] || r.IntN(12) < often) })
	}
}

// P5.1: long chains of calls.
func TestLongChains(t *testing.T) {
	const size = 1000
	chain := func(last string) string {
		var s strings.Builder
		for i := range size {
			fmt.Fprintf(&s, "fn f%d() -> u8 { return f%d(); }\n", i, i+1)
		}
		return s.String() + fmt.Sprintf("fn f%d() -> u8 { return %s; }\nkernel k() { let v = f0(); }", size, last)
	}
	check(t, chain("1"), 0, api.OK)
	check(t, chain(fmt.Sprintf("f%d()", size)), size+1, api.ErrRecursion)
	check(t, chain("f500()"), 501, api.ErrRecursion)
	check(t, chain("f0()"), 1, api.ErrRecursion)
}
