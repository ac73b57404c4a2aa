package types_test

import (
	"math"
	"math/rand/v2"
	"reflect"
	"slices"
	"testing"

	"jacquard/api"
	"jacquard/parser"
	"jacquard/types"
)

// P5.1: open expressions, and others, as the parser makes them.
func TestOpen(t *testing.T) {
	open := []string{"0", "18446744073709551615", "(7)", "-1", "~1", "-~-1", "1 + 2", "1 - 2", "1 * 2", "1 / 2", "1 % 2", "1 & 2", "1 | 2", "1 ^ 2", "1 << 2", "1 >> 2", "-(1 + 2) * ~3", "true ? 1 : 2", "nope ? 1 : -2", "1 ? 2 : 3 ? 4 : 5", "(a < b ? 1 : 2) + 3"}
	closed := []string{"true", "false", "-true", "a", "-a", "!1", "!a", "-!1", "1 + a", "a + 1", "1 + 2 + a", "(1 + 2) << (a - 1)", "1 + true", "1 == 2", "1 < 2", "1 && 2", "1 || 0", "-(1 == 2)", "1 as u8", "1 + (2 as u8)", "f()", "f(1)", "a[1]", "recv(q)", "1 ? a : 2", "1 ? 2 : a", "1 ? 2 : true", "1 ? a : b"}
	for _, s := range append(open, closed...) {
		n := parsed(t, "kernel k() { x = "+s+"; }").Kids[0].Kids[0].Kids[0].Kids[0]
		if got, want := types.Open(n), slices.Contains(open, s); got != want || flexible(n) != want {
			t.Errorf("Open(%s) = %v", s, got)
		}
	}
}

// P5.1: all parts of programs, with and without types.
func TestOpenParts(t *testing.T) {
	for n, typed := range samples(6, 300) {
		n = parser.Bare(n)
		for part := range nodes(&n) {
			if types.Open(*part) != flexible(*part) {
				t.Fatalf("Open(%s) = %v", shown(*part), types.Open(*part))
			}
		}
		for part := range nodes(&typed) {
			if types.Open(*part) {
				t.Fatalf("%s is open with types", shown(*part))
			}
		}
	}
}

// P5.1: nodes of all kinds, with all operators and numbers of Kids.
func TestOpenNodes(t *testing.T) {
	number := api.Node{Kind: api.NodeNumber}
	name := api.Node{Kind: api.NodeName, Name: "a"}
	for kind := -1; kind <= api.NodeRecv+2; kind++ {
		for op := -1; op <= api.SrcIsZero+2; op++ {
			for bits := range 1 << 4 {
				var kids []api.Node
				for i := range 4 {
					n := api.Node{Kind: kind, Op: op, Kids: kids}
					want := false
					switch kind {
					case api.NodeNumber:
						want = true
					case api.NodeUnary:
						want = i == 1 && bits&1 == 0 && (op == api.SrcNeg || op == api.SrcNot)
					case api.NodeBinary:
						want = i == 2 && bits&3 == 0 && op >= api.SrcAdd && op <= api.SrcShr
					case api.NodeCond:
						want = i == 3 && bits&6 == 0
					}
					if types.Open(n) != want {
						t.Fatalf("Open(%s) = %v", shown(n), !want)
					}
					kids = append(kids, []api.Node{number, name}[bits>>i&1])
				}
			}
		}
	}
	for _, ofType := range []api.Type{{Width: 1}, {Width: 8}, {Width: 64, Signed: true}, {Width: -1}, {Width: 1, Signed: true}, {Signed: true}} {
		if types.Open(api.Node{Kind: api.NodeNumber, Type: ofType}) {
			t.Errorf("a number of the type %v is open", ofType)
		}
	}
}

// odd returns a tree that has any kinds and names.
func odd(r *rand.Rand, levels int) api.Node {
	kinds := []int{api.NodeKernel, api.NodeFunction, api.NodeFunction, api.NodeProgram, api.NodeNumber, api.NodeUnary, api.NodeBinary, api.NodeCond, -1, math.MaxInt, r.IntN(30)}
	n := api.Node{
		Kind: kinds[r.IntN(len(kinds))], Name: []string{"", "f", "g", "no name"}[r.IntN(4)], Num: r.Uint64(), Type: api.Type{Width: r.IntN(70) - 2, Signed: r.IntN(2) > 0},
		Op: r.IntN(25) - 2, Factor: r.IntN(9) - 4, Pipeline: r.IntN(300), Unroll: r.IntN(99) - 9, Line: r.IntN(99) - 9,
	}
	if levels > 0 {
		for range r.IntN(5) {
			n.Kids = append(n.Kids, odd(r, levels-1))
		}
	}
	return n
}

// oddTrees returns trees of all kinds, of which hardly one is a program's.
func oddTrees() []api.Node {
	r := rand.New(rand.NewPCG(5, 7))
	list := []api.Node{{}, {Kids: []api.Node{}}, {Kind: math.MinInt, Op: math.MinInt, Type: api.Type{Width: math.MinInt}, Line: math.MinInt}}
	for i := range 2000 {
		list = append(list, odd(r, i%5))
	}
	return list
}

// checkOnly reports a result of Kernel or Function that is not the only one of the Kids.
func checkOnly(t *testing.T, n api.Node, kids []api.Node, got api.Node, ok bool) {
	t.Helper()
	var want api.Node
	if len(kids) == 1 {
		want = kids[0]
	}
	if ok != (len(kids) == 1) || !reflect.DeepEqual(duplicate(got), duplicate(want)) {
		t.Fatalf("%s: %s, %v, not %s", shown(n), shown(got), ok, shown(want))
	}
}

// P5.1: trees of every kind.
func TestKernelAndFunction(t *testing.T) {
	list := oddTrees()
	for n, typed := range samples(8, 100) {
		list = append(list, n, typed)
	}
	for _, c := range programs {
		list = append(list, parsed(t, c.source))
	}
	found := 0
	for _, n := range list {
		var kernels []api.Node
		functions := map[string][]api.Node{}
		for _, kid := range n.Kids {
			switch kid.Kind {
			case api.NodeKernel:
				kernels = append(kernels, kid)
			case api.NodeFunction:
				functions[kid.Name] = append(functions[kid.Name], kid)
			}
		}
		got, ok := types.Kernel(n)
		checkOnly(t, n, kernels, got, ok)
		for _, name := range []string{"", "f", "g", "h", "k", "no name", "f0", "f1", "f2", "f3"} {
			got, ok = types.Function(n, name)
			checkOnly(t, n, functions[name], got, ok)
			if ok {
				found++
			}
		}
	}
	if found < 500 {
		t.Errorf("only %d functions", found)
	}
}

// P5.1: a tree is typed if Check returns the same one, whatever its lines are.
func TestTyped(t *testing.T) {
	m := &maker{Rand: rand.New(rand.NewPCG(5, 9))}
	for n, typed := range samples(10, 300) {
		if types.Typed(n) != parser.Same(n, typed) || !types.Typed(typed) || !types.Typed(changed(typed, func(n *api.Node) { n.Line = m.IntN(9) - 4 })) {
			t.Fatalf("Typed(%s), Typed(%s)", shown(n), shown(typed))
		}
		for part := range nodes(&typed) {
			before := *part
			part.Type = pick(m, append(some, api.Type{}, api.Type{Width: 2}, api.Type{Width: -1}, api.Type{Width: 1, Signed: true}))
			tree, _, e := types.Check(parser.Bare(typed))
			want := e == api.OK && parser.Same(tree, typed)
			if isExpr(*part) && part.Kind != api.NodeCast && part.Kind != api.NodeNumber && part.Type != before.Type && want {
				t.Fatalf("Check returns a wrong type: %s", shown(typed))
			}
			if types.Typed(typed) != want {
				t.Fatalf("Typed(%s) = %v", shown(typed), !want)
			}
			*part = before
		}
	}
	for _, n := range oddTrees() {
		if types.Typed(n) {
			t.Fatalf("%s is typed", shown(n))
		}
	}
}

// P5.1: the chapter's and the document's examples.
func TestExamples(t *testing.T) {
	check(t, "kernel k(x: s8) { let a: s8 = x + 1 << 2; }", 0, api.OK)
	check(t, "kernel k(x: s8) {\nlet a = 1; }", 2, api.ErrType)
	check(t, "kernel k(x: s8) {\nlet a = 1 < 2; }", 2, api.ErrType)
	check(t, "kernel k() { let a = 1 as u3; let b: u3 = a; }", 0, api.OK)
	check(t, "kernel k() {\nlet a = 9 as u3; }", 2, api.ErrType)
	check(t, "kernel k(q: in u8) { let a: u4 = recv(q) as u4; }", 0, api.OK)
	check(t, "kernel k(y: s8) { var x: u8;\nx =\nx +\ny; }", 4, api.ErrType)
}
