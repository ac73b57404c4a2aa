package types_test

import (
	"math/rand/v2"
	"reflect"
	"slices"
	"testing"

	"jacquard/api"
	"jacquard/parser"
	"jacquard/types"
)

// P5.1 and P5.2: programs that break no rule, with any types in place of those of expressions.
func TestSamples(t *testing.T) {
	kinds := map[int]int{}
	for n, want := range samples(1, 2000) {
		got, line, e := types.Check(n)
		if e != api.OK || line != 0 || !reflect.DeepEqual(duplicate(got), want) {
			t.Fatalf("%s: line %d, error %d, %s, not %s", shown(n), line, e, shown(got), shown(want))
		}
		checkTyped(t, got)
		for part := range nodes(&got) {
			kinds[part.Kind]++
		}
	}
	for kind := api.NodeProgram; kind <= api.NodeRecv; kind++ {
		if kinds[kind] < 100 {
			t.Errorf("only %d nodes of the kind %d", kinds[kind], kind)
		}
	}
}

// checkTyped reports a tree that Check has returned, but that it changes.
func checkTyped(t *testing.T, n api.Node) {
	t.Helper()
	again, line, e := types.Check(n)
	if e != api.OK || line != 0 || !reflect.DeepEqual(duplicate(again), duplicate(n)) || !types.Typed(n) {
		t.Fatalf("%s: line %d, error %d, %s", shown(n), line, e, shown(again))
	}
}

// compare reports a tree for which Check does not return what the oracle does.
func compare(t *testing.T, n api.Node) (api.Node, api.Errno) {
	t.Helper()
	want, wantLine, wantError := oracle(n)
	got, line, e := types.Check(n)
	if e != wantError || line != wantLine || !reflect.DeepEqual(duplicate(got), duplicate(want)) {
		t.Fatalf("%s: line %d, error %d, %s, not line %d, error %d, %s", shown(n), line, e, shown(got), wantLine, wantError, shown(want))
	}
	return got, e
}

// isStatement reports whether a node can stand in a block.
func isStatement(n api.Node) bool { return n.Kind >= api.NodeVar && n.Kind <= api.NodeReturn }

// edit changes one place of a program, given with all its nodes.
func edit(m *maker, all []*api.Node) {
	n := pick(m, all)
	switch m.IntN(6) {
	case 0:
		if n.Name != "" {
			n.Name = pick(m, names)
		}
	case 1:
		editType(m, n)
	case 2:
		editNumbers(m, n)
	case 3:
		editOperator(m, n)
	default:
		editKids(m, n, all)
	}
}

func editType(m *maker, n *api.Node) {
	switch {
	case n.Kind == api.NodeLet || n.Kind == api.NodeKernel:
		n.Type = pick(m, append([]api.Type{{}}, some...))
	case n.Type.Width > 0 && !isExpr(*n) || n.Kind == api.NodeCast:
		n.Type = pick(m, some)
	case n.Kind == api.NodeNumber:
		n.Type = api.Type{Width: 1}
		n.Num %= 2
	}
}

func editNumbers(m *maker, n *api.Node) {
	switch n.Kind {
	case api.NodeNumber:
		if (n.Type != api.Type{Width: 1}) {
			n.Num = m.Uint64() >> m.IntN(64)
		}
	case api.NodeArray:
		n.Num, n.Op, n.Factor = pick(m, []uint64{0, 1, 2, 64, 65, 4096, 4097}), m.IntN(4), 0
		if n.Op == api.Cyclic || n.Op == api.Blocks {
			n.Factor = pick(m, []int{0, 1, 2, 3, 64, 65, 4096})
		}
	case api.NodeFor, api.NodeWhile:
		n.Pipeline, n.Unroll = pick(m, []int{0, 1, 256, 257, 1048576}), pick(m, []int{0, 1, 64, 65, 1048576})
	}
}

func editOperator(m *maker, n *api.Node) {
	switch n.Kind {
	case api.NodeUnary:
		n.Op = api.SrcNeg + m.IntN(3)
	case api.NodeBinary:
		n.Op = api.SrcAdd + m.IntN(18)
	case api.NodeVar, api.NodeLet:
		n.Kind = api.NodeVar + api.NodeLet - n.Kind
	case api.NodeName, api.NodeRecv:
		n.Kind = api.NodeName + api.NodeRecv - n.Kind
	case api.NodeAssign, api.NodeSend:
		n.Kind = api.NodeAssign + api.NodeSend - n.Kind
	}
}

// addCalls makes calls of functions the operands of a few casts, which may have operands of any type.
func addCalls(m *maker, all []*api.Node) {
	casts, functions := ofKind(all, api.NodeCast), ofKind(all, api.NodeFunction)
	for range min(3, len(casts), len(functions)) {
		f := pick(m, functions)
		call := m.named(api.NodeCall, f.Name, api.Type{})
		for range f.Kids[1:] {
			call.Kids = append(call.Kids, m.node(api.NodeNumber, api.Type{}))
		}
		pick(m, casts).Kids = []api.Node{call}
	}
}

func ofKind(all []*api.Node, kind int) []*api.Node {
	return slices.DeleteFunc(slices.Clone(all), func(n *api.Node) bool { return n.Kind != kind })
}

// editKids changes the Kids of a node, or those of a node that it contains.
func editKids(m *maker, n *api.Node, all []*api.Node) {
	other := duplicate(*pick(m, all))
	switch {
	case isExpr(*n) && m.IntN(3) == 0:
		*n = m.operation(api.NodeUnary, api.SrcNeg+m.IntN(3), api.Type{}, *n)
	case isExpr(*n) && isExpr(other):
		*n = other
	case isExpr(*n):
		n.Kids = slices.DeleteFunc(n.Kids, func(api.Node) bool { return m.IntN(2) == 0 })
	case isStatement(*n) && isStatement(other):
		*n = other
	case len(n.Kids) == 0:
		n.Kids = append(n.Kids, other)
	case m.IntN(3) == 0:
		i := m.IntN(len(n.Kids))
		n.Kids = slices.Delete(n.Kids, i, i+1)
	case n.Kind <= api.NodeBlock && m.IntN(2) == 0:
		n.Kids = slices.Insert(n.Kids, m.IntN(len(n.Kids)), duplicate(pick(m, n.Kids)))
	default:
		m.Shuffle(len(n.Kids), func(i, j int) { n.Kids[i], n.Kids[j] = n.Kids[j], n.Kids[i] })
	}
}

// P5.1 to P5.3: programs that have been changed at one place or a few, so that they may break rules; each node has a line of its own, but for those that stand twice.
func TestChangedSamples(t *testing.T) {
	m := &maker{Rand: rand.New(rand.NewPCG(5, 3))}
	counts := map[api.Errno]int{}
	for n := range samples(4, 1000) {
		for range 8 {
			program := duplicate(n)
			if m.IntN(10) == 0 {
				addCalls(m, slices.Collect(nodes(&program)))
			}
			for range 1 + m.IntN(3) {
				edit(m, slices.Collect(nodes(&program)))
			}
			got, e := compare(t, program)
			counts[e]++
			if e == api.OK {
				checkTyped(t, got)
				checkMeaning(t, got)
				if types.Typed(program) != parser.Same(program, got) {
					t.Fatalf("Typed(%s)", shown(program))
				}
			}
		}
	}
	for _, e := range []api.Errno{api.OK, api.ErrForm, api.ErrName, api.ErrType, api.ErrLimit, api.ErrRecursion} {
		if counts[e] < 20 {
			t.Errorf("only %d programs with the error %d", counts[e], e)
		}
	}
}

// checkMeaning reports a tree that Check has returned in which operands differ in their types, a condition is not u1, or a name that is used is not declared once.
func checkMeaning(t *testing.T, n api.Node) {
	t.Helper()
	u1 := api.Type{Width: 1}
	for part := range nodes(&n) {
		if isExpr(*part) && (part.Type.Width < 1 || part.Type.Width > api.MaxWidth) {
			t.Fatalf("%s has no type in %s", shown(*part), shown(n))
		}
		switch part.Kind {
		case api.NodeBinary:
			if part.Kids[0].Type != part.Kids[1].Type {
				t.Fatalf("the operands of %s differ in %s", shown(*part), shown(n))
			}
		case api.NodeIf, api.NodeWhile, api.NodeCond:
			if part.Kids[0].Type != u1 {
				t.Fatalf("the condition of %s in %s", shown(*part), shown(n))
			}
		}
	}
	for _, unit := range n.Kids {
		checkNames(t, unit, nil)
	}
}

// checkNames reports a name that is used in a node where not exactly one of the declarations is visible, and returns the declarations behind the node.
func checkNames(t *testing.T, n api.Node, visible []string) []string {
	t.Helper()
	inner := slices.Clone(visible)
	for _, kid := range n.Kids {
		if n.Kind == api.NodeFor && kid.Kind == api.NodeBlock {
			inner = append(inner, n.Name)
		}
		inner = checkNames(t, kid, inner)
	}
	count := 0
	for _, name := range visible {
		if name == n.Name {
			count++
		}
	}
	switch n.Kind {
	case api.NodeParam, api.NodeArray, api.NodeIn, api.NodeOut, api.NodeVar, api.NodeLet, api.NodeFor:
		if count > 0 {
			t.Fatalf("%s is declared again in line %d", n.Name, n.Line)
		}
		if n.Kind != api.NodeFor {
			return append(visible, n.Name)
		}
	case api.NodeName, api.NodeRecv, api.NodeIndex, api.NodeAssign, api.NodeStore, api.NodeSend:
		if count != 1 {
			t.Fatalf("%s is declared %d times in line %d", n.Name, count, n.Line)
		}
	}
	return visible
}
