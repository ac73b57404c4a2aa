package parser_test

import (
	"math"
	"math/rand/v2"
	"reflect"
	"testing"

	"jacquard/api"
	"jacquard/parser"
)

// odd returns a tree that no source has: kinds and fields hold anything.
func odd(r *rand.Rand, size int) api.Node {
	n := api.Node{
		Kind: r.IntN(30) - 1, Name: []string{"", "a", "no name", "fn"}[r.IntN(4)], Num: uint64(r.IntN(3)), Type: api.Type{Width: r.IntN(4) - 1, Signed: r.IntN(2) == 0},
		Op: r.IntN(25) - 2, Factor: r.IntN(4) - 1, Pipeline: r.IntN(4) - 1, Unroll: r.IntN(4) - 1, Line: r.IntN(100) - 10,
	}
	if r.IntN(3) == 0 {
		n.Kids = []api.Node{}
	}
	for size > 0 && r.IntN(5) > 0 {
		part := 1 + r.IntN(size)
		size -= part
		n.Kids = append(n.Kids, odd(r, part-1))
	}
	return n
}

// oddTrees returns trees that no source has, and a few with fields that are as far off as they can be.
func oddTrees() []api.Node {
	list := []api.Node{
		{}, {Kids: []api.Node{}}, {Kids: []api.Node{{}, {}}}, {Kids: []api.Node{{}, {Kids: []api.Node{{}}}, {}}},
		{Kind: math.MinInt, Name: "\xff", Num: 1<<64 - 1, Type: api.Type{Width: math.MinInt, Signed: true}, Op: math.MaxInt, Factor: math.MinInt, Pipeline: math.MaxInt, Unroll: math.MinInt, Line: math.MinInt},
		{Kind: math.MaxInt, Type: api.Type{Width: math.MaxInt}, Op: math.MinInt, Factor: math.MaxInt, Pipeline: math.MinInt, Unroll: math.MaxInt, Line: math.MaxInt, Kids: []api.Node{{Kind: -1}}},
	}
	r := rand.New(rand.NewPCG(4, 4))
	for size := range 300 {
		list = append(list, odd(r, size%30))
	}
	return list
}

// P4.1: every kind of node, and kinds that are none, with all types.
func TestBareTypes(t *testing.T) {
	for kind := -1; kind <= api.NodeRecv+2; kind++ {
		for _, width := range []int{-1, 0, 1, 8, 64, 65} {
			for _, signed := range []bool{false, true} {
				given := api.Type{Width: width, Signed: signed}
				want := given
				expr := kind >= api.NodeNumber && kind <= api.NodeRecv
				if expr && kind != api.NodeCast && !(kind == api.NodeNumber && width == 1 && !signed) {
					want = api.Type{}
				}
				n := parser.Bare(api.Node{Kind: kind, Type: given, Line: 3})
				if n.Type != want || n.Line != 0 || n.Kind != kind {
					t.Errorf("the kind %d with the type %v: %s", kind, given, shown(n))
				}
			}
		}
	}
}

// P4.1
func TestBare(t *testing.T) {
	list := append(oddTrees(), parsed(t, full), tower(300))
	for n := range trees(300) {
		list = append(list, n)
	}
	for _, n := range list {
		got, want := parser.Bare(n), bared(n)
		if !reflect.DeepEqual(copied(got), want) {
			t.Fatalf("Bare(%s) = %s", shown(n), shown(got))
		}
		if again := parser.Bare(got); !reflect.DeepEqual(copied(again), want) {
			t.Fatalf("Bare of Bare(%s) = %s", shown(n), shown(again))
		}
	}
}

// edits change one field of a node that is not its line, or its Kids.
var edits = []func(n *api.Node){
	func(n *api.Node) { n.Kind++ },
	func(n *api.Node) { n.Name += "x" },
	func(n *api.Node) { n.Num ^= 1 << 63 },
	func(n *api.Node) { n.Type.Width++ },
	func(n *api.Node) { n.Type.Signed = !n.Type.Signed },
	func(n *api.Node) { n.Op-- },
	func(n *api.Node) { n.Factor++ },
	func(n *api.Node) { n.Pipeline++ },
	func(n *api.Node) { n.Unroll++ },
	func(n *api.Node) { n.Kids = append(n.Kids, api.Node{}) },
	func(n *api.Node) { n.Kids = append([]api.Node{{Kind: 5}}, n.Kids...) },
}

// P4.1
func TestSame(t *testing.T) {
	r := rand.New(rand.NewPCG(4, 5))
	for _, n := range append(oddTrees(), parsed(t, full)) {
		other := copied(n)
		var parts []*api.Node
		for part := range walk(&other) {
			part.Line = r.IntN(100)
			if len(part.Kids) == 0 && r.IntN(2) == 0 {
				part.Kids = []api.Node{}
			}
			parts = append(parts, part)
		}
		if !parser.Same(n, other) || !parser.Same(other, n) || !parser.Same(n, n) {
			t.Fatalf("%s and %s are not the same", shown(n), shown(other))
		}
		for i, edit := range edits {
			part := parts[r.IntN(len(parts))]
			before := *part
			edit(part)
			if parser.Same(n, other) || parser.Same(other, n) {
				t.Fatalf("edit %d: %s and %s are the same", i, shown(n), shown(other))
			}
			*part = before
		}
		if len(n.Kids) > 0 {
			other.Kids = other.Kids[:len(other.Kids)-1]
			if parser.Same(n, other) || parser.Same(other, n) {
				t.Fatalf("%s and %s are the same", shown(n), shown(other))
			}
		}
	}
}

// P4.1: types of expressions are fields like others, and so is the order of Kids.
func TestSameIsExact(t *testing.T) {
	a, b := api.Node{Kind: api.NodeName, Name: "a"}, api.Node{Kind: api.NodeName, Name: "a", Type: api.Type{Width: 8}}
	if parser.Same(a, b) || parser.Same(api.Node{Kids: []api.Node{a, b}}, api.Node{Kids: []api.Node{b, a}}) || parser.Same(api.Node{Kids: []api.Node{{Kids: []api.Node{a}}}}, api.Node{Kids: []api.Node{{}, a}}) {
		t.Error("trees that differ are the same")
	}
}

// P4.1
func TestCountAndDepth(t *testing.T) {
	for _, n := range append(oddTrees(), parsed(t, full)) {
		count, depth := 0, 0
		for part := range walk(&n) {
			count++
			part.Line = 0
		}
		for layer := []api.Node{n}; len(layer) > 0; depth++ {
			var below []api.Node
			for _, part := range layer {
				below = append(below, part.Kids...)
			}
			layer = below
		}
		if parser.Count(n) != count || parser.Depth(n) != depth {
			t.Errorf("%d nodes on %d levels, not %d on %d: %s", parser.Count(n), parser.Depth(n), count, depth, shown(n))
		}
	}
	for _, n := range []api.Node{{}, {Kids: []api.Node{}}, {Kind: api.NodeIf, Kids: make([]api.Node, 0, 4)}} {
		if parser.Count(n) != 1 || parser.Depth(n) != 1 {
			t.Errorf("%d nodes on %d levels: %s", parser.Count(n), parser.Depth(n), shown(n))
		}
	}
}
