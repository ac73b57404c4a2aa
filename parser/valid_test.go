package parser_test

import (
	"math"
	"math/rand/v2"
	"reflect"
	"strings"
	"testing"

	"jacquard/api"
	"jacquard/parser"
)

// hasSource reports whether a tree is that of a source: whatever spell has written for it, Parse returns no tree that has no source.
func hasSource(n api.Node) bool {
	n = bared(n)
	s := copied(n)
	got, _, e := parser.Parse(spell(&s, nil))
	return e == api.OK && reflect.DeepEqual(bared(got), n)
}

// checkValid reports a tree for which Valid and Format do not return what they have to.
func checkValid(t *testing.T, n api.Node) bool {
	t.Helper()
	want := hasSource(n)
	s, e := parser.Format(n)
	if got := parser.Valid(n); got != want || e != map[bool]api.Errno{false: api.ErrForm, true: api.OK}[want] || !want && s != "" {
		t.Fatalf("Valid(%s) = %v; Format: %q, %d", shown(n), got, s, e)
	}
	return want
}

// values returns a change of a node for each value that a field, or its Kids, may have.
func values(kids []api.Node) []func(n *api.Node) {
	var list []func(n *api.Node)
	add := func(change func(n *api.Node)) { list = append(list, change) }
	for kind := -1; kind <= api.NodeRecv+1; kind++ {
		add(func(n *api.Node) { n.Kind = kind })
		add(func(n *api.Node) { *n = api.Node{Kind: kind} })
		add(func(n *api.Node) { n.Kids = append(n.Kids, api.Node{Kind: kind, Name: "a", Type: api.Type{Width: 8}}) })
	}
	for _, name := range []string{"", "b", "pipeline", strings.Repeat("n", 64), strings.Repeat("n", 65), strings.Repeat("n", 70000), "fn", "u8", "bool", "s64", "u65", "true", "1", "1a", "a b", " a", "a ", "a\n", "a//", "a;", "a.b", "+", ";", "é", "\x00", "\xff", "// a", "_", "_1"} {
		add(func(n *api.Node) { n.Name = name })
	}
	for _, num := range []uint64{0, 1, 2, 3, 255, 1048576, 1048577, 1 << 63, 1<<64 - 1} {
		add(func(n *api.Node) { n.Num = num })
		add(func(n *api.Node) { n.Num, n.Type = num, api.Type{Width: 1} })
	}
	for _, width := range []int{0, 1, 2, 63, 64, 65, -1, -8, math.MinInt, math.MaxInt, 1<<32 + 8} {
		add(func(n *api.Node) { n.Type = api.Type{Width: width} })
		add(func(n *api.Node) { n.Type = api.Type{Width: width, Signed: true} })
	}
	for op := -2; op < 24; op++ {
		add(func(n *api.Node) { n.Op = op })
	}
	for _, i := range []int{0, 1, 2, 64, 1048575, 1048576, 1048577, -1, math.MinInt, math.MaxInt, 1<<32 + 1} {
		add(func(n *api.Node) { n.Factor = i })
		add(func(n *api.Node) { n.Op, n.Factor = api.Cyclic, i })
		add(func(n *api.Node) { n.Pipeline = i })
		add(func(n *api.Node) { n.Unroll = i })
		add(func(n *api.Node) { n.Line = i })
	}
	for _, kid := range kids {
		add(func(n *api.Node) { *n = kid })
		add(func(n *api.Node) { n.Kids = append(n.Kids, kid) })
		add(func(n *api.Node) { n.Kids = append([]api.Node{kid}, n.Kids...) })
	}
	add(func(n *api.Node) { n.Kids = nil })
	add(func(n *api.Node) { n.Kids = []api.Node{} })
	add(func(n *api.Node) { n.Kids = n.Kids[:max(len(n.Kids)-1, 0)] })
	add(func(n *api.Node) { n.Kids = n.Kids[min(len(n.Kids), 1):] })
	add(func(n *api.Node) {
		for i, j := 0, len(n.Kids)-1; i < j; i, j = i+1, j-1 {
			n.Kids[i], n.Kids[j] = n.Kids[j], n.Kids[i]
		}
	})
	return list
}

// P4.1: trees that are those of a source but for one place, which holds anything.
func TestValidAtOnePlace(t *testing.T) {
	tree := bared(parsed(t, full))
	var kids []api.Node // of each kind the first one
	seen := map[int]bool{}
	for part := range walk(&tree) {
		if !seen[part.Kind] {
			seen[part.Kind] = true
			kids = append(kids, copied(*part))
		}
	}
	if len(kids) != api.NodeRecv {
		t.Fatalf("%d kinds", len(kids))
	}
	changes := values(kids)
	good := 0
	clear(seen)
	for part := range walk(&tree) {
		for i, change := range changes {
			// All changes at the first place of each kind, and some at the others.
			if seen[part.Kind] && (i+part.Kind)%20 > 0 {
				continue
			}
			before := *part
			part.Kids = append([]api.Node(nil), part.Kids...)
			change(part)
			if checkValid(t, tree) {
				good++
			}
			*part = before
		}
		seen[part.Kind] = true
	}
	if good < 1000 {
		t.Errorf("only %d of the trees are valid", good)
	}
}

// P4.1
func TestValidTrees(t *testing.T) {
	r := rand.New(rand.NewPCG(4, 6))
	for n := range trees(1000) {
		if !parser.Valid(n) || !hasSource(n) {
			t.Fatalf("%s is not valid", shown(n))
		}
		// Lines, and the types of expressions that a source does not say, play no role.
		for part := range walk(&n) {
			part.Line = r.IntN(9) - 4
			if part.Kind >= api.NodeNumber && part.Kind != api.NodeCast && part.Type.Width == 0 {
				part.Type = []api.Type{{Width: 64, Signed: true}, {Width: -1}, {Width: 1, Signed: true}, {Signed: true}, {Width: 1000}}[r.IntN(5)]
			}
			if len(part.Kids) == 0 && r.IntN(2) == 0 {
				part.Kids = []api.Node{}
			}
		}
		if !parser.Valid(n) {
			t.Fatalf("%s is not valid", shown(n))
		}
	}
}

// P4.1
func TestValidOddTrees(t *testing.T) {
	for _, n := range oddTrees() {
		checkValid(t, n)
		n.Kind = api.NodeProgram
		checkValid(t, n)
		n.Name, n.Num, n.Type, n.Op, n.Factor, n.Pipeline, n.Unroll = "", 0, api.Type{}, 0, 0, 0, 0
		checkValid(t, n)
	}
	program := parsed(t, full)
	for part := range walk(&program) {
		if part.Kind != api.NodeProgram && parser.Valid(*part) {
			t.Errorf("a part of a program is valid: %s", shown(*part))
		}
	}
}
