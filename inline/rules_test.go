package inline_test

import (
	"math/rand/v2"
	"reflect"
	"strings"
	"testing"
	"unsafe"

	"jacquard/api"
	"jacquard/inline"
	"jacquard/parser"
)

// given is a tree in whose Kids there is spare capacity with other nodes.
type given struct {
	tree  api.Node
	lists [][]api.Node // the Kids of all nodes with their spare capacity
}

func spacious(n api.Node) *given {
	g := &given{}
	g.tree = g.copied(n)
	return g
}

func (g *given) copied(n api.Node) api.Node {
	n.Name = strings.Clone(n.Name)
	kids := make([]api.Node, 0, len(n.Kids)+2)
	for _, kid := range n.Kids {
		kids = append(kids, g.copied(kid))
	}
	g.lists = append(g.lists, append(kids, api.Node{Kind: api.NodeCall, Name: "spare"}, api.Node{Line: 9}))
	n.Kids = kids
	return n
}

// state returns a copy of all that the tree consists of.
func (g *given) state() []api.Node {
	var all []api.Node
	for _, list := range g.lists {
		for _, n := range list {
			all = append(all, spacious(n).tree)
		}
	}
	return all
}

// results calls all functions.
func results(n api.Node) []any {
	tree, e := inline.Inline(n)
	return []any{tree, e, strings.Join(inline.Calls(n), " "), strings.Join(inline.Order(n), " "), inline.Weight(n)}
}

// same reports whether two lists of results are equal, lines included, if empty Kids are equal to nil.
func same(a, b []any) bool {
	first, second := spacious(a[0].(api.Node)), spacious(b[0].(api.Node))
	return reflect.DeepEqual(first.tree, second.tree) && reflect.DeepEqual(a[1:], b[1:])
}

// spoil overwrites all nodes below the first one of a tree.
func spoil(n api.Node) {
	kids := n.Kids[:cap(n.Kids)]
	for i, kid := range kids {
		spoil(kid)
		kids[i] = api.Node{Kind: -1, Name: "spoilt"}
	}
}

// trees are programs of all kinds, and trees that are no programs.
func trees() []api.Node {
	list := []api.Node{{}, parsed("kernel k() { x = f(g()); }"), mustType(doubling(20, "x") + "kernel k() -> u8 { return d0(1); }")}
	for _, table := range statements() {
		for _, s := range table {
			list = append(list, program(s))
		}
	}
	for _, source := range samples(3, 100) {
		list = append(list, mustType(source))
	}
	r := rand.New(rand.NewPCG(7, 2))
	for i := range 100 {
		list = append(list, strange(r, i%5))
	}
	return list
}

// R2 and R3 for P7.1: arguments stay as they are, results share no memory with them, and calls leave nothing behind.
func TestArgumentsStay(t *testing.T) {
	for _, n := range trees() {
		g := spacious(n)
		before := g.state()
		want := results(n)
		got := results(g.tree)
		if !same(got, want) || !reflect.DeepEqual(g.state(), before) {
			t.Fatalf("%s has become %s: %v, not %v", shown(n), shown(g.tree), got, want)
		}
		spoil(got[0].(api.Node))
		for _, list := range [][]string{inline.Calls(g.tree), inline.Order(g.tree)} {
			for i := range list {
				list[i] = "spoilt"
			}
		}
		if !reflect.DeepEqual(g.state(), before) || !same(results(g.tree), want) {
			t.Fatalf("a result for %s shares memory with it", shown(n))
		}
	}
}

// address returns where the bytes of a name are.
func address(name string) unsafe.Pointer { return unsafe.Pointer(unsafe.StringData(name)) }

// R3 for P7.1: no two lists of Kids of a result share memory, and its names are no parts of the argument's.
func TestResultsAreNew(t *testing.T) {
	for _, n := range trees() {
		g := spacious(n)
		old := map[unsafe.Pointer]bool{}
		each(g.tree, func(n api.Node) { old[address(n.Name)] = n.Name != "" })
		tree, _ := inline.Inline(g.tree)
		names := append(inline.Calls(g.tree), inline.Order(g.tree)...)
		seen := map[*api.Node]bool{}
		each(tree, func(n api.Node) {
			names = append(names, n.Name)
			for i := range n.Kids {
				if seen[&n.Kids[i]] {
					t.Fatalf("two lists of %s share memory", shown(tree))
				}
				seen[&n.Kids[i]] = true
			}
		})
		for _, name := range names {
			if old[address(name)] {
				t.Fatalf("the name %q of %s is shared", name, shown(n))
			}
		}
	}
}

// R2 for P7.1: a program that is too large leaves nothing behind, and functions that have the same names in two programs are not mixed up.
func TestCallsAreIndependent(t *testing.T) {
	n := program("z = inc(recv(q)) + sum(x);")
	other := mustType("fn inc(x: u8) -> u8 { return x + 2; } fn sum(y: u8) -> u8 { return y; } kernel k(x: u8) -> u8 { return inc(sum(x)); }")
	want := results(n)
	checkLimit(t, mustType(doubling(30, "x")+"kernel k() -> u8 { return d0(1); }"))
	inlined(t, other)
	checkNotTyped(t, parser.Bare(n))
	if got := results(n); !same(got, want) {
		t.Errorf("%v, then %v", want, got)
	}
}
